import PyProof.Rows.All
import Wide.All
import OpenK.AllK
import Wide.FinOn
import Lean
import PyProof.EqAt
import PyProof.EqKinds
import PyProof.TupleCall
import PyProof.NeKinds
import PySem.Challenge.RW_seamhall_k20_ranks
set_option bootstrap.genMatcherCode false
set_option compiler.extract_closed false
set_option Elab.async false
set_option linter.all false
set_option maxRecDepth 100000
set_option maxHeartbeats 4000000
namespace L2
open PySem PySem.Spec PyProof.Rows
noncomputable abbrev Key:=Sum Int Str
noncomputable def keyIs:Key→Value→Bool
  | .inl k,v=>Value.isInt k v
  | .inr x,v=>Value.isStrOf x v
noncomputable def keyH (w:World):Key→Int
  | .inl k=>hashInt k
  | .inr x=>hashStr w x
theorem keyIs_shape:∀{k:Key} {v:Value},keyIs k v=true→(∃i t,k=Sum.inl i∧v=Value.int i t)∨(∃x t,k=Sum.inr x∧v=Value.str x t)
  | .inl i,v,h=>by
    obtain⟨t,e⟩:=Value.isInt_shape (k:=i) (v:=v) h
    exact .inl ⟨i,t,rfl,e⟩
  | .inr x,v,h=>by
    obtain⟨t,e⟩:=Value.isStrOf_shape (x:=x) (v:=v) h
    exact .inr ⟨x,t,rfl,e⟩
theorem key_ll (a b:Int):decide ((Sum.inl a:Key)=Sum.inl b)=(a ==b):=by
  by_cases e:a=b
  · subst e;simp
  · have h:¬(Sum.inl a:Key)=Sum.inl b:=fun q=>e (Sum.inl.inj q)
    rw[decide_eq_false h]
    exact (beq_eq_false_iff_ne.mpr e).symm
theorem key_rr (a b:Str):decide ((Sum.inr a:Key)=Sum.inr b)=decide (a=b):=by
  by_cases e:a=b
  · subst e;simp
  · have h:¬(Sum.inr a:Key)=Sum.inr b:=fun q=>e (Sum.inr.inj q)
    rw[decide_eq_false h,decide_eq_false e]
theorem key_lr (a:Int) (b:Str):decide ((Sum.inl a:Key)=Sum.inr b)=false:=decide_eq_false (fun q=>nomatch q)
theorem key_rl (a:Str) (b:Int):decide ((Sum.inr a:Key)=Sum.inl b)=false:=decide_eq_false (fun q=>nomatch q)
noncomputable def mixKind (prog:Program) (w:World):PySem.KeyKind prog w Key where
  is:=keyIs
  hash:=keyH w
  inj :=fun v a b ha hb=>by
    rcases keyIs_shape ha with⟨i,t,rfl,rfl⟩ |⟨x,t,rfl,rfl⟩
    · rcases keyIs_shape hb with⟨j,u,rfl,e⟩ |⟨y,u,rfl,e⟩
      · injection e with e1 _;rw[e1]
      · exact nomatch e
    · rcases keyIs_shape hb with⟨j,u,rfl,e⟩ |⟨y,u,rfl,e⟩
      · exact nomatch e
      · injection e with e1 _;rw[e1]
  byValue:=fun k v h=>by
    rcases keyIs_shape h with⟨i,t,rfl,rfl⟩ |⟨x,t,rfl,rfl⟩ <;> rfl
  pyHash:=fun hv h=>by
    rcases keyIs_shape hv with⟨i,t,rfl,rfl⟩ |⟨x,t,rfl,rfl⟩
    · exact wpAny_pyHash_int h
    · exact wpAny_pyHash_str h
  eqBool:=fun hu hv h=>by
    rcases keyIs_shape hu with⟨i,t,rfl,rfl⟩ |⟨x,t,rfl,rfl⟩
    · rcases keyIs_shape hv with⟨j,u,rfl,rfl⟩ |⟨y,u,rfl,rfl⟩
      · rw[key_ll] at h;exact wpAny_eqBool_int h
      · rw[key_lr] at h;exact SeqAt.EqAt.int_str i t y u _ _ _ _ h
    · rcases keyIs_shape hv with⟨j,u,rfl,rfl⟩ |⟨y,u,rfl,rfl⟩
      · rw[key_rl] at h;exact SeqAt.EqAt.str_int x t j u _ _ _ _ h
      · rw[key_rr] at h;exact wpAny_eqBool_str h
  «strs»:=fun k x t v h=>by
    rcases keyIs_shape h with⟨i,u,rfl,e⟩ |⟨y,u,rfl,e⟩
    · exact nomatch e
    · injection e with e1 _
      subst e1
      cases v <;> rfl
end L2
namespace L2
open PySem PySem.Spec PyProof.Rows
inductive V where
  |non |bl (b:Bool) |int (i:Int) |str (x:Str) |byt (b:Array UInt8) |flt (b:UInt64) |ref (a:Addr) |ty (n:String)
  deriving DecidableEq
noncomputable def RelV:V→Value→Prop
  | .non,u=>u=Value.none
  | .bl b,u=>u=Value.bool b
  | .int i,u=>∃t,u=Value.int i t
  | .str x,u=>∃t,u=Value.str x t
  | .byt b,u=>∃t,u=Value.bytes b t
  | .flt b,u=>∃t,u=Value.float b t
  | .ref a,u=>u=Value.ref a
  | .ty n,u=>u=Value.type n
noncomputable abbrev Vals:List V→List Value→Prop:=Paired RelV
theorem Vals.length {xs:List V} {us:List Value} (r:Vals xs us):xs.length=us.length:=Paired.length r
theorem Vals.get:∀{xs:List V} {us:List Value} {i:Nat} {x:V},Vals xs us→xs[i]?=some x→∃u,us[i]?=some u∧RelV x u
  |_,_,_,_,.nil,e=>by simp at e
  |_,_,0,_,.cons r _,e=>by simp at e;subst e;exact⟨_,rfl,r⟩
  | _,_,i+1,x,.cons _ t,e=>by
    obtain⟨u,h1,h2⟩:=Vals.get (i:=i) (x:=x) t (by simpa using e)
    exact⟨u,by simpa using h1,h2⟩
theorem Vals.append:∀{xs ys:List V} {us ws:List Value},Vals xs us→Vals ys ws→Vals (xs++ys) (us++ws)
  :=by
  intro xs ys us ws h q
  induction h with
  |nil=>exact q
  |cons r t ih=>exact .cons r ih
theorem Vals.take:∀{xs:List V} {us:List Value} (n:Nat),Vals xs us→Vals (xs.take n) (us.take n)
  |_,_,0,_=> .nil
  |_,_,_+1,.nil=> .nil
  |_,_,n+1,.cons r t=> .cons r (Vals.take n t)
theorem Vals.drop:∀{xs:List V} {us:List Value} (n:Nat),Vals xs us→Vals (xs.drop n) (us.drop n)
  |_,_,0,r=>r
  |_,_,_+1,.nil=> .nil
  |_,_,n+1,.cons _ t=>Vals.drop n t
noncomputable def RelO:Option V→Option Value→Prop
  |some v,some u=>RelV v u
  |none,none=>True
  |_,_=>False
noncomputable def KV {κ:Type}:List (κ×V)→List (κ×Value)→Prop:=Paired fun (p:κ×V) (q:κ×Value)=>p.1=q.1∧RelV p.2 q.2
noncomputable def kV:Key→V
  | .inl i=> .int i
  | .inr x=> .str x
inductive HO where
  /-- a list -/
  |lst (xs:List V)
  /-- a tuple (never changes) -/
  |tup (xs:List V)
  /-- a dict whose keys are ints and texts;one whose keys are tuples of ints and texts (the empty one is both) -/
  |dK (kvs:List (Key×V)) |dT (kvs:List (List Key×V))
  /-- a set of ints:its members,its size -/
  |set (S:Int→Bool) (n:Nat)
  /-- an instance of the class at C,its dict at dx,its attributes -/
  |ins (C dx:Addr) (fs:List (Str×V))
  /-- the dict of the instance at x -/
  |own (x:Addr)
  /-- the dict of an exception -/
  |xd (fs:List (Str×V))
  /-- a bound method,f of x -/
  |met (f x:Addr)
  /-- a range object lo,lo+1,.. below hi -/
  |rng (lo hi:Int)
  /-- a thing that is known to the object (the script;a dict while a loop walks it):read,never written while it is so -/
  |frz (o:Obj) (u:HO)
  /-- a code object's table -/
  |tbl (ps:Array Value)
  /-- any other thing,by what is true of its one object (a def of one's own:SetO a S n:=HO.ext fun h=> ..) -/
  |ext (φ:Heap→Prop)
noncomputable abbrev Hp:=Addr→Option HO
noncomputable def upd (H:Hp) (a:Addr) (o:HO):Hp:=fun b=>if b=a then some o else H b
theorem upd_same {H:Hp} {a:Addr} {o:HO}:upd H a o a=some o:=by unfold upd;rw[if_pos rfl]
theorem upd_ne {H:Hp} {a b:Addr} {o:HO} (h:b≠a):upd H a o b=H b:=by unfold upd;rw[if_neg h]
theorem ne_of_none {H:Hp} {a b:Addr} {o:HO} (h:H a=some o) (h':H b=none):a≠b:=by
  intro e;subst e;rw[h] at h';cases h'
section
variable (P:Program) (w:World)
noncomputable def ObjOk (H:Hp) (h:Heap) (a:Addr):HO→Prop
  | .lst xs=>xs.length≤sizeLine∧∃(its:List Value) (n:Nat),Vals xs its∧h.get? a=some {cls:= .type "list",data:= .seq its.toArray n}
  | .tup xs=>xs.length≤sizeLine∧∃its:List Value,Vals xs its∧IsTup h a its.toArray
  | .dK kvs=>kvs.length≤sizeLine∧(a ==sysModules)=false∧∃vs,KV kvs vs∧h.DictOf (mixKind P w) a vs
  | .dT kvs=>kvs.length≤sizeLine∧(a ==sysModules)=false∧∃xs:List (List Key×Addr×Value),
      Paired (fun (p:List Key×V) (q:List Key×Addr×Value)=>p.1=q.1∧H q.2.1=some (.tup (p.1.map kV))∧RelV p.2 q.2.2) kvs xs∧
      ∃o es ep,h.get? a=some o∧o.ExactDict∧o.data= .dict es ep∧es.toList=xs.map (entryOfKey (tupleKind (mixKind P w)))∧(xs.map (·.1)).Nodup
  | .set S n=>h.SetOf (intKind P w) a S n
  | .ins C dx fs=>H dx=some (.own a)∧fs.length≤1000∧dx≠a∧h.get? a=some (PySem.W.instObj C dx)∧
      ∃mA,h.Ns1 dx mA∧(∀f,RelO (fs.lookup f) (mA f))∧PySem.Within mA (fs.map (·.1))
  | .own _=>∃o,h.get? a=some o
  | .xd fs=>∃mA,h.Ns1 a mA∧∀f,RelO (fs.lookup f) (mA f)
  | .rng lo hi=>∃t u v,h.get? a=some {cls:= .type "range",data:= .fields #[.int lo t,.int hi u,.int 1 v]}
  | .frz o u=>h.get? a=some o∧ObjOk H h a u
  | .tbl ps=>∃qs:Array Value,h.get? a=some (PySem.W.tabObj qs)∧TriplesOk qs.toList∧∀pos cv,codeAmong pos qs.toList=some cv→∃c oc vs q t tq,cv= .ref c∧H c=some (.frz oc (.own c))∧oc.data= .fields vs∧vs[1]?=some (.str q t)∧ps[0]?=some (.str q tq)
  | .met f x=>h.get? a=some (PySem.W.methodObj (.ref f) (.ref x))
  | .ext φ=>φ h∧(∃o,h.get? a=some o)∧∀h1 h2:Heap,φ h1→(∀o,h1.get? a=some o→h2.get? a=some o)→φ h2
noncomputable def HOk (H:Hp) (h:Heap):Prop:=∀a o,H a=some o→ObjOk P w H h a o
end
section
variable {P:Program} {w:World} {H H':Hp} {h h':Heap} {a:Addr} {o:HO}
theorem ObjOk.lt (x:ObjOk P w H h a o):a < h.objs.size:=by
  cases o with
  |lst xs=>obtain⟨_,_,_,_,e⟩:=x;exact Heap.lt_size e
  |tup xs=>obtain⟨_,_,_,p⟩:=x;exact p.lt
  |dK kvs=>obtain⟨_,_,_,_,o,_,_,e,_⟩:=x;exact Heap.lt_size e
  |dT kvs=>obtain⟨_,_,_,_,o,_,_,e,_⟩:=x;exact Heap.lt_size e
  |set S n=>obtain⟨o,_,_,_,e,_⟩:=x;exact Heap.lt_size e
  |ins C dx fs=>obtain⟨_,_,_,e,_⟩:=x;exact Heap.lt_size e
  |own y=>obtain⟨_,e⟩:=x;exact Heap.lt_size e
  |xd fs=>obtain⟨_,⟨_,_,_,e,_⟩,_⟩:=x;exact Heap.lt_size e
  |rng lo hi=>obtain⟨_,_,_,e⟩:=x;exact Heap.lt_size e
  |frz ob u=>obtain⟨e,_⟩:=x;exact Heap.lt_size e
  |tbl ps=>obtain⟨_,e,_⟩:=x;exact Heap.lt_size e
  |met f y=>exact Heap.lt_size (show h.get? a=some _ from x)
  |ext φ=>obtain⟨_,⟨_,e⟩,_⟩:=x;exact Heap.lt_size e
theorem Paired.mapP {α β:Type} {F G:α→β→Prop}:∀{l₁:List α} {l₂:List β},Paired F l₁ l₂→(∀a b,F a b→G a b)→Paired G l₁ l₂
  :=by
  intro l₁ l₂ h f
  induction h with
  |nil=>exact .nil
  |cons r t ih=>exact .cons (f _ _ r) ih
theorem ObjOk.stay (x:ObjOk P w H h a o) (k:∀b u,(b=a∨H b=some (.own a))→h.get? b=some u→h'.get? b=some u)
    (ho:∀b,H b=some (.own a)→H' b=some (.own a)) (ht:∀b xs,H b=some (.tup xs)→H' b=some (.tup xs)) (hz:∀b o u,(∃vs,o.data= .fields vs)→H b=some (.frz o u)→H' b=some (.frz o u)):ObjOk P w H' h' a o:=by
  induction o with
  |lst xs=>obtain⟨z,its,n,r,e⟩:=x;exact⟨z,its,n,r,k _ _ (.inl rfl) e⟩
  |tup xs=>obtain⟨z,its,r,ob,e,c⟩:=x;exact⟨z,its,r,ob,k _ _ (.inl rfl) e,c⟩
  |dK kvs=>obtain⟨z,y,vs,r,ob,es,ep,e,c⟩:=x;exact⟨z,y,vs,r,ob,es,ep,k _ _ (.inl rfl) e,c⟩
  | dT kvs=>
    obtain⟨z,y,xs,r,ob,es,ep,e,c⟩:=x
    exact⟨z,y,xs,Paired.mapP r fun p q z=>⟨z.1,ht _ _ z.2.1,z.2.2⟩,ob,es,ep,k _ _ (.inl rfl) e,c⟩
  |set S n=>obtain⟨ob,es,ep,t,e,c⟩:=x;exact⟨ob,es,ep,t,k _ _ (.inl rfl) e,c⟩
  | ins C dx fs=>
    obtain⟨d,z,ne,e,mA,⟨od,es,ep,e2,c⟩,r⟩:=x
    exact⟨ho _ d,z,ne,k _ _ (.inl rfl) e,mA,⟨od,es,ep,k _ _ (.inr d) e2,c⟩,r⟩
  |own y=>obtain⟨ob,e⟩:=x;exact⟨ob,k _ _ (.inl rfl) e⟩
  |xd fs=>obtain⟨mA,⟨od,es,ep,e,c⟩,r⟩:=x;exact⟨mA,⟨od,es,ep,k _ _ (.inl rfl) e,c⟩,r⟩
  |rng lo hi=>obtain⟨t,u,v,e⟩:=x;exact⟨t,u,v,k _ _ (.inl rfl) e⟩
  |frz ob u ih=>obtain⟨e,q⟩:=x;exact⟨k _ _ (.inl rfl) e,ih q⟩
  | tbl ps=>
    obtain⟨qs,e,tr,al⟩:=x
    exact⟨qs,k a _ (.inl rfl) e,tr,fun p cv z=>by
      obtain⟨c,oc,vs,q,t,tq,e1,e2,e3,r⟩:=al p cv z
      exact⟨c,oc,vs,q,t,tq,e1,hz _ _ _ ⟨vs,e3⟩ e2,e3,r⟩⟩
  | met f y=>
    have e:h.get? a=some (PySem.W.methodObj (.ref f) (.ref y)):=x
    show h'.get? a=some (PySem.W.methodObj (.ref f) (.ref y))
    exact k a _ (.inl rfl) e
  |ext φ=>obtain⟨p,⟨o,e⟩,st⟩:=x;exact⟨st _ _ p fun o q=>k _ _ (.inl rfl) q,⟨o,k _ _ (.inl rfl) e⟩,st⟩
theorem HOk.lt (x:HOk P w H h) (e:H a=some o):a < h.objs.size:=(x a o e).lt
theorem HOk.fresh (x:HOk P w H h) (e:h.objs.size≤a):H a=none:=by
  cases q:H a with
  |none=>rfl
  |some u=>exact absurd (Nat.lt_of_lt_of_le (x.lt q) e) (Nat.lt_irrefl _)
theorem HOk.kept (x:HOk P w H h) (k:∀b u,h.get? b=some u→h'.get? b=some u):HOk P w H h':=fun a o e=>
  (x a o e).stay (fun b u _ q=>k b u q) (fun _ q=>q) (fun _ _ q=>q) fun _ _ _ _ q=>q
theorem HOk.laid (x:HOk P w H h) (k:∀b u,h.get? b=some u→h'.get? b=some u) (hp:h.objs.size≤a) (new:ObjOk P w (upd H a o) h' a o):HOk P w (upd H a o) h':=fun b u e=>by
  have hn:=x.fresh hp
  by_cases hb:b=a
  · subst hb;rw[upd_same] at e;cases e;exact new
  · rw[upd_ne hb] at e
    exact (x b u e).stay (fun c v _ q=>k c v q) (fun c q=>by rw[upd_ne (ne_of_none q hn)];exact q) (fun c xs q=>by rw[upd_ne (ne_of_none q hn)];exact q) fun c _ _ _ q=>by rw[upd_ne (ne_of_none q hn)];exact q
end
noncomputable def Rd (H:Hp) (a:Addr) (u:HO):Prop:=H a=some u∨∃o,H a=some (.frz o u)
theorem Rd.ok {P:Program} {w:World} {H:Hp} {h:Heap} {a:Addr} {u:HO} (r:Rd H a u) (x:HOk P w H h):ObjOk P w H h a u:=by
  rcases r with r |⟨o,r⟩
  · exact x a u r
  · obtain⟨_,q⟩:=x a _ r
    exact q
noncomputable def Mut:Option HO→Prop
  |some (.lst _)=>True
  |some (.dK _)=>True
  |some (.dT _)=>True
  |some (.set _ _)=>True
  |some (.ins _ _ _)=>True
  |some (.ext _)=>True
  |_=>False
section
variable {P:Program} {w:World} {H:Hp} {h h':Heap} {x e:Addr} {o':HO}
theorem HOk.write (ok:HOk P w H h) (mu:Mut (H x)) (he:e=x∨H e=some (.own x)) (k:∀b u,b≠e→h.get? b=some u→h'.get? b=some u) (heo:∃u,h'.get? e=some u)
    (new:ObjOk P w (upd H x o') h' x o'):HOk P w (upd H x o') h':=fun b u q=>by
  have nown:∀c y,H c=some (.own y)→c≠x:=fun c y r z=>by subst z;rw[r] at mu;exact mu
  have ntup:∀c xs,H c=some (.tup xs)→c≠x:=fun c xs r z=>by subst z;rw[r] at mu;exact mu
  by_cases hb:b=x
  · subst hb;rw[upd_same] at q;cases q;exact new
  · rw [upd_ne hb] at q
    by_cases hbe:b=e
    · have q':H b=some (.own x):=by
        rcases he with z |z
        · exact absurd (hbe.trans z) hb
        · rw[hbe];exact z
      rw[q] at q';cases q'
      obtain⟨v,hv⟩:=heo
      exact⟨v,by rw[hbe];exact hv⟩
    · refine (ok b u q).stay (fun c v hc r=>k c v ?_ r) (fun c r=>by rw[upd_ne (nown c b r)];exact r) (fun c xs r=>by rw[upd_ne (ntup c xs r)];exact r) fun c o1 u1 _ r=>by rw[upd_ne (fun z=>by rw[z] at r;rw[r] at mu;exact mu)];exact r
      rcases hc with rfl |hc
      · exact hbe
      · rintro rfl
        rcases he with z |z
        · exact nown c b hc z
        · rw[hc] at z;cases z;exact hb rfl
end
structure Un (fs ex:List Addr) (H H':Hp) (h h':Heap):Prop where
  keep:∀b o,h.get? b=some o→H b=none→b∉fs→b∉ex→h'.get? b=some o
  slot:∀b o,h.get? b=some o→H b=none→b∈fs→b∉ex→∃sl,h'.get? b=some {o with slots:=sl}
  free:∀b o,h.get? b=some o→H b=none→b∉ex→H' b=none
  there:∀b o,h.get? b=some o→b∉ex→∃o',h'.get? b=some o'
  tups:∀b xs,H b=some (.tup xs)→H' b=some (.tup xs)
  frzs:∀b o u,H b=some (.frz o u)→H' b=some (.frz o u)
  tbls:∀b ps,H b=some (.tbl ps)→∃more,H' b=some (.tbl (ps++more))
section
variable {fs fs' ex ex':List Addr} {H H1 H2:Hp} {h h1 h2 h':Heap} {a x e:Addr} {o:HO}
theorem Un.any (u:Un fs ex H H1 h h1) {b:Addr} {ob:Obj} (q:h.get? b=some ob) (n:H b=none) (hx:b∉ex):∃sl,h1.get? b=some {ob with slots:=sl}:=by
  by_cases hb:b∈fs
  · exact u.slot b ob q n hb hx
  · exact⟨ob.slots,u.keep b ob q n hb hx⟩
theorem Un.kept (k:∀b u,h.get? b=some u→h'.get? b=some u):Un fs ex H H h h':=
  ⟨fun b ob q _ _ _=>k b ob q,fun b ob q _ _ _=>⟨ob.slots,k b ob q⟩,fun _ _ _ n _=>n,fun b ob q _=>⟨ob,k b ob q⟩,fun _ _ q=>q,fun _ _ _ q=>q,fun _ ps q=>⟨#[],by rw[q];simp⟩⟩
theorem Un.refl:Un fs ex H H h h:=Un.kept fun _ _ q=>q
theorem Un.laid (k:∀b u,h.get? b=some u→h'.get? b=some u) (hp:h.objs.size≤a) (hn:H a=none):Un fs ex H (upd H a o) h h' where
  keep:=fun b u q _ _ _=>k b u q
  slot:=fun b u q _ _ _=>⟨u.slots,k b u q⟩
  free:=fun b u q n _=>by rw[upd_ne (Nat.ne_of_lt (Nat.lt_of_lt_of_le (Heap.lt_size q) hp))];exact n
  there:=fun b u q _=>⟨u,k b u q⟩
  tups:=fun b xs q=>by rw[upd_ne (ne_of_none q hn)];exact q
  frzs:=fun b u xs q=>by rw[upd_ne (ne_of_none q hn)];exact q
  tbls:=fun b ps q=>⟨#[],by rw[upd_ne (ne_of_none q hn),q];simp⟩
theorem Un.write (mu:Mut (H x)) (he:e=x∨H e=some (.own x)) (k:∀b u,b≠e→h.get? b=some u→h'.get? b=some u) (heo:∃u,h'.get? e=some u):Un fs ex H (upd H x o) h h':=by
  have hx:∀b,H b=none→b≠x:=fun b n z=>by subst z;rw[n] at mu;exact mu
  have hb:∀b,H b=none→b≠e:=fun b n z=>by
    subst z
    rcases he with r |r
    · exact hx b n r
    · rw[n] at r;cases r
  have hm:∀b u,H b=some u→¬Mut (some u)→b≠x:=fun b u q nm z=>by subst z;rw[q] at mu;exact nm mu
  refine⟨fun b u q n _ _=>k b u (hb b n) q,fun b u q n _ _=>⟨u.slots,k b u (hb b n) q⟩,fun b u q n _=>by rw[upd_ne (hx b n)];exact n,fun b u q _=>?_,
    fun b xs q=>by rw[upd_ne (hm b _ q fun z=>z)];exact q,fun b u xs q=>by rw[upd_ne (hm b _ q fun z=>z)];exact q,fun b ps q=>⟨#[],by rw[upd_ne (hm b _ q fun z=>z),q];simp⟩⟩
  by_cases hbe:b=e
  · subst hbe;exact heo
  · exact⟨u,k b u hbe q⟩
end
noncomputable def trk (h:Heap) (H:Hp):List Addr:=(List.range h.objs.size).filter fun a=>(H a).isSome
noncomputable def hidT (h:Heap) (H:Hp):Heap:=PySem.W.hideAll h (trk h H)
theorem hidT_size (h:Heap) (H:Hp):(hidT h H).objs.size=h.objs.size:=PySem.W.hideAll_size _ _
theorem hidT_get {h:Heap} {H:Hp} {b:Addr} {o:Obj} (e:h.get? b=some o) (n:H b=none):(hidT h H).get? b=some o:=
  PySem.W.hideAll_get _ e fun hm=>by
    have q:(H b).isSome=true:=(List.mem_filter.mp hm).2
    rw[n] at q;simp at q
theorem of_hidT {h:Heap} {H:Hp} {b:Addr} {o:Obj} (e:(hidT h H).get? b=some o):h.get? b=some o∧H b=none:=by
  have e':h.get? b=some o:=PySem.W.of_hideAll (trk h H) e
  refine⟨e',?_⟩
  cases q:H b with
  |none=>rfl
  | some x=>
    have hm:b∈trk h H:=List.mem_filter.mpr ⟨List.mem_range.mpr (Heap.lt_size e'),by simp[q]⟩
    have z:(hidT h H).get? b=none:=PySem.W.hideAll_none (trk h H) hm
    rw[z] at e;cases e
noncomputable def allNews (g h:Heap) (L:Addr):List (Addr×Obj):=(List.range h.objs.size).filterMap fun a=>if a=L∨(g.get? a).isSome=true then none else (h.get? a).map fun o=>(a,o)
noncomputable def rest (g h:Heap) (L d:Addr):List (Addr×Obj):=(allNews g h L).filter fun p=>decide (p.1≠d)
end L2
namespace L2
open PySem PySem.Spec PyProof.Rows
structure Mod (K:PySem.W.Frag) (mg:Str→Option Value) (base:Heap):Prop where
  kin:K.In base
  glob:base.Ns mainGlobals mg
  blt:∃mb,base.Ns builtinsNs mb∧∀x:Str,x≠"__name__"→mb x=bootBuiltins x
  nolimit:base.NoLimit
structure Cx where
  prog:Program
  w:World
  K:PySem.W.Frag
  mg:Str→Option Value
  base:Heap
  A:Around
  N:List Str
  s₀:Shared
  H₀:Hp
  env:Env
  outer:List Env
  stack:List Env
  ex:List Addr
  fn:Str→Bool
  calm:Bool
  pn:List (Addr×Obj)
  xe:Value→Shared→Prop
noncomputable def frs (l:List Env):List Addr:=l.filterMap (·.frame)
noncomputable abbrev Cx.fs (X:Cx):List Addr:=frs X.outer
noncomputable def Vis (sc:Scope) (x:Str):Prop:=sc.names.lookup x=some .local∨sc.names.lookup x=some .cell∨sc.names.lookup x=some .free
noncomputable def Loc (sc:Scope) (x:Str):Prop:=sc.names.lookup x=some .local∨sc.names.lookup x=some .cell
noncomputable def Look (env:Env) (h:Heap) (m:Str→Option Value) (x:Str) (u:Value):Prop:=
  (env.kindOf x=some .local∧m x=some u)∨((env.kindOf x=some .cell∨env.kindOf x=some .free)∧∃c,env.cells.lookup x=some c∧h.IsCell c (some u))
structure Cx.Ok (X:Cx):Prop where
  mod:Mod X.K X.mg X.base
  kind:X.env.scope.kind= .function
  glob:X.env.globals=mainGlobals
  blt:X.env.builtins=builtinsNs
  above:X.s₀.heap.objs.size≤X.env.locals
  inj:∀x y c,X.env.cells.lookup x=some c→X.env.cells.lookup y=some c→x=y
  has:∀x,(X.env.kindOf x=some .cell∨X.env.kindOf x=some .free)→∃c,X.env.cells.lookup x=some c
  cab:∀x c,X.fn x=true→X.env.cells.lookup x=some c→X.s₀.heap.objs.size≤c
  hd:X.calm=true→X.A.handled=none
  frames:X.A.frames=some X.stack
  stk:X.stack=X.outer∨(X.stack=X.env::X.outer∧X.env.frame=some X.env.locals)
  exf:∀b∈X.ex,b≠X.env.locals∧∀x c,X.env.cells.lookup x=some c→c≠b
  bs:∀b o,X.base.get? b=some o→X.s₀.heap.get? b=some o∧X.H₀ b=none
  bsz:X.base.objs.size≤X.s₀.heap.objs.size
  noex:∀b o,X.base.get? b=some o→b∉X.ex
  exfs:∀b∈X.ex,b∉X.fs
  funs:X.s₀.heap.FunFrames X.base X.outer
  frf:∀b∈X.fs,X.H₀ b=none
structure Inv (X:Cx) (pins:List (Addr×Obj)) (σ:List (Option V)) (H:Hp) (s:Shared):Prop where
  ok:X.Ok
  os:s.os=X.s₀.os
  bare:AllBare s.gens
  base:Un X.fs X.ex X.H₀ H X.s₀.heap s.heap
  loc:∃m,s.heap.Ns X.env.locals m∧∀(i:Nat) (x:Str) (v:V),X.N[i]?=some x→σ[i]?=some (some v)→Vis X.env.scope x→∃u,RelV v u∧Look X.env s.heap m x u
  cell:∀x c,X.env.cells.lookup x=some c→∃v,s.heap.IsCell c v
  free:H X.env.locals=none
  freeC:∀x c,X.env.cells.lookup x=some c→H c=none
  pin:∀p∈X.pn++pins,s.heap.get? p.1=some p.2∧H p.1=none∧p.1≠X.env.locals∧p.1∉X.fs∧∀v,p.2.data≠.cell v
  hok:HOk X.prog X.w H s.heap
  len:σ.length=X.N.length
section
variable {X:Cx} {pins:List (Addr×Obj)} {σ:List (Option V)} {H H':Hp} {s:Shared} {h':Heap}
theorem Cx.Ok.nofr (ok:X.Ok) {b:Addr} {o:Obj} (e:X.base.get? b=some o):b∉X.fs:=fun hb=>by
  have:=(ok.funs.mem hb).1
  rw[e] at this;cases this
theorem Inv.bs (I:Inv X pins σ H s):∀b o,X.base.get? b=some o→s.heap.get? b=some o∧H b=none:=fun b o e=>
  ⟨I.base.keep b o (I.ok.bs b o e).1 (I.ok.bs b o e).2 (I.ok.nofr e) (I.ok.noex b o e),I.base.free b o (I.ok.bs b o e).1 (I.ok.bs b o e).2 (I.ok.noex b o e)⟩
theorem Inv.bk (I:Inv X pins σ H s):∀b o,X.base.get? b=some o→s.heap.get? b=some o:=fun b o e=>(I.bs b o e).1
theorem Inv.mod (I:Inv X pins σ H s):Mod X.K X.mg X.base:=I.ok.mod
theorem Inv.kIn (I:Inv X pins σ H s):X.K.In s.heap:=I.ok.mod.kin.keeps I.bk
theorem Inv.lt (I:Inv X pins σ H s):X.env.locals < s.heap.objs.size:=let ⟨_,hn,_⟩:=I.loc;hn.lt
theorem Inv.sz (I:Inv X pins σ H s):X.s₀.heap.objs.size≤s.heap.objs.size:=Nat.le_trans I.ok.above (Nat.le_of_lt I.lt)
theorem Inv.nofs (I:Inv X pins σ H s) {a:Addr} (h:s.heap.objs.size≤a):a∉X.fs:=fun hb=>by
  obtain⟨_,o,ho,_⟩:=I.ok.funs.mem hb
  exact absurd (Nat.lt_of_lt_of_le (Heap.lt_size ho) (Nat.le_trans I.sz h)) (Nat.lt_irrefl _)
theorem Inv.cne (I:Inv X pins σ H s):∀x c,X.env.cells.lookup x=some c→c≠X.env.locals:=fun x c e z=>by
  obtain⟨v,o,ho,hd⟩:=I.cell x c e
  obtain⟨m,⟨o',es,ep,ho',hd',_⟩,_⟩:=I.loc
  rw[z,ho'] at ho;cases ho;rw[hd'] at hd;cases hd
theorem Inv.funs (I:Inv X pins σ H s):s.heap.FunFrames X.base X.outer:=by
  have all:∀(l:List Env),(∀b∈frs l,b∈X.fs)→X.s₀.heap.FunFrames X.base l→s.heap.FunFrames X.base l:=by
    intro l
    induction l with
    |nil=>intro _ _;trivial
    | cons env r ih=>
      intro hs hl
      obtain⟨hk,⟨L,o,hf,hn,ho,hd⟩,hr⟩:=hl
      have hL:L∈X.fs:=hs L (by unfold frs;rw[List.filterMap_cons,hf];exact List.mem_cons_self)
      obtain⟨sl,e⟩:=I.base.slot L o ho (I.ok.frf L hL) hL fun z=>I.ok.exfs L z hL
      exact⟨hk,⟨L,_,hf,hn,e,hd⟩,ih (fun b hb=>hs b (by unfold frs;rw[List.filterMap_cons,hf];exact List.mem_cons_of_mem _ hb)) hr⟩
  exact all X.outer (fun _ hb=>hb) I.ok.funs
theorem Inv.stack (I:Inv X pins σ H s):s.heap.FunFrames X.base X.stack:=by
  rcases I.ok.stk with e |⟨e,hf⟩
  · rw[e];exact I.funs
  · rw[e]
    obtain⟨m,hn,_⟩:=I.loc
    refine .cons (by rw[I.ok.kind];decide) hf hn ?_ I.funs
    exact Heap.get?_none_of_le (Nat.le_trans I.ok.bsz I.ok.above)
theorem Inv.stkSub (I:Inv X pins σ H s):∀b∈frs X.stack,b∈X.env.locals::X.fs:=fun b hb=>by
  rcases I.ok.stk with e |⟨e,hf⟩
  · rw[e] at hb;exact List.mem_cons_of_mem _ hb
  · rw[e] at hb
    unfold frs at hb
    rw[List.filterMap_cons,hf] at hb
    exact hb
theorem Inv.stkFree (I:Inv X pins σ H s):∀b∈frs X.stack,H b=none:=fun b hb=>by
  rcases List.mem_cons.mp (I.stkSub b hb) with e |hb
  · rw[e];exact I.free
  · obtain⟨_,o,ho,_⟩:=I.ok.funs.mem hb
    exact I.base.free b o ho (I.ok.frf b hb) fun z=>I.ok.exfs b z hb
theorem Inv.step {g':Array GenState} {t':Nat} {d':Drawn} {ch:List Addr} (I:Inv X pins σ H s)
    (hch:∀b∈ch,(b∈X.ex∨X.s₀.heap.objs.size≤b)∧b≠X.env.locals∧(∀x c,X.env.cells.lookup x=some c→c≠b)∧∀p∈X.pn++pins,p.1≠b)
    (keep:∀b o,b≠X.env.locals→b∉X.fs→b∉ch→s.heap.get? b=some o→H b=none→h'.get? b=some o)
    (slot:∀b o,b≠X.env.locals→b∈X.fs→b∉ch→s.heap.get? b=some o→H b=none→∃sl,h'.get? b=some {o with slots:=sl}) (free:∀b o,b∉ch→s.heap.get? b=some o→H b=none→H' b=none)
    (there:∀b o,b∉ch→s.heap.get? b=some o→∃o',h'.get? b=some o')
    (tups:∀b xs,H b=some (.tup xs)→H' b=some (.tup xs)) (frzs:∀b o u,H b=some (.frz o u)→H' b=some (.frz o u)) (tbls:∀b ps,H b=some (.tbl ps)→∃more,H' b=some (.tbl (ps++more)))
    (ns:∀m,s.heap.Ns X.env.locals m→h'.Ns X.env.locals m) (hok:HOk X.prog X.w H' h') (hg:AllBare g'):
    Inv X pins σ H' {s with heap:=h',gens:=g',drawn:=d',toks:=t'}:=by
  have neL:∀b o,X.s₀.heap.get? b=some o→b≠X.env.locals:=fun b o e=>Nat.ne_of_lt (Nat.lt_of_lt_of_le (Heap.lt_size e) I.ok.above)
  have neC:∀b o,X.s₀.heap.get? b=some o→b∉X.ex→b∉ch:=fun b o e hx hb=>by
    rcases (hch b hb).1 with z |z
    · exact hx z
    · exact absurd (Nat.lt_of_lt_of_le (Heap.lt_size e) z) (Nat.lt_irrefl _)
  have cellK:∀x c,X.env.cells.lookup x=some c→∀v,s.heap.IsCell c v→h'.IsCell c v:=fun x c e v ⟨o,ho,hd⟩=>by
    have nch:c∉ch:=fun z=>(hch c z).2.2.1 x c e rfl
    by_cases hc:c∈X.fs
    · obtain⟨sl,q⟩:=slot c o (I.cne x c e) hc nch ho (I.freeC x c e)
      exact⟨_,q,hd⟩
    · exact⟨o,keep c o (I.cne x c e) hc nch ho (I.freeC x c e),hd⟩
  refine⟨I.ok,I.os,hg,⟨fun b o e n hb hx=>?_,fun b o e n hb hx=>?_,fun b o e n hx=>?_,fun b o e hx=>?_,fun b xs e=>tups b xs (I.base.tups b xs e),fun b o xs e=>frzs b o xs (I.base.frzs b o xs e),fun b ps e=>?_⟩,?_,fun x c e=>?_,?_,fun x c e=>?_,fun p hp=>?_,hok,I.len⟩
  · exact keep b o (neL b o e) hb (neC b o e hx) (I.base.keep b o e n hb hx) (I.base.free b o e n hx)
  · obtain⟨sl,e1⟩:=I.base.slot b o e n hb hx
    obtain⟨sl',e2⟩:=slot b _ (neL b o e) hb (neC b o e hx) e1 (I.base.free b o e n hx)
    exact⟨sl',e2⟩
  · obtain⟨o',e1⟩:=I.base.there b o e hx
    exact free b o' (neC b o e hx) e1 (I.base.free b o e n hx)
  · obtain⟨o',e1⟩:=I.base.there b o e hx
    exact there b o' (neC b o e hx) e1
  · obtain⟨m1,e1⟩:=I.base.tbls b ps e
    obtain⟨m2,e2⟩:=tbls b _ e1
    exact⟨m1++m2,by rw[e2,Array.append_assoc]⟩
  · obtain⟨m,hn,hl⟩:=I.loc
    refine⟨m,ns m hn,fun i x v e1 e2 e3=>?_⟩
    obtain⟨u,r,l⟩:=hl i x v e1 e2 e3
    refine⟨u,r,?_⟩
    rcases l with l |⟨k,c,e,z⟩
    · exact .inl l
    · exact .inr ⟨k,c,e,cellK x c e _ z⟩
  · obtain⟨v,z⟩:=I.cell x c e
    exact⟨v,cellK x c e v z⟩
  · obtain⟨m,⟨o,_,_,ho,_⟩,_⟩:=I.loc
    exact free _ o (fun z=>(hch _ z).2.1 rfl) ho I.free
  · obtain⟨v,o,ho,hd⟩:=I.cell x c e
    exact free c o (fun z=>(hch c z).2.2.1 x c e rfl) ho (I.freeC x c e)
  · obtain⟨e,n,ne,nf,d⟩:=I.pin p hp
    have nch:p.1∉ch:=fun z=>(hch p.1 z).2.2.2 p hp rfl
    exact⟨keep p.1 p.2 ne nf nch e n,free p.1 p.2 nch e n,ne,nf,d⟩
theorem Inv.un {t':Nat} (I:Inv X pins σ H s) (u:Un X.fs [] H H' s.heap h') (hok:HOk X.prog X.w H' h'):Inv X pins σ H' {s with heap:=h',toks:=t'}:=by
  obtain⟨m,⟨o,es,ep,ho,r⟩,_⟩:=id I.loc
  obtain⟨sl,hL⟩:=u.any ho I.free (by simp)
  exact I.step (g':=s.gens) (d':=s.drawn) (ch:=[]) (fun _ z=>nomatch z) (fun b o _ hb _ e n=>u.keep b o e n hb (by simp)) (fun b o _ hb _ e n=>u.slot b o e n hb (by simp)) (fun b o _ e n=>u.free b o e n (by simp)) (fun b o _ e=>u.there b o e (by simp)) u.tups u.frzs u.tbls (fun m' hm=>by
    obtain⟨o',es',ep',ho',r'⟩:=hm
    rw[ho] at ho';cases ho'
    exact⟨_,es',ep',hL,r'⟩) hok I.bare
theorem Inv.call {g':Array GenState} {t':Nat} {d':Drawn} {ch:List Addr} (I:Inv X pins σ H s) (u:Un (frs X.stack) ch H H' s.heap h') (hok:HOk X.prog X.w H' h') (hg:AllBare g')
    (hch:∀b∈ch,(b∈X.ex∨X.s₀.heap.objs.size≤b)∧b≠X.env.locals∧(∀x c,X.env.cells.lookup x=some c→c≠b)∧∀p∈X.pn++pins,p.1≠b):
    Inv X pins σ H' {s with heap:=h',gens:=g',drawn:=d',toks:=t'}:=by
  obtain⟨m,⟨o,es,ep,ho,r⟩,_⟩:=id I.loc
  obtain⟨sl,hL⟩:=u.any ho I.free fun z=>(hch _ z).2.1 rfl
  exact I.step (ch:=ch) hch (fun b o hL hb hc e n=>u.keep b o e n (fun z=>(List.mem_cons.mp (I.stkSub b z)).elim hL hb) hc) (fun b o _ _ hc e n=>u.any e n hc) (fun b o hc e n=>u.free b o e n hc) (fun b o hc e=>u.there b o e hc) u.tups u.frzs u.tbls (fun m' hm=>by
    obtain⟨o',es',ep',ho',r'⟩:=hm
    rw[ho] at ho';cases ho'
    exact⟨_,es',ep',hL,r'⟩) hok hg
theorem Inv.turned {t':Nat} {it:Addr} (I:Inv X pins σ H s) (k:∀b o,b≠it→s.heap.get? b=some o→h'.get? b=some o) (hn:H it=none) (hL:it≠X.env.locals)
    (h1:it∈X.ex∨X.s₀.heap.objs.size≤it) (h2:∀x c,X.env.cells.lookup x=some c→c≠it) (h3:∀p∈X.pn++pins,p.1≠it):Inv X pins σ H {s with heap:=h',toks:=t'}:=by
  have nit:∀b u,H b=some u→b≠it:=fun b u e z=>by rw[z,hn] at e;cases e
  refine I.step (g':=s.gens) (d':=s.drawn) (ch:=[it]) (fun b hb=>?_) (fun b o _ _ hc e _=>k b o (fun z=>hc (by simp[z])) e) (fun b o _ _ hc e _=>⟨o.slots,k b o (fun z=>hc (by simp[z])) e⟩) (fun _ _ _ _ n=>n)
    (fun b o hc e=>⟨o,k b o (fun z=>hc (by simp[z])) e⟩) (fun _ _ e=>e) (fun _ _ _ e=>e) (fun b ps e=>⟨#[],by rw[e];simp⟩) (fun m hm=>?_) (fun b u e=>?_) I.bare
  · have e:b=it:=by simpa using hb
    subst e
    exact⟨h1,hL,h2,h3⟩
  · obtain⟨o,es,ep,ho,r⟩:=hm
    exact⟨o,es,ep,k _ o (Ne.symm hL) ho,r⟩
  · refine (I.hok b u e).stay (fun c v hc q=>k c v ?_ q) (fun _ q=>q) (fun _ _ q=>q) fun _ _ _ _ q=>q
    rcases hc with z |z
    · rw[z];exact nit b u e
    · exact nit c _ z
theorem Inv.tok (I:Inv X pins σ H s) (t:Nat):Inv X pins σ H {s with toks:=t}:=I.un (h':=s.heap) (t':=t) Un.refl I.hok
theorem Inv.kept {t':Nat} (I:Inv X pins σ H s) (k:∀b u,s.heap.get? b=some u→h'.get? b=some u):Inv X pins σ H {s with heap:=h',toks:=t'}:=I.un (Un.kept k) (I.hok.kept k)
theorem Inv.laid {a:Addr} {o:HO} {t':Nat} (I:Inv X pins σ H s) (k:∀b u,s.heap.get? b=some u→h'.get? b=some u) (hp:s.heap.objs.size≤a) (new:ObjOk X.prog X.w (upd H a o) h' a o):
    Inv X pins σ (upd H a o) {s with heap:=h',toks:=t'}:=I.un (Un.laid k hp (I.hok.fresh hp)) (I.hok.laid k hp new)
theorem Inv.write {x e:Addr} {o:HO} {t':Nat} (I:Inv X pins σ H s) (mu:Mut (H x)) (he:e=x∨H e=some (.own x)) (k:∀b u,b≠e→s.heap.get? b=some u→h'.get? b=some u) (heo:∃u,h'.get? e=some u)
    (new:ObjOk X.prog X.w (upd H x o) h' x o):Inv X pins σ (upd H x o) {s with heap:=h',toks:=t'}:=I.un (Un.write mu he k heo) (I.hok.write mu he k heo new)
theorem Inv.pins_of {pins':List (Addr×Obj)} (I:Inv X pins σ H s) (h:∀p∈pins',s.heap.get? p.1=some p.2∧H p.1=none∧p.1≠X.env.locals∧p.1∉X.fs∧∀v,p.2.data≠.cell v):Inv X pins' σ H s:=
  ⟨I.ok,I.os,I.bare,I.base,I.loc,I.cell,I.free,I.freeC,fun p hp=>(List.mem_append.mp hp).elim (fun z=>I.pin p (List.mem_append_left _ z)) (h p),I.hok,I.len⟩
theorem nodup_ix {N:List Str} (hN:N.Nodup) {i j:Nat} {x:Str} (a:N[i]?=some x) (b:N[j]?=some x):i=j:=by
  obtain⟨h1,e1⟩:=List.getElem?_eq_some_iff.mp a
  obtain⟨h2,e2⟩:=List.getElem?_eq_some_iff.mp b
  exact (List.getElem_inj hN).mp (e1.trans e2.symm)
theorem store_ok2 {M:Model} {A:Around} {E:Value→Shared→Prop} {i:Nat} {x:Str} {v:V} {u:Value} {Q:Unit→Shared→Prop} (I:Inv X pins σ H s) (hN:X.N.Nodup) (hi:X.N[i]?=some x) (hx:Loc X.env.scope x) (r:RelV v u)
    (h:∀s',Inv X pins (σ.set i (some v)) H s'→(∃a,Heap.SameBut a s.heap s'.heap∧(a=X.env.locals∨X.env.cells.lookup x=some a))→Q () s') (hf:X.fn x=true∨X.env.scope.names.lookup x=some .local:=by first |exact .inl rfl |exact .inr rfl |assumption):wpAny M A (storeName X.env x u) Q E s:=by
  obtain⟨m,hn,hl⟩:=id I.loc
  have hcls:(X.env.scope.kind == .class || (X.env.scope.kind == .module && X.env.locals !=X.env.globals))=false:=by rw[I.ok.kind];rfl
  have hiσ:i < σ.length:=by rw[I.len];exact (List.getElem?_eq_some_iff.mp hi).1
  have cne:=I.cne
  have tracked:∀{a:Addr} {h':Heap},(∃o,s.heap.get? a=some o∧H a=none)→Heap.SameBut a s.heap h'→HOk X.prog X.w H h':=fun {a h'} ha hs b ob e=>by
    obtain⟨_,_,hfree⟩:=ha
    refine (I.hok b ob e).stay (fun c w' hc q=>(hs.2 c ?_).trans q) (fun _ q=>q) (fun _ _ q=>q) fun _ _ _ _ q=>q
    rintro rfl
    rcases hc with rfl |hc
    · rw[hfree] at e;cases e
    · rw[hfree] at hc;cases hc
  rcases hx with hk |hk
  · refine wpAny_storeName_local hk hn (fun h' hn' hs=>?_) hcls
    obtain⟨oL,_,_,hoL,_⟩:=id hn
    refine h _ ⟨I.ok,I.os,I.bare,⟨fun b o e n hb hx=>?_,fun b o e n hb hx=>?_,I.base.free,fun b o e hx=>?_,I.base.tups,I.base.frzs,I.base.tbls⟩,⟨_,hn',fun j y v' e1 e2 e3=>?_⟩,fun y c e=>?_,I.free,I.freeC,fun p hp=>?_,tracked ⟨oL,hoL,I.free⟩ hs,by simpa using I.len⟩ ⟨_,hs,.inl rfl⟩
    · exact (hs.2 b (Nat.ne_of_lt (Nat.lt_of_lt_of_le (Heap.lt_size e) I.ok.above))).trans (I.base.keep b o e n hb hx)
    · obtain⟨sl,e1⟩:=I.base.slot b o e n hb hx
      exact⟨sl,(hs.2 b (Nat.ne_of_lt (Nat.lt_of_lt_of_le (Heap.lt_size e) I.ok.above))).trans e1⟩
    · obtain⟨o',e1⟩:=I.base.there b o e hx
      exact⟨o',(hs.2 b (Nat.ne_of_lt (Nat.lt_of_lt_of_le (Heap.lt_size e) I.ok.above))).trans e1⟩
    · by_cases hj:j=i
      · subst hj
        rw[hi] at e1;cases e1
        rw[List.getElem?_set_self hiσ] at e2
        cases e2
        exact⟨u,r,.inl ⟨hk,by simp⟩⟩
      · rw[List.getElem?_set_ne (Ne.symm hj)] at e2
        obtain⟨u',r',q⟩:=hl j y v' e1 e2 e3
        refine⟨u',r',?_⟩
        rcases q with⟨k,e⟩ |⟨k,c,e,z⟩
        · refine .inl ⟨k,?_⟩
          have:y≠x:=fun e=>hj (nodup_ix hN e1 (e▸hi))
          simp[this,e]
        · exact .inr ⟨k,c,e,z.sameBut hs (cne y c e)⟩
    · obtain⟨w',z⟩:=I.cell y c e
      exact⟨w',z.sameBut hs (cne y c e)⟩
    · obtain⟨e,n,ne,nf,d⟩:=I.pin p hp
      exact⟨(hs.2 p.1 ne).trans e,n,ne,nf,d⟩
  · have hfn:X.fn x=true:=by
      rcases hf with z |z
      · exact z
      · rw[z] at hk;cases hk
    obtain⟨c,hc⟩:=I.ok.has x (.inl hk)
    obtain⟨w',z⟩:=I.cell x c hc
    refine wpAny_storeName_cell I.ok.kind hk hc z (fun h' hc' hs=>?_)
    obtain⟨oc,hoc,hocd⟩:=id z
    refine h {s with heap:=h'} ⟨I.ok,I.os,I.bare,⟨fun b o e n hb hx=>?_,fun b o e n hb hx=>?_,I.base.free,fun b o e hx=>?_,I.base.tups,I.base.frzs,I.base.tbls⟩,⟨m,hn.sameBut hs (Ne.symm (cne x c hc)),fun j y v' e1 e2 e3=>?_⟩,fun y c' e=>?_,I.free,I.freeC,fun p hp=>?_,tracked ⟨oc,hoc,I.freeC x c hc⟩ hs,by simpa using I.len⟩ ⟨c,hs,.inr hc⟩
    · exact (hs.2 b (Nat.ne_of_lt (Nat.lt_of_lt_of_le (Heap.lt_size e) (I.ok.cab x c hfn hc)))).trans (I.base.keep b o e n hb hx)
    · obtain⟨sl,e1⟩:=I.base.slot b o e n hb hx
      exact⟨sl,(hs.2 b (Nat.ne_of_lt (Nat.lt_of_lt_of_le (Heap.lt_size e) (I.ok.cab x c hfn hc)))).trans e1⟩
    · obtain⟨o',e1⟩:=I.base.there b o e hx
      exact⟨o',(hs.2 b (Nat.ne_of_lt (Nat.lt_of_lt_of_le (Heap.lt_size e) (I.ok.cab x c hfn hc)))).trans e1⟩
    · by_cases hj:j=i
      · subst hj
        rw[hi] at e1;cases e1
        rw[List.getElem?_set_self hiσ] at e2
        cases e2
        exact⟨u,r,.inr ⟨.inl hk,c,hc,hc'⟩⟩
      · rw[List.getElem?_set_ne (Ne.symm hj)] at e2
        obtain⟨u',r',q⟩:=hl j y v' e1 e2 e3
        refine⟨u',r',?_⟩
        rcases q with q |⟨k,c',e,z'⟩
        · exact .inl q
        · refine .inr ⟨k,c',e,z'.sameBut hs ?_⟩
          rintro rfl
          exact hj (nodup_ix hN e1 (I.ok.inj _ _ _ e hc▸hi))
    · by_cases hcc:c'=c
      · subst hcc;exact⟨_,hc'⟩
      · obtain⟨w2,z2⟩:=I.cell y c' e
        exact⟨w2,z2.sameBut hs hcc⟩
    · obtain⟨e,n,ne,nf,d⟩:=I.pin p hp
      refine⟨(hs.2 p.1 ?_).trans e,n,ne,nf,d⟩
      intro q
      rw[q,hoc] at e
      have q':oc=p.2:=Option.some.inj e
      exact d w' (by rw[←q'];exact hocd)
theorem store_ok {M:Model} {A:Around} {E:Value→Shared→Prop} {i:Nat} {x:Str} {v:V} {u:Value} {Q:Unit→Shared→Prop} (I:Inv X pins σ H s) (hN:X.N.Nodup) (hi:X.N[i]?=some x) (hx:Loc X.env.scope x) (r:RelV v u)
    (h:∀s',Inv X pins (σ.set i (some v)) H s'→Q () s') (hf:X.fn x=true∨X.env.scope.names.lookup x=some .local:=by first |exact .inl rfl |exact .inr rfl |assumption):wpAny M A (storeName X.env x u) Q E s:=
  store_ok2 I hN hi hx r (fun s' I' _=>h s' I') hf
theorem Inv.call' {s':Shared} {ch:List Addr} (I:Inv X pins σ H s) (ho:s'.os=s.os) (u:Un (frs X.stack) ch H H' s.heap s'.heap) (hok:HOk X.prog X.w H' s'.heap) (hg:AllBare s'.gens)
    (hch:∀b∈ch,(b∈X.ex∨X.s₀.heap.objs.size≤b)∧b≠X.env.locals∧(∀x c,X.env.cells.lookup x=some c→c≠b)∧∀p∈X.pn++pins,p.1≠b):Inv X pins σ H' s':=by
  obtain⟨h',g',d',t',o'⟩:=s'
  have e:o'=s.os:=ho
  subst e
  exact I.call (g':=g') (t':=t') (d':=d') u hok hg hch
end
noncomputable abbrev XK:=Value→Option Addr→Hp→Prop
noncomputable abbrev St:=List (Option V)
noncomputable abbrev VK:=V→Hp→Prop
noncomputable abbrev TE:=St→Hp→VK→Prop
noncomputable abbrev TT:=St→Hp→(Bool→Hp→Prop)→Prop
noncomputable abbrev TA:=St→Hp→(List V→Hp→Prop)→Prop
structure Ends where
  nx:St→Hp→Prop
  rt:VK
  bk:St→Hp→Prop:=fun _ _=>False
  ct:St→Hp→Prop:=fun _ _=>False
noncomputable abbrev TS:=Ends→St→Hp→Prop
inductive EP (X:Cx) (pins:List (Addr×Obj)) (σ:St) (Q:VK) (u:Value) (s':Shared):Prop
  |mk (v:V) (H':Hp) (I:Inv X pins σ H' s') (r:RelV v u) (q:Q v H'):EP X pins σ Q u s'
inductive TP (X:Cx) (pins:List (Addr×Obj)) (σ:St) (Q:Bool→Hp→Prop) (b:Bool) (s':Shared):Prop
  |mk (H':Hp) (I:Inv X pins σ H' s') (q:Q b H'):TP X pins σ Q b s'
inductive AP (X:Cx) (pins:List (Addr×Obj)) (σ:St) (Q:List V→Hp→Prop) (us:List Value) (s':Shared):Prop
  |mk (vs:List V) (H':Hp) (I:Inv X pins σ H' s') (r:Vals vs us) (q:Q vs H'):AP X pins σ Q us s'
inductive SPn (X:Cx) (pins:List (Addr×Obj)) (D:St→Hp→Prop) (s':Shared):Prop
  |mk (σ':St) (H':Hp) (I:Inv X pins σ' H' s') (d:D σ' H'):SPn X pins D s'
inductive SPr (X:Cx) (pins:List (Addr×Obj)) (D:V→Hp→Prop) (u:Value) (s':Shared):Prop
  |mk (v:V) (σ':St) (H':Hp) (I:Inv X pins σ' H' s') (r:RelV v u) (d:D v H'):SPr X pins D u s'
def SP (X:Cx) (pins:List (Addr×Obj)) (D:Ends) (f:Flow) (s':Shared):Prop:=
  match f with
  | .next=>SPn X pins D.nx s'
  | .brk=>SPn X pins D.bk s'
  | .cont=>SPn X pins D.ct s'
  | .ret u=>SPr X pins D.rt u s'
noncomputable def PE (X:Cx) (e:Expr) (t:TE):Prop:=
  ∀(pins:List (Addr×Obj)) (s:Shared) (σ:St) (H:Hp) (Q:VK),Inv X pins σ H s→t σ H Q→wpAny (model X.prog X.w) X.A (eval e X.env) (EP X pins σ Q) X.xe s
noncomputable def PT (X:Cx) (e:Expr) (t:TT):Prop:=
  ∀(pins:List (Addr×Obj)) (s:Shared) (σ:St) (H:Hp) (Q:Bool→Hp→Prop),Inv X pins σ H s→t σ H Q→wpAny (model X.prog X.w) X.A (isTrue e X.env (eval e X.env)) (TP X pins σ Q) X.xe s
noncomputable def PW (X:Cx) (e:Expr) (t:TT):Prop:=
  ∀(whole:Sem Value) (pins:List (Addr×Obj)) (s:Shared) (σ:St) (H:Hp) (Q:Bool→Hp→Prop),Inv X pins σ H s→t σ H Q→wpAny (model X.prog X.w) X.A (isTrue e X.env whole) (TP X pins σ Q) X.xe s
noncomputable def PA (X:Cx) (es:List Expr) (t:TA):Prop:=
  ∀(pos:Pos) (pins:List (Addr×Obj)) (s:Shared) (σ:St) (H:Hp) (Q:List V→Hp→Prop),Inv X pins σ H s→t σ H Q→wpAny (model X.prog X.w) X.A (spliced (backTo pos (starEach es X.env))) (AP X pins σ Q) X.xe s
noncomputable def PS (X:Cx) (st:Stmt) (t:TS):Prop:=
  ∀(pins:List (Addr×Obj)) (s:Shared) (σ:St) (H:Hp) (D:Ends),Inv X pins σ H s→t D σ H→wpAny (model X.prog X.w) X.A (exec st X.env) (SP X pins D) X.xe s
noncomputable def PSs (X:Cx) (st:List Stmt) (t:TS):Prop:=
  ∀(pins:List (Addr×Obj)) (s:Shared) (σ:St) (H:Hp) (D:Ends),Inv X pins σ H s→t D σ H→wpAny (model X.prog X.w) X.A (execs st X.env) (SP X pins D) X.xe s
theorem thn {α:Type} {t:Sem α} {Q Q':α→Shared→Prop} {M:Model} {A:Around} {E:Value→Shared→Prop} {s:Shared} (h:wpAny M A t Q E s) (hQ:∀a s,Q a s→Q' a s):wpAny M A t Q' E s:=wpAny_mono h hQ fun _ _ x=>x
end L2
namespace L2
open PySem PySem.Spec PyProof.Rows
section
variable {X:Cx}
theorem bin {a b:Expr} {ta tb:TE} (ha:PE X a ta) (hb:PE X b tb) {pins:List (Addr×Obj)} {s:Shared} {σ:St} {H:Hp} {R:V→V→Hp→Prop} (I:Inv X pins σ H s) (h:ta σ H fun x H1=>tb σ H1 fun y H2=>R x y H2)
    {α:Type} {Q:α→Shared→Prop} {f:Value→Value→Sem α}
    (hf:∀v u s2 x y H2,Inv X pins σ H2 s2→RelV x v→RelV y u→R x y H2→wpAny (model X.prog X.w) X.A (f v u) Q X.xe s2):
    wpAny (model X.prog X.w) X.A (eval a X.env) (fun v s₁=>wpAny (model X.prog X.w) X.A (eval b X.env) (fun u s₂=>wpAny (model X.prog X.w) X.A (f v u) Q X.xe s₂) X.xe s₁) X.xe s:=by
  refine thn (ha pins s σ H _ I h) fun v s1 hpz1=>?_
  obtain⟨x,H1,I1,r1,q1⟩:=hpz1
  refine thn (hb pins s1 σ H1 _ I1 q1) fun u s2 hpz1=>?_
  obtain⟨y,H2,I2,r2,q2⟩:=hpz1
  exact hf v u s2 x y H2 I2 r1 r2 q2
noncomputable def tVar (i:Nat):TE:=fun σ H Q=>∃v,σ[i]?=some (some v)∧Q v H
noncomputable def tC (v:V):TE:=fun _ H Q=>Q v H
theorem pe_var {i:Nat} {x:Str} {pos:Pos} (hN:X.N[i]?=some x) (hv:Vis X.env.scope x) (hd:(x ==("__debug__" :Str))=false:=by decide) (hcd:(x ==("__classdict__" :Str))=false:=by decide):PE X (.Name x pos) (tVar i):=by
  intro pins s σ H Q I h
  obtain⟨v,e,h⟩:=h
  obtain⟨m,hn,hl⟩:=I.loc
  obtain⟨u,r,l⟩:=hl i x v hN e hv
  have fin:EP X pins σ Q u s:=⟨v,H,I,r,h⟩
  rcases l with⟨hk,hm⟩ |⟨hk,c,hc,hcell⟩
  · exact wpAny_Name (wpAny_loadName_local I.ok.kind hk hn hm fin) hd
  · rcases hk with hk |hk
    · exact wpAny_Name (wpAny_loadName_cell I.ok.kind hk hc hcell fin) hd
    · exact wpAny_Name (wpAny_loadName_free I.ok.kind hk hc hcell fin hcd) hd
theorem pe_int {i j pos}:PE X (.Constant (.int i) j pos) (tC (.int i)):=fun _ _ _ H _ I h=>wpAny_Constant_int ⟨.int i,H,I.tok _,⟨_,rfl⟩,h⟩
theorem pe_bl {b j pos}:PE X (.Constant (.bool b) j pos) (tC (.bl b)):=fun _ _ _ H _ I h=>Constant_bool ⟨.bl b,H,I,rfl,h⟩
theorem pe_non {j pos}:PE X (.Constant .none j pos) (tC .non):=fun _ _ _ H _ I h=>Constant_none ⟨.non,H,I,rfl,h⟩
theorem pe_str {x j pos}:PE X (.Constant (.str x) j pos) (tC (.str x)):=fun _ _ _ H _ I h=>Calls.Constant_str ⟨.str x,H,I.tok _,⟨_,rfl⟩,h⟩
noncomputable def Gl (X:Cx) (x:Str):Prop:=X.env.kindOf x=some .globalImplicit
theorem ld_glob {E:Value→Shared→Prop} {pins:List (Addr×Obj)} {s:Shared} {σ:St} {H:Hp} {x:Str} {u:Value} {pos:Pos} {Q:Value→Shared→Prop} (I:Inv X pins σ H s) (hg:Gl X x) (hm:X.mg x=some u) (h:Q u s)
    (hd:(x ==("__debug__" :Str))=false:=by decide):wpAny (model X.prog X.w) X.A (eval (.Name x pos) X.env) Q E s:=
  Calls.Name_function_global I.ok.kind hg (Calls.loadGlobal_global (by rw[I.ok.glob];exact I.mod.glob.keeps I.bk) hm h) hd
theorem ld_blt {E:Value→Shared→Prop} {pins:List (Addr×Obj)} {s:Shared} {σ:St} {H:Hp} {x:Str} {u:Value} {pos:Pos} {Q:Value→Shared→Prop} (I:Inv X pins σ H s) (hg:Gl X x) (hm:X.mg x=none) (hv:bootBuiltins x=some u) (h:Q u s)
    (hn:x≠"__name__" :=by decide) (hd:(x ==("__debug__" :Str))=false:=by decide):wpAny (model X.prog X.w) X.A (eval (.Name x pos) X.env) Q E s:=by
  obtain⟨mb,h1,h2⟩:=I.mod.blt
  exact Calls.Name_function_global I.ok.kind hg (Calls.loadGlobal_builtin (by rw[I.ok.glob];exact I.mod.glob.keeps I.bk) hm (by rw[I.ok.blt];exact h1.keeps I.bk) ((h2 x hn).trans hv) h) hd
theorem pe_glob {x:Str} {v:V} {u:Value} {pos:Pos} (hg:Gl X x) (hm:X.mg x=some u) (r:RelV v u) (hd:(x ==("__debug__" :Str))=false:=by decide):PE X (.Name x pos) (tC v):=
  fun _ _ _ H _ I h=>ld_glob I hg hm ⟨v,H,I,r,h⟩ hd
theorem pe_bltn {x:Str} {v:V} {u:Value} {pos:Pos} (hg:Gl X x) (hm:X.mg x=none) (hv:bootBuiltins x=some u) (r:RelV v u) (hn:x≠"__name__" :=by decide) (hd:(x ==("__debug__" :Str))=false:=by decide):PE X (.Name x pos) (tC v):=
  fun _ _ _ H _ I h=>ld_blt I hg hm hv ⟨v,H,I,r,h⟩ hn hd
variable {a b:Expr} {ta tb:TE} {pos:Pos}
noncomputable def PC (X:Cx) (op:CmpOp) (a b:Expr) (t:TE):Prop:=
  ∀ (pins:List (Addr×Obj)) (s:Shared) (σ:St) (H:Hp) (Q:VK),Inv X pins σ H s→t σ H Q→
    wpAny (model X.prog X.w) X.A (eval a X.env) (fun v s₁=>wpAny (model X.prog X.w) X.A (eval b X.env) (fun u s₂=>wpAny (model X.prog X.w) X.A (compareOp op v u) (EP X pins σ Q) X.xe s₂) X.xe s₁) X.xe s
theorem nobehind (b:Expr) {op:CmpOp} (h:op≠.In) (h2:op≠.NotIn):behindInMarks op b=false:=by
  have e1:(op ==CmpOp.In)=false:=by cases op <;> first |rfl |exact absurd rfl h
  have e2:(op ==CmpOp.NotIn)=false:=by cases op <;> first |rfl |exact absurd rfl h2
  cases b <;> simp[behindInMarks,e1,e2]
noncomputable def tB (t:TE):TT:=fun σ H Q=>t σ H fun x H1=>∃c,x= .bl c∧Q c H1
theorem pt_cmp {op:CmpOp} {t:TE} (h:PC X op a b t) (h1:behindInMarks op b=false:=by first |exact nobehind _ (by decide) (by decide) |rfl):PT X (.Compare a [op] [b] pos) (tB t):=by
  intro pins s σ H Q I hw
  refine wpAny_isTrue_Compare1 (thn (h pins s σ H _ I hw) fun v s1 h1=>thn h1 fun u s2 h2=>thn h2 fun c s3 ⟨x,H1,I1,r1,q1⟩=>?_) h1
  obtain⟨d,rfl,q⟩:=q1
  cases r1
  exact wpAny_truthy_bool ⟨H1,I1,q⟩
theorem pt_val {e:Expr} {t:TE} (h:PE X e t) (he:∀whole,isTrue e X.env whole=(do let v ←whole;standAt e.pos;holding [v] (truthy v)):=by intro _;rfl):PT X e (tB t):=by
  intro pins s σ H Q I hw
  refine isTrue_plain (thn (h pins s σ H _ I hw) fun v s1 ⟨x,H1,I1,r1,q1⟩=>?_) (he _)
  obtain⟨d,rfl,q⟩:=q1
  cases r1
  exact wpAny_truthy_bool ⟨H1,I1,q⟩
variable {tA tB':TT} {rest:List Expr}
noncomputable def tAnd (t u:TT):TT:=fun σ H Q=>t σ H fun c H1=>if c=true then u σ H1 Q else Q false H1
noncomputable def tOr (t u:TT):TT:=fun σ H Q=>t σ H fun c H1=>if c=true then Q true H1 else u σ H1 Q
noncomputable def tNot (t:TT):TT:=fun σ H Q=>t σ H fun c H1=>Q (!c) H1
theorem pw_and1 (ha:PT X a tA):PW X (.BoolOp .And [a] pos) tA:=by
  intro wh pins s σ H Q I h
  refine isTrue_and (thn (ha pins s σ H Q I h) fun c s1 e=>?_)
  cases c with
  |true=>exact isTrue_and_nil e
  |false=>exact e
theorem pw_or1 (ha:PT X a tA):PW X (.BoolOp .Or [a] pos) tA:=by
  intro wh pins s σ H Q I h
  refine isTrue_or (thn (ha pins s σ H Q I h) fun c s1 e=>?_)
  cases c with
  |false=>exact isTrue_or_nil e
  |true=>exact e
theorem pw_and (ha:PT X a tA) (hb:PW X (.BoolOp .And (b::rest) pos) tB'):PW X (.BoolOp .And (a::b::rest) pos) (tAnd tA tB'):=by
  intro wh pins s σ H Q I h
  refine isTrue_and (thn (ha pins s σ H _ I h) fun c s1 hpz1=>?_)
  obtain⟨H1,I1,q1⟩:=hpz1
  cases c with
  |true=>exact hb wh pins s1 σ H1 Q I1 q1
  |false=>exact⟨H1,I1,q1⟩
theorem pw_or (ha:PT X a tA) (hb:PW X (.BoolOp .Or (b::rest) pos) tB'):PW X (.BoolOp .Or (a::b::rest) pos) (tOr tA tB'):=by
  intro wh pins s σ H Q I h
  refine isTrue_or (thn (ha pins s σ H _ I h) fun c s1 hpz1=>?_)
  obtain⟨H1,I1,q1⟩:=hpz1
  cases c with
  |true=>exact⟨H1,I1,q1⟩
  |false=>exact hb wh pins s1 σ H1 Q I1 q1
theorem pt_not (ha:PT X a tA):PT X (.UnaryOp .Not a pos) (tNot tA):=by
  intro pins s σ H Q I h
  refine isTrue_not (thn (ha pins s σ H (fun c H1=>Q (!c) H1) I h) fun c s1 hz=>?_)
  obtain⟨H1,I1,q1⟩:=hz
  exact⟨H1,I1,q1⟩
noncomputable def tAndV (ta tb:TE):TE:=fun σ H Q=>ta σ H fun x H1=>∃c,x= .bl c∧if c=true then tb σ H1 Q else Q (.bl false) H1
noncomputable def tNotV (ta:TE):TE:=fun σ H Q=>ta σ H fun x H1=>∃c,x= .bl c∧Q (.bl (!c)) H1
theorem pe_one {op} {t:TE} (h:PE X a t):PE X (.BoolOp op [a] pos) t:=fun pins s σ H Q I hw=>BoolOp_one (h pins s σ H Q I hw)
theorem pe_and (ha:PE X a ta) (hb:PE X (.BoolOp .And (b::rest) pos) tb):PE X (.BoolOp .And (a::b::rest) pos) (tAndV ta tb):=by
  intro pins s σ H Q I h
  refine BoolOp_and (thn (ha pins s σ H _ I h) fun v s1 hpz1=>?_)
  obtain⟨x,H1,I1,r1,q1⟩:=hpz1
  obtain⟨c,rfl,q1⟩:=q1
  cases r1
  refine wpAny_truthy_bool ?_
  cases c with
  |true=>exact hb pins s1 σ H1 Q I1 q1
  |false=>exact⟨.bl false,H1,I1,rfl,q1⟩
theorem pe_not (ha:PE X a ta):PE X (.UnaryOp .Not a pos) (tNotV ta):=by
  intro pins s σ H Q I h
  refine UnaryOp_ (thn (ha pins s σ H _ I h) fun v s1 hpz1=>?_)
  obtain⟨x,H1,I1,r1,q1⟩:=hpz1
  obtain⟨c,rfl,q1⟩:=q1
  cases r1
  exact not_of (wpAny_truthy_bool ⟨.bl (!c),H1,I1,rfl,q1⟩)
noncomputable def tIf (t:TT) (ta tb:TE):TE:=fun σ H Q=>t σ H fun c H1=>if c=true then ta σ H1 Q else tb σ H1 Q
theorem pe_ifExp {c:Expr} (hc:PT X c tA) (ha:PE X a ta) (hb:PE X b tb):PE X (.IfExp c a b pos) (tIf tA ta tb):=by
  intro pins s σ H Q I h
  refine wpAny_IfExp (thn (hc pins s σ H _ I h) fun d s1 hpz1=>?_)
  obtain⟨H1,I1,q1⟩:=hpz1
  cases d with
  |true=>exact ha pins s1 σ H1 Q I1 q1
  |false=>exact hb pins s1 σ H1 Q I1 q1
end
end L2
namespace L2
open PySem PySem.Spec PyProof.Rows
noncomputable def SqL (K:PySem.W.Frag) (H:Hp) (a:Addr) (xs:List V):Prop:=
  Rd H a (.lst xs)∨
    ∃(o:Obj) (its:Array Value) (n:Nat),K.lookup a=some o∧o.cls= .type "list"∧o.dict=none∧o.data= .seq its n∧its.size≤sizeLine∧Vals xs its.toList
noncomputable def SqT (K:PySem.W.Frag) (H:Hp) (a:Addr) (xs:List V):Prop:=
  Rd H a (.tup xs)∨
    ∃(o:Obj) (its:Array Value) (n:Nat),K.lookup a=some o∧o.cls= .type "tuple"∧o.data= .seq its n∧its.size≤sizeLine∧Vals xs its.toList
noncomputable def absV:Value→Option V
  | .none=>some .non
  | .bool b=>some (.bl b)
  | .int i _=>some (.int i)
  | .str x _=>some (.str x)
  | .bytes b _=>some (.byt b)
  | .float b _=>some (.flt b)
  | .ref a=>some (.ref a)
  | .type n=>some (.ty n)
  |_=>none
theorem RelV.abs {x:V} {u:Value} (r:RelV x u):absV u=some x:=by
  cases x with
  |non=>cases r;rfl
  |bl _=>cases r;rfl
  |int _=>obtain⟨t,rfl⟩:=r;rfl
  |str _=>obtain⟨t,rfl⟩:=r;rfl
  |byt _=>obtain⟨t,rfl⟩:=r;rfl
  |flt _=>obtain⟨t,rfl⟩:=r;rfl
  |ref _=>cases r;rfl
  |ty _=>cases r;rfl
theorem RelV.inj {x y:V} {u:Value} (r:RelV x u) (q:RelV y u):x=y:=Option.some.inj (r.abs.symm.trans q.abs)
theorem Vals.inj:∀{xs ys:List V} {us:List Value},Vals xs us→Vals ys us→xs=ys
  :=by
  intro xs ys us h
  induction h generalizing ys with
  |nil=>intro q;cases q;rfl
  |cons r t ih=>intro q;cases q with |cons r' t'=>rw[r.inj r',ih t']
section
variable {X:Cx} {pins:List (Addr×Obj)} {σ:St} {H:Hp} {s:Shared} {a:Addr} {xs ys:List V}
theorem SqL.of {K:PySem.W.Frag} (h:H a=some (.lst xs)):SqL K H a xs:= .inl (.inl h)
theorem SqT.of {K:PySem.W.Frag} (h:H a=some (.tup xs)):SqT K H a xs:= .inl (.inl h)
theorem Inv.list (I:Inv X pins σ H s) (h:SqL X.K H a xs):∃its:List Value,Vals xs its∧PlainL s.heap a its.toArray∧xs.length≤sizeLine:=by
  rcases h with h |⟨o,its,n,hk,hc,hd,hs,hz,r⟩
  · obtain⟨z,its,n,r,e⟩:=h.ok I.hok
    exact⟨its,r,⟨_,n,e,rfl,rfl,rfl⟩,z⟩
  · refine⟨its.toList,r,⟨o,n,I.kIn a o hk,hc,hd,by simpa using hs⟩,?_⟩
    have e:=r.length
    simp only[Array.length_toList] at e
    omega
theorem Inv.tuple (I:Inv X pins σ H s) (h:SqT X.K H a xs):∃its:List Value,Vals xs its∧IsTup s.heap a its.toArray∧xs.length≤sizeLine:=by
  rcases h with h |⟨o,its,n,hk,hc,hs,hz,r⟩
  · obtain⟨z,its,r,p⟩:=h.ok I.hok
    exact⟨its,r,p,z⟩
  · refine⟨its.toList,r,⟨o,I.kIn a o hk,hc,n,by simpa using hs⟩,?_⟩
    have e:=r.length
    simp only[Array.length_toList] at e
    omega
theorem Inv.list_inj (I:Inv X pins σ H s) (h:SqL X.K H a xs) (h':SqL X.K H a ys):xs=ys:=by
  obtain⟨its,r,⟨o,n,e,_,_,d⟩,_⟩:=I.list h
  obtain⟨its',r',⟨o',n',e',_,_,d'⟩,_⟩:=I.list h'
  rw[e] at e';cases e'
  rw[d] at d'
  injection d' with d1 _
  have:its=its':=by simpa using congrArg Array.toList d1
  subst this
  exact r.inj r'
theorem Inv.tuple_inj (I:Inv X pins σ H s) (h:SqT X.K H a xs) (h':SqT X.K H a ys):xs=ys:=by
  obtain⟨its,r,⟨o,e,_,n,d⟩,_⟩:=I.tuple h
  obtain⟨its',r',⟨o',e',_,n',d'⟩,_⟩:=I.tuple h'
  rw[e] at e';cases e'
  rw[d] at d'
  injection d' with d1 _
  have:its=its':=by simpa using congrArg Array.toList d1
  subst this
  exact r.inj r'
end
noncomputable abbrev Cx.wish (X:Cx) (E:Value→Shared→Prop):Cx:={X with xe:=E}
noncomputable abbrev Cx.nox (X:Cx):Cx:=X.wish fun _ _=>False
theorem Cx.Ok.wish {X:Cx} (ok:X.Ok) (E:Value→Shared→Prop):(X.wish E).Ok:=
  ⟨ok.mod,ok.kind,ok.glob,ok.blt,ok.above,ok.inj,ok.has,ok.cab,ok.hd,ok.frames,ok.stk,ok.exf,ok.bs,ok.bsz,ok.noex,ok.exfs,ok.funs,ok.frf⟩
theorem Cx.Ok.unwish {X:Cx} {E:Value→Shared→Prop} (ok:(X.wish E).Ok):X.Ok:=
  ⟨ok.mod,ok.kind,ok.glob,ok.blt,ok.above,ok.inj,ok.has,ok.cab,ok.hd,ok.frames,ok.stk,ok.exf,ok.bs,ok.bsz,ok.noex,ok.exfs,ok.funs,ok.frf⟩
section
variable {X:Cx} {pins:List (Addr×Obj)} {σ:St} {H:Hp} {s:Shared} {E:Value→Shared→Prop}
theorem Inv.wish (I:Inv X pins σ H s) (E:Value→Shared→Prop):Inv (X.wish E) pins σ H s:=⟨I.ok.wish E,I.os,I.bare,I.base,I.loc,I.cell,I.free,I.freeC,I.pin,I.hok,I.len⟩
theorem Inv.unwish (I:Inv (X.wish E) pins σ H s):Inv X pins σ H s:=⟨I.ok.unwish,I.os,I.bare,I.base,I.loc,I.cell,I.free,I.freeC,I.pin,I.hok,I.len⟩
theorem SP.unwish {D:Ends} {f:Flow} {s':Shared} (h:SP (X.wish E) pins D f s'):SP X pins D f s':=by
  cases f with
  |next=>obtain⟨σ',H',I,q⟩:=h;exact⟨σ',H',I.unwish,q⟩
  |brk=>obtain⟨σ',H',I,q⟩:=h;exact⟨σ',H',I.unwish,q⟩
  |cont=>obtain⟨σ',H',I,q⟩:=h;exact⟨σ',H',I.unwish,q⟩
  |ret u=>obtain⟨v,σ',H',I,r,q⟩:=h;exact⟨v,σ',H',I.unwish,r,q⟩
theorem PE.nox {e:Expr} {t:TE} (h:PE X.nox e t):PE X e t:=fun pins s σ H Q I hw=>
  wpAny_mono (h pins s σ H Q (I.wish _) hw) (fun _ _ ⟨v,H',I',r,q⟩=>⟨v,H',I'.unwish,r,q⟩) fun _ _ z=>False.elim z
theorem PSs.nox {st:List Stmt} {t:TS} (h:PSs X.nox st t):PSs X st t:=fun pins s σ H D I hw=>
  wpAny_mono (h pins s σ H D (I.wish _) hw) (fun _ _ q=>q.unwish) fun _ _ z=>False.elim z
end
section
variable {X:Cx} {st:Stmt} {rest:List Stmt} {t u:TS} {e:Expr} {te:TE} {pos:Pos}
noncomputable def tNext:TS:=fun D σ H=>D.nx σ H
noncomputable def tSeq (t u:TS):TS:=fun D σ H=>t {D with nx:=u D} σ H
theorem pss_nil:PSs X [] tNext:=fun _ _ σ H _ I h=>wpAny_execs_nil ⟨σ,H,I,h⟩
theorem pss_cons (h1:PS X st t) (h2:PSs X rest u):PSs X (st::rest) (tSeq t u):=by
  intro pins s σ H D I h
  refine wpAny_execs_cons (thn (h1 pins s σ H {D with nx:=u D} I h) fun f s1 q=>?_)
  cases f with
  | next=>
    obtain⟨σ',H',I',q⟩:=q
    exact h2 pins s1 σ' H' D I' q
  |ret v=>exact q
  |brk=>exact q
  |cont=>exact q
theorem pss_one (h1:PS X st t):PSs X [st] t:=by
  intro pins s σ H D I h
  refine wpAny_execs_cons (thn (h1 pins s σ H D I h) fun f s1 q=>?_)
  cases f with
  |next=>exact wpAny_execs_nil q
  |ret v=>exact q
  |brk=>exact q
  |cont=>exact q
theorem Inv.quiet {pins:List (Addr×Obj)} {σ:St} {H:Hp} {s:Shared} (I:Inv X pins σ H s):interactive X.env=false:=by simp[interactive,I.ok.kind]
noncomputable def tDrop (te:TE):TS:=fun D σ H=>te σ H fun _ H1=>D.nx σ H1
theorem ps_expr (he:PE X e te) (hs:swapsWith e none pos.line X.env=pure false:=by rfl):PS X (.Expr e pos) (tDrop te):=by
  intro pins s σ H D I h
  exact wpAny_Expr_any (thn (he pins s σ H _ I h) fun v s1 ⟨x,H1,I1,r1,q1⟩=>⟨σ,H1,I1,q1⟩) I.quiet hs
noncomputable def tRet (te:TE):TS:=fun D σ H=>te σ H D.rt
theorem ps_ret (he:PE X e te):PS X (.Return (some e) pos) (tRet te):=by
  intro pins s σ H D I h
  exact wpAny_Return_some (thn (he pins s σ H _ I h) fun v s1 ⟨x,H1,I1,r1,q1⟩=>⟨x,σ,H1,I1,r1,q1⟩)
noncomputable def tIfS (c:TT) (t u:TS):TS:=fun D σ H=>c σ H fun b H1=>if b=true then t D σ H1 else u D σ H1
theorem ps_if {c:Expr} {a b:List Stmt} {tc:TT} (hc:PT X c tc) (ha:PSs X a t) (hb:PSs X b u):PS X (.If c a b pos) (tIfS tc t u):=by
  intro pins s σ H D I h
  refine wpAny_If (thn (hc pins s σ H _ I h) fun d s1 hpz1=>?_)
  obtain⟨H1,I1,q1⟩:=hpz1
  cases d with
  |true=>exact ha pins s1 σ H1 D I1 q1
  |false=>exact hb pins s1 σ H1 D I1 q1
end
noncomputable abbrev TG:=V→St→Hp→(St→Hp→Prop)→Prop
noncomputable abbrev TGs:=List V→St→Hp→(St→Hp→Prop)→Prop
noncomputable def PG (X:Cx) (target:Expr) (t:TG):Prop:=
  ∀ (pins:List (Addr×Obj)) (s:Shared) (σ:St) (H:Hp) (v:V) (u:Value) (Q:St→Hp→Prop),Inv X pins σ H s→RelV v u→t v σ H Q→
    wpAny (model X.prog X.w) X.A (assign target X.env u) (fun _ s'=>SPn X pins Q s') X.xe s
noncomputable def PGs (X:Cx) (ts:List Expr) (t:TGs):Prop:=
  ∀ (pins:List (Addr×Obj)) (s:Shared) (σ:St) (H:Hp) (vs:List V) (us:List Value) (Q:St→Hp→Prop),Inv X pins σ H s→Vals vs us→t vs σ H Q→
    wpAny (model X.prog X.w) X.A (assignInOrder ((assignEach ts X.env).map (·.2)) us) (fun _ s'=>SPn X pins Q s') X.xe s
noncomputable abbrev TIp:=V→V→Hp→VK→Prop
noncomputable def PIp (X:Cx) (op:Operator) (t:TIp):Prop:=
  ∀ (pins:List (Addr×Obj)) (s:Shared) (σ:St) (H:Hp) (x y:V) (v u:Value) (Q:VK),Inv X pins σ H s→RelV x v→RelV y u→t x y H Q→
    wpAny (model X.prog X.w) X.A (inplaceOp op v u) (EP X pins σ Q) X.xe s
section
variable {X:Cx} {pos:Pos}
noncomputable def gName (i:Nat):TG:=fun v σ H Q=>Q (σ.set i (some v)) H
theorem pg_name {i:Nat} {x:Str} (hN:X.N.Nodup) (hi:X.N[i]?=some x) (hx:Loc X.env.scope x) (hf:X.fn x=true∨X.env.scope.names.lookup x=some .local:=by first |exact .inl rfl |exact .inr rfl |assumption):PG X (.Name x pos) (gName i):=by
  intro pins s σ H v u Q I r h
  exact wpAny_assign_Name (store_ok I hN hi hx r (fun s' I'=>⟨_,H,I',h⟩) hf)
noncomputable def gNil:TGs:=fun vs σ H Q=>vs=[]∧Q σ H
noncomputable def gCons (t:TG) (u:TGs):TGs:=fun vs σ H Q=>∃v r,vs=v::r∧t v σ H fun σ' H'=>u r σ' H' Q
theorem pgs_nil:PGs X [] gNil:=by
  intro pins s σ H vs us Q I r h
  obtain⟨e,h⟩:=h
  subst e
  cases r
  exact assignInOrder_nil ⟨σ,H,I,h⟩
theorem pgs_cons {e:Expr} {es:List Expr} {t:TG} {u:TGs} (h1:PG X e t) (h2:PGs X es u)
    (hs:(assignEach (e::es) X.env).map (·.2)=assign e X.env::(assignEach es X.env).map (·.2):=by rfl):PGs X (e::es) (gCons t u):=by
  intro pins s σ H vs us Q I r h
  obtain⟨v,vr,e1,h⟩:=h
  subst e1
  cases r with
  | cons r rr=>
    rw[hs]
    refine assignInOrder_cons (thn (h1 pins s σ H _ _ _ I r h) fun _ s1 hpz1=>?_)
    obtain⟨σ1,H1,I1,q1⟩:=hpz1
    exact h2 pins s1 σ1 H1 _ _ Q I1 rr q1
noncomputable def gTup (K:PySem.W.Frag) (n:Nat) (t:TGs):TG:=fun v σ H Q=>∃a xs,v= .ref a∧SqT K H a xs∧xs.length=n∧t xs σ H Q
theorem pg_tup {es:List Expr} {k:Nat} {t:TGs} {n:Nat} (hc:X.calm=true) (h:PGs X es t)
    (hn:(assignEach es X.env).length=n:=by rfl) (hst:(assignEach es X.env).findIdx? (·.1)=none:=by rfl):PG X (.Tuple es k pos) (gTup X.K n t):=by
  intro pins s σ H v u Q I r hw
  obtain⟨a,xs,e1,hq,hl,hw⟩:=hw
  subst e1
  cases r
  obtain⟨its,rv,ht,hz⟩:=I.tuple hq
  refine assign_Tuple_tuple (I.ok.hd hc) ht (by simp[hn,←hl,rv.length]) hst fun h' hx=>?_
  have I1:Inv X pins σ H {s with heap:=h'}:=I.kept (t':=s.toks) fun b o e=>hx b o (Nat.ne_of_lt (Heap.lt_size e)) e
  exact h pins _ σ H xs _ Q I1 (by simpa using rv) hw
noncomputable def tAsg (te:TE) (g:TG):TS:=fun D σ H=>te σ H fun x H1=>g x σ H1 D.nx
theorem ps_asg {tg e:Expr} {te:TE} {g:TG} (he:PE X e te) (hg:PG X tg g) (hs:swapsWithSole [tg] e pos.line X.env=pure false:=by rfl) (hw:swappedStores [tg] e X.env=pure none:=by rfl)
    (h1:(assignEach [tg] X.env).map (·.2)=[assign tg X.env]:=by rfl):PS X (.Assign [tg] e pos) (tAsg te g):=by
  intro pins s σ H D I h
  refine wpAny_Assign_stores (thn (he pins s σ H _ I h) fun v s1 ⟨x,H1,I1,r1,q1⟩=>?_) hs hw
  rw[h1]
  exact thn (hg pins s1 σ H1 x v _ I1 r1 q1) fun _ s2 q=>q
theorem ps_set {i:Nat} {x:Str} {e:Expr} {te:TE} {pos':Pos} (hN:X.N.Nodup) (hi:X.N[i]?=some x) (hx:Loc X.env.scope x) (he:PE X e te) (hs:swapsWith e (some (.Name x pos')) pos.line X.env=pure false:=by rfl) (hf:X.fn x=true∨X.env.scope.names.lookup x=some .local:=by first |exact .inl rfl |exact .inr rfl |assumption):
    PS X (.Assign [.Name x pos'] e pos) (tAsg te (gName i)):=by
  intro pins s σ H D I h
  refine wpAny_Assign_Name (thn (he pins s σ H _ I h) fun v s1 ⟨y,H1,I1,r1,q1⟩=>?_) hs
  exact store_ok I1 hN hi hx r1 (fun s2 I2=>⟨_,H1,I2,q1⟩) hf
noncomputable def tPar (i j:Nat) (ta:TA):TS:=fun D σ H=>ta σ H fun vs H1=>∃v w,vs=[v,w]∧D.nx ((σ.set i (some v)).set j (some w)) H1
theorem ps_par {i j:Nat} {x y:Str} {a b:Expr} {ta:TA} {px py pt:Pos} {kt k2 pt2} (hc:X.calm=true) (hN:X.N.Nodup) (hi:X.N[i]?=some x) (hj:X.N[j]?=some y) (hij:i≠j)
    (hx:X.env.scope.names.lookup x=some .local) (hy:X.env.scope.names.lookup y=some .local) (ha:PA X [a,b] ta)
    (hw:swappedStores [.Tuple [.Name x px,.Name y py] kt pt] (.Tuple [a,b] k2 pt2) X.env=pure (some [x,y]))
    (hs:swapsWithSole [.Tuple [.Name x px,.Name y py] kt pt] (.Tuple [a,b] k2 pt2) pos.line X.env=pure false:=by rfl):
    PS X (.Assign [.Tuple [.Name x px,.Name y py] kt pt] (.Tuple [a,b] k2 pt2) pos) (tPar i j ta):=by
  intro pins s σ H D I h
  rw[exec_Assign_arm]
  refine wpAny_bind (wpAny_standAt ?_)
  rw[hs]
  refine wpAny_bind (wpAny_pure ?_)
  rw[if_neg (by decide)]
  refine wpAny_bind (Tuple_ (thn (ha _ pins s σ H _ I h) fun us s1 hpz1=>?_))
  obtain⟨vs,H1,I1,r1,q1⟩:=hpz1
  obtain⟨v,w,e1,q1⟩:=q1
  subst e1
  obtain⟨u1,u2,rfl,rv,rw'⟩:∃u1 u2,us=[u1,u2]∧RelV v u1∧RelV w u2:=by
    cases r1 with
    | cons p q=>
      cases q with
      | cons p' q'=>
        cases q'
        exact⟨_,_,rfl,p,p'⟩
  refine wpAny_newObj_type ?_ (by show 2≤sizeLine;decide)
  have I2:Inv X pins σ H1 {s1 with heap:=s1.heap.push {cls:= .type "tuple",data:= .seq [u1,u2].toArray}}:=I1.kept (t':=s1.toks) fun b o e=>Heap.get?_push_of_some _ e
  rw[hw]
  refine wpAny_bind (wpAny_pure ?_)
  show wpAny (model X.prog X.w) X.A (do rule "assign.swapped-stores";let items ←unpackItems (.ref s1.heap.objs.size) 2 none;assignInOrder [fun v=>bindName X.env y v,fun v=>bindName X.env x v] items.reverse;pure Flow.next) _ _ _
  refine wpAny_bind (wpAny_rule (wpAny_bind (unpackItems_tuple (items:= #[u1,u2]) (I.ok.hd hc) (IsTup.new s1.heap _) fun h' hx'=>?_)))
  have I3:=I2.kept (h':=h') (t':=s1.toks) fun b o e=>hx' b o (Nat.ne_of_lt (Heap.lt_size e)) e
  show wpAny _ _ (assignInOrder [fun v=>bindName X.env y v,fun v=>bindName X.env x v] [u2,u1] >>=fun _=>pure Flow.next) _ _ _
  refine wpAny_bind (assignInOrder_cons (wpAny_bindName (store_ok I3 hN hj (.inl hy) rw' (fun s2 I4=>?_) (.inr hy))))
  refine assignInOrder_cons (wpAny_bindName (store_ok I4 hN hi (.inl hx) rv (fun s3 I5=>assignInOrder_nil (wpAny_pure ?_)) (.inr hx)))
  rw[List.set_comm _ _ (Ne.symm hij)] at I5
  exact⟨_,H1,I5,q1⟩
noncomputable def tAug (i:Nat) (te:TE) (ti:TIp):TS:=fun D σ H=>∃x,σ[i]?=some (some x)∧te σ H fun y H1=>ti x y H1 fun z H2=>D.nx (σ.set i (some z)) H2
theorem ps_aug {i:Nat} {x:Str} {e:Expr} {te:TE} {op:Operator} {ti:TIp} {pos':Pos} (hN:X.N.Nodup) (hi:X.N[i]?=some x) (hx:Loc X.env.scope x) (he:PE X e te) (ho:PIp X op ti) (hf:X.fn x=true∨X.env.scope.names.lookup x=some .local:=by first |exact .inl rfl |exact .inr rfl |assumption):
    PS X (.AugAssign (.Name x pos') op e pos) (tAug i te ti):=by
  intro pins s σ H D I h
  obtain⟨v,e1,h⟩:=h
  obtain⟨m,hn,hl⟩:=I.loc
  have vis:Vis X.env.scope x:=by rcases hx with k |k;exact .inl k;exact .inr (.inl k)
  obtain⟨u,r,l⟩:=hl i x v hi e1 vis
  refine wpAny_AugAssign_Name ?_
  have go:wpAny (model X.prog X.w) X.A (eval e X.env) (fun w s₂=>wpAny (model X.prog X.w) X.A (inplaceOp op u w) (fun r s₃=>wpAny (model X.prog X.w) X.A (storeName X.env x r) (fun _=>SP X pins D .next) X.xe s₃) X.xe s₂) X.xe s:=by
    refine thn (he pins s σ H _ I h) fun w s1 hpz1=>?_
    obtain⟨y,H1,I1,r1,q1⟩:=hpz1
    refine thn (ho pins s1 σ H1 v y u w _ I1 r r1 q1) fun z s2 hpz1=>?_
    obtain⟨zv,H2,I2,r2,q2⟩:=hpz1
    exact store_ok I2 hN hi hx r2 (fun s3 I3=>⟨_,H2,I3,q2⟩) hf
  rcases l with⟨hk,hm⟩ |⟨hk,c,hc,hcell⟩
  · exact wpAny_loadName_local I.ok.kind hk hn hm go
  · rcases hk with hk |hk
    · exact wpAny_loadName_cell I.ok.kind hk hc hcell go
    · rcases hx with k |k
      · have:X.env.scope.names.lookup x=some .free:=hk
        rw[k] at this;cases this
      · have:X.env.scope.names.lookup x=some .free:=hk
        rw[k] at this;cases this
noncomputable def ipI (f:Int→Int→Int):TIp:=fun x y H Q=>∃i j,x= .int i∧y= .int j∧Q (.int (f i j)) H
theorem ip_add:PIp X .Add (ipI fun i j=>i+j):=by
  intro pins s σ H x y v u Q I r1 r2 h
  obtain⟨i,j,e1,e2,q⟩:=h
  subst e1;subst e2
  obtain⟨t,rfl⟩:=r1
  obtain⟨t',rfl⟩:=r2
  exact iadd_int ⟨.int _,H,I.tok _,⟨_,rfl⟩,q⟩
theorem ip_sub:PIp X .Sub (ipI fun i j=>i - j):=by
  intro pins s σ H x y v u Q I r1 r2 h
  obtain⟨i,j,e1,e2,q⟩:=h
  subst e1;subst e2
  obtain⟨t,rfl⟩:=r1
  obtain⟨t',rfl⟩:=r2
  exact isub_int ⟨.int _,H,I.tok _,⟨_,rfl⟩,q⟩
end
section
variable {X:Cx} {pos:Pos}
noncomputable def tWhile (c:TT) (tb:TS):TS:=fun D σ H=>∃W:Nat→St→Hp→Prop,(∃m,W m σ H)∧∀m σ H,W m σ H→
  c σ H fun b H1=>if b=true then ∃N:St→Hp→Prop,(∀σ' H',N σ' H'→∃m',m' < m∧W m' σ' H')∧tb {D with nx:=N,ct:=N,bk:=D.nx} σ H1 else D.nx σ H1
theorem ps_while {c:Expr} {body:List Stmt} {tc:TT} {tb:TS} (hp:PassesOwn (model X.prog X.w) X.A X.env X.xe) (hc:PT X c tc) (hb:PSs X body tb):PS X (.While c body [] pos) (tWhile tc tb):=by
  intro pins s σ H D I h
  obtain⟨W,⟨m0,w0⟩,turn⟩:=h
  refine wpAny_While (codeAny_whileLoop (fun n s'=>∃σ' H',Inv X pins σ' H' s'∧W n σ' H') ?_ m0 ⟨σ,H,I,w0⟩)
  rintro n s1 ⟨σ1,H1,I1,w1⟩
  refine wpAny_passesOwn hp (thn (hc pins s1 σ1 H1 _ I1 (turn n σ1 H1 w1)) fun b s2 hpz1=>?_)
  obtain⟨H2,I2,q2⟩:=hpz1
  cases b with
  | true=>
    obtain⟨N,hN,q2⟩:=q2
    rw[if_pos rfl]
    refine wpAny_passesOwn hp (thn (hb pins s2 σ1 H2 _ I2 q2) fun f s3 q3=>?_)
    cases f with
    | next=>
      obtain⟨σ3,H3,I3,n3⟩:=q3
      obtain⟨m',hm,w3⟩:=hN σ3 H3 n3
      exact⟨m',hm,σ3,H3,I3,w3⟩
    | cont=>
      obtain⟨σ3,H3,I3,n3⟩:=q3
      obtain⟨m',hm,w3⟩:=hN σ3 H3 n3
      exact⟨m',hm,σ3,H3,I3,w3⟩
    |brk=>exact q3
    |ret v=>exact q3
  | false=>
    rw[if_neg Bool.false_ne_true]
    exact wpAny_execs_nil ⟨σ1,H2,I2,q2⟩
end
structure It where
  go:Nat→Hp→Prop
  yld:Nat→Hp→V→Hp→Prop
  stop:Nat→Hp→Prop
noncomputable def FpOk (X:Cx) (pins:List (Addr×Obj)) (H:Hp) (b:Addr):Prop:=
  H b=none∧b≠X.env.locals∧b∉X.fs∧(b∈X.ex∨X.s₀.heap.objs.size≤b)∧(∀x c,X.env.cells.lookup x=some c→c≠b)∧∀p∈X.pn++pins,p.1≠b
theorem Inv.fpOk {X:Cx} {pins:List (Addr×Obj)} {σ:St} {H H':Hp} {s:Shared} {b:Addr} (I:Inv X pins σ H s) (hb:s.heap.objs.size≤b) (hn:H' b=none):FpOk X pins H' b:=by
  refine⟨hn,Nat.ne_of_gt (Nat.lt_of_lt_of_le I.lt hb),I.nofs hb,.inr (Nat.le_trans I.sz hb),fun x c e z=>?_,fun p hp z=>?_⟩
  · obtain⟨v,q⟩:=I.cell x c e
    exact absurd (Nat.lt_of_lt_of_le q.lt (by rw[z];exact hb)) (Nat.lt_irrefl _)
  · exact absurd (Nat.lt_of_lt_of_le (Heap.lt_size (I.pin p hp).1) (by rw[z];exact hb)) (Nat.lt_irrefl _)
inductive ItemP (X:Cx) (pins:List (Addr×Obj)) (σ:St) (H:Hp) (J:It) (tn:Nat→Heap→Prop) (fp:List Addr) (i:Nat) (u:Value) (s2:Shared):Prop
  |mk (x:V) (H':Hp) (I:Inv X pins σ H' s2) (r:RelV x u) (y:J.yld i H x H') (st:tn (i+1) s2.heap) (f:∀b∈fp,H' b=none):ItemP X pins σ H J tn fp i u s2
structure Turn (P:Program) (w:World) (K:PySem.W.Frag) (tg:Expr) (J:It) (fp:List Addr) (it:Addr) (tn:Nat→Heap→Prop):Prop where
  mem:it∈fp
  obj:∀i h,tn i h→∀b∈fp,∃o,h.get? b=some o∧∀v,o.data≠.cell v
  keep:∀i h h',tn i h→(∀b∈fp,∀o,h.get? b=some o→h'.get? b=some o)→tn i h'
  item:∀(X:Cx),X.prog=P→X.w=w→X.K=K→X.calm=true→∀(i:Nat) (pins:List (Addr×Obj)) (s:Shared) (σ:St) (H:Hp) (E:Value→Shared→Prop),Inv X pins σ H s→(∀b∈fp,FpOk X pins H b)→tn i s.heap→J.go i H→
    wpAny (model P w) X.A (pyNext (.ref it)) (fun r s1=>∃u,r=some u∧
      wpAny (model P w) X.A (letOwnedTupleGo tg (.ref it) u) (fun _ s2=>ItemP X pins σ H J tn fp i u s2) E s1) E s
  done:∀(X:Cx),X.prog=P→X.w=w→X.K=K→X.calm=true→∀(i:Nat) (pins:List (Addr×Obj)) (s:Shared) (σ:St) (H:Hp) (E:Value→Shared→Prop),Inv X pins σ H s→(∀b∈fp,FpOk X pins H b)→tn i s.heap→J.stop i H→
    wpAny (model P w) X.A (pyNext (.ref it)) (fun r s1=>r=none∧Inv X pins σ H s1) E s
  self:∀(A:Around) (i:Nat) (s:Shared) (Q:Value→Shared→Prop) (E:Value→Shared→Prop),tn i s.heap→Q (.ref it) s→wpAny (model P w) A (pyIter (.ref it)) Q E s
noncomputable abbrev TI:=St→Hp→(It→Hp→Prop)→Prop
inductive PIE (X:Cx) (pins:List (Addr×Obj)) (σ:St) (tg:Expr) (R:It→Hp→Prop) (itv:Value) (s2:Shared):Prop
  |mk (it:Addr) (fp:List Addr) (tn:Nat→Heap→Prop) (J:It) (H':Hp) (e:itv= .ref it) (I:Inv X pins σ H' s2) (T:Turn X.prog X.w X.K tg J fp it tn) (st:tn 0 s2.heap) (f:∀b∈fp,FpOk X pins H' b) (r:R J H'):PIE X pins σ tg R itv s2
noncomputable def PI (X:Cx) (tg iter:Expr) (wi:TI):Prop:=
  ∀ (pins:List (Addr×Obj)) (s:Shared) (σ:St) (H:Hp) (R:It→Hp→Prop),Inv X pins σ H s→wi σ H R→
    wpAny (model X.prog X.w) X.A (eval iter X.env) (fun v s1=>wpAny (model X.prog X.w) X.A (pyIter v) (PIE X pins σ tg R) X.xe s1) X.xe s
theorem go_of {M:Model} {A:Around} {E:Value→Shared→Prop} {s:Shared} {tg:Expr} {it:Addr} {u:Value} {o:Obj} {n:String} {vs:Array Value} {Q:Unit→Shared→Prop} (ho:s.heap.get? it=some o) (hc:o.cls= .type n) (hd:o.data= .fields vs)
    (hn:["enumerate","zip","dict_itemiterator","dict_reverseitemiterator","odict_iterator","itertools.zip_longest","itertools.pairwise"].contains n=false) (hQ:Q () s):wpAny M A (letOwnedTupleGo tg (.ref it) u) Q E s:=by
  unfold letOwnedTupleGo
  cases tg <;> first
    |exact wpAny_pure hQ
    | (cases u <;> first
        |exact wpAny_pure hQ
        | (refine wpAny_bind (wpAny_load ho ?_)
           rw[hc,hd]
           show wpAny M A (if (["enumerate","zip","dict_itemiterator","dict_reverseitemiterator","odict_iterator","itertools.zip_longest","itertools.pairwise"].contains n && vs[0]? ==some (rawInt _))=true then _ else _) Q E s
           rw[if_neg (by intro h;rw[hn,Bool.false_and] at h;cases h)]
           exact wpAny_pure hQ))
noncomputable def Itl (K:PySem.W.Frag) (a:Addr):It:=
  ⟨fun i H=>∃xs x,SqL K H a xs∧xs[i]?=some x,fun i H x H'=>H'=H∧∀xs,SqL K H a xs→xs[i]?=some x,fun i H=>∃xs,SqL K H a xs∧xs.length≤i⟩
noncomputable def Itt (K:PySem.W.Frag) (a:Addr):It:=
  ⟨fun i H=>∃xs x,SqT K H a xs∧xs[i]?=some x,fun i H x H'=>H'=H∧∀xs,SqT K H a xs→xs[i]?=some x,fun i H=>∃xs,SqT K H a xs∧xs.length≤i⟩
noncomputable def Itr (lo:Int) (n:Nat):It:=⟨fun i _=>i < n,fun i H x H'=>H'=H∧x= .int (lo+i),fun i _=>n≤i⟩
theorem turn_list {P:Program} {w:World} {K:PySem.W.Frag} {tg:Expr} (a it:Addr):Turn P w K tg (Itl K a) [it] it (fun i h=>h.IsListIter it a i) where
  mem:=by simp
  obj:=fun i h st b hb=>by
    have e:b=it:=by simpa using hb
    subst e
    obtain⟨o,e,c,d⟩:=st
    exact⟨o,e,fun v z=>by rw[d] at z;cases z⟩
  keep:=fun i h h' st k=>st.at fun o e=>k it (by simp) o e
  item:=by
    intro X hP hw hK hc i pins s σ H E I hf st hg
    subst hP hw hK
    obtain⟨xs,x,hq,hx⟩:=hg
    obtain⟨its,rv,p,hz⟩:=I.list hq
    obtain⟨u,hu,ru⟩:=rv.get hx
    obtain⟨f0,f1,f2,f3,f4,f5⟩:=hf it (by simp)
    refine wpAny_pyNext_list_item st p.isList (x:=u) (by simpa using hu) fun h' st' sb=>?_
    have I1:Inv X pins σ H {s with heap:=h'}:=I.turned (t':=s.toks) (fun b o hb e=>(sb.2 b hb).trans e) f0 f1 f3 f4 f5
    obtain⟨o,e,c,d⟩:=id st'
    exact⟨u,rfl,go_of (s:={s with heap:=h'}) e c d (by decide) ⟨x,H,I1,ru,⟨rfl,fun ys hy=>by rw[I.list_inj hy hq];exact hx⟩,st',fun b hb=>(hf b hb).1⟩⟩
  done:=by
    intro X hP hw hK hc i pins s σ H E I hf st hg
    subst hP hw hK
    obtain⟨xs,hq,hx⟩:=hg
    obtain⟨its,rv,p,hz⟩:=I.list hq
    obtain⟨f0,f1,f2,f3,f4,f5⟩:=hf it (by simp)
    have hl:=rv.length
    exact wpAny_pyNext_list_end (I.ok.hd hc) st p.isList (by simp;omega) fun h' eb=>⟨rfl,I.turned (t':=s.toks) (fun b o hb e=>eb b o hb e) f0 f1 f3 f4 f5⟩
  self:=fun _ _ _ _ _ st h=>wpAny_pyIter_listiter st h
theorem turn_tuple {P:Program} {w:World} {K:PySem.W.Frag} {tg:Expr} (a it:Addr):Turn P w K tg (Itt K a) [it] it (fun i h=>h.IsTupleIter it a i) where
  mem:=by simp
  obj:=fun i h st b hb=>by
    have e:b=it:=by simpa using hb
    subst e
    obtain⟨o,e,c,d⟩:=st
    exact⟨o,e,fun v z=>by rw[d] at z;cases z⟩
  keep:=fun i h h' st k=>st.at fun o e=>k it (by simp) o e
  item:=by
    intro X hP hw hK hc i pins s σ H E I hf st hg
    subst hP hw hK
    obtain⟨xs,x,hq,hx⟩:=hg
    obtain⟨its,rv,p,hz⟩:=I.tuple hq
    obtain⟨u,hu,ru⟩:=rv.get hx
    obtain⟨f0,f1,f2,f3,f4,f5⟩:=hf it (by simp)
    refine wpAny_pyNext_tuple_item st (show s.heap.IsTuple a its.toArray from p) (x:=u) (by simpa using hu) fun h' st' sb=>?_
    have I1:Inv X pins σ H {s with heap:=h'}:=I.turned (t':=s.toks) (fun b o hb e=>(sb.2 b hb).trans e) f0 f1 f3 f4 f5
    obtain⟨o,e,c,d⟩:=id st'
    exact⟨u,rfl,go_of (s:={s with heap:=h'}) e c d (by decide) ⟨x,H,I1,ru,⟨rfl,fun ys hy=>by rw[I.tuple_inj hy hq];exact hx⟩,st',fun b hb=>(hf b hb).1⟩⟩
  done:=by
    intro X hP hw hK hc i pins s σ H E I hf st hg
    subst hP hw hK
    obtain⟨xs,hq,hx⟩:=hg
    obtain⟨its,rv,p,hz⟩:=I.tuple hq
    obtain⟨f0,f1,f2,f3,f4,f5⟩:=hf it (by simp)
    have hl:=rv.length
    exact wpAny_pyNext_tuple_end (I.ok.hd hc) st (show s.heap.IsTuple a its.toArray from p) (by simp;omega) fun h' eb=>⟨rfl,I.turned (t':=s.toks) (fun b o hb e=>eb b o hb e) f0 f1 f3 f4 f5⟩
  self:=fun _ _ _ _ _ st h=>wpAny_pyIter_tupleiter st h
theorem turn_range {P:Program} {w:World} {K:PySem.W.Frag} {tg:Expr} (it:Addr) (lo:Int) (n:Nat):Turn P w K tg (Itr lo n) [it] it (fun i h=>IsRangeIter h it (lo+(i:Nat)*1) ((n:Int) - (i:Nat)) 1) where
  mem:=by simp
  obj :=fun i h st b hb=>by
    have e:b=it:=by simpa using hb
    subst e
    exact⟨_,st,fun v z=>by
      have z':Data.fields _=Data.cell v:=z
      cases z'⟩
  keep:=fun i h h' st k=>k it (by simp) _ st
  item:=by
    intro X hP hw hK hc i pins s σ H E I hf st hg
    subst hP hw hK
    obtain⟨f0,f1,f2,f3,f4,f5⟩:=hf it (by simp)
    have W:=Walks.range (prog:=X.prog) (w:=X.w) (I.ok.hd hc) it lo 1 n
    refine W.item i s _ _ hg st fun v h' tk hv st' kk=>?_
    obtain⟨t,rfl⟩:=hv
    have I1:Inv X pins σ H {s with heap:=h',toks:=tk}:=I.turned (fun b o hb e=>kk b o (by simpa using hb) e) f0 f1 f3 f4 f5
    refine⟨_,rfl,go_of (s:={s with heap:=h',toks:=tk}) (n:= "range_iterator") st' rfl rfl (by decide) ⟨.int (lo+i),H,I1,⟨t,?_⟩,⟨rfl,rfl⟩,st',fun b hb=>(hf b hb).1⟩⟩
    rw[Int.mul_one]
  done:=by
    intro X hP hw hK hc i pins s σ H E I hf st hg
    subst hP hw hK
    obtain⟨f0,f1,f2,f3,f4,f5⟩:=hf it (by simp)
    exact wpAny_pyNext_range_end (I.ok.hd hc) st (by have:n≤i:=hg;omega) fun h' eb=>⟨rfl,I.turned (t':=s.toks) (fun b o hb e=>eb b o hb e) f0 f1 f3 f4 f5⟩
  self:=fun _ _ _ _ _ st h=>wpAny_pyIter_rangeiter st h
end L2
namespace L2
open PySem PySem.Spec PyProof.Rows
section
variable {X:Cx} {tg:Expr}
theorem range_it {pins:List (Addr×Obj)} {σ:St} {H:Hp} {s:Shared} {R:It→Hp→Prop} {E:Value→Shared→Prop} {lo hi:Int} {t u v:Tok} {tk:Nat} (I:Inv X pins σ H s) (h1: -(2 ^ 62)≤lo) (h2:lo < 2 ^ 62) (h3: -(2 ^ 62)≤hi) (h4:hi < 2 ^ 62)
    (q:R (Itr lo (hi - lo).toNat) H):wpAny (model X.prog X.w) X.A (pyIter (.ref s.heap.objs.size)) (PIE X pins σ tg R) E {s with heap:=s.heap.push {cls:= .type "range",data:= .fields #[.int lo t,.int hi u,.int 1 v]},toks:=tk}:=by
  refine wpAny_pyIter_range (IsRange.new ..) (small_one h1 h2 h3 h4) ?_
  have I1:Inv X pins σ H {s with heap:=s.heap.push {cls:= .type "range",data:= .fields #[.int lo t,.int hi u,.int 1 v]},toks:=tk}:=I.kept fun b o e=>Heap.get?_push_of_some _ e
  refine⟨(s.heap.push {cls:= .type "range",data:= .fields #[.int lo t,.int hi u,.int 1 v]}).objs.size,[(s.heap.push {cls:= .type "range",data:= .fields #[.int lo t,.int hi u,.int 1 v]}).objs.size],_,_,H,rfl,
    I1.kept (t':=tk) fun b o e=>Heap.get?_push_of_some _ e,turn_range _ lo (hi - lo).toNat,?_,fun b hb=>?_,q⟩
  · have e1:lo+((0:Nat):Int)*1=lo:=by simp
    have e2:(((hi - lo).toNat:Nat):Int) - ((0:Nat):Int)=Builtin.Range.rangeSize lo hi 1:=by rw[rangeSize_one];split <;> omega
    show IsRangeIter _ _ (lo+((0:Nat):Int)*1) ((((hi - lo).toNat:Nat):Int) - ((0:Nat):Int)) 1
    rw[e1,e2]
    exact Heap.get?_push_size _ rfl
  · have e:b=(s.heap.push {cls:= .type "range",data:= .fields #[.int lo t,.int hi u,.int 1 v]}).objs.size:=by simpa using hb
    subst e
    exact I1.fpOk (Nat.le_refl _) (I1.hok.fresh (Nat.le_refl _))
noncomputable def iRng1 (ta:TA):TI:=fun σ H R=>ta σ H fun vs H1=>∃j:Int,vs=[.int j]∧-(2 ^ 62)≤j∧j < 2 ^ 62∧R (Itr 0 j.toNat) H1
noncomputable def iRng2 (ta:TA):TI:=fun σ H R=>ta σ H fun vs H1=>∃i j:Int,vs=[.int i,.int j]∧(-(2 ^ 62)≤i∧i < 2 ^ 62∧-(2 ^ 62)≤j∧j < 2 ^ 62)∧R (Itr i (j - i).toNat) H1
theorem pi_range1 {a:Expr} {ta:TA} {p pos:Pos} (hg:Gl X "range") (hm:X.mg "range" =none) (ha:PA X [a] ta) (hs:starEach [a] X.env=[(false,eval a X.env)]:=by rfl):PI X tg (.Call (.Name "range" p) [a] [] pos) (iRng1 ta):=by
  intro pins s σ H R I h
  refine Call_ (ld_blt I hg hm boot_range (PyProof.Rows.callWith_type1 (thn (ha pos pins s σ H _ I h) fun us s1 ⟨vs,H1,I1,r1,q1⟩=>?_) hs rfl))
  obtain⟨j,e,q1,q2,q⟩:=q1
  subst e
  cases r1 with
  | cons r rr=>
    cases rr
    obtain⟨t,rfl⟩:=r
    exact call_range_1 (range_it I1 (by omega) (by omega) q1 q2 (by simpa using q))
theorem pi_range2 {a b:Expr} {ta:TA} {p pos:Pos} (hg:Gl X "range") (hm:X.mg "range" =none) (ha:PA X [a,b] ta) (hs:starEach [a,b] X.env=[(false,eval a X.env),(false,eval b X.env)]:=by rfl) (hs2:starEach [b] X.env=[(false,eval b X.env)]:=by rfl):
    PI X tg (.Call (.Name "range" p) [a,b] [] pos) (iRng2 ta):=by
  intro pins s σ H R I h
  refine Call_ (ld_blt I hg hm boot_range (PyProof.Rows.callWith_type1 (thn (ha pos pins s σ H _ I h) fun us s1 ⟨vs,H1,I1,r1,q1⟩=>?_) (by rw[hs,hs2]) (by rw[hs2];rfl)))
  obtain⟨i,j,e,⟨q1,q2,q3,q4⟩,q⟩:=q1
  subst e
  cases r1 with
  | cons r rr=>
    cases rr with
    | cons r' rr=>
      cases rr
      obtain⟨t,rfl⟩:=r
      obtain⟨t',rfl⟩:=r'
      exact call_range_2 (range_it I1 q1 q2 q3 q4 q)
noncomputable def tFor (wi:TI) (g:TG) (tb:TS):TS:=fun D σ H=>wi σ H fun J H1=>∃W:Nat→Nat→St→Hp→Prop,(∃m,W 0 m σ H1)∧∀i m σ H,W i m σ H→
  (J.stop i H∧D.nx σ H)∨(J.go i H∧∃N:St→Hp→Prop,(∀σ' H',N σ' H'→∃m',m' < m∧W (i+1) m' σ' H')∧∀x H',J.yld i H x H'→g x σ H' fun σ2 H2=>tb {D with nx:=N,ct:=N,bk:=D.nx} σ2 H2)
noncomputable def pinsAt (fp:List Addr) (h:Heap):List (Addr×Obj):=fp.filterMap fun b=>(h.get? b).map fun o=>(b,o)
theorem mem_pinsAt {fp:List Addr} {h:Heap} {b:Addr} {o:Obj} (hb:b∈fp) (e:h.get? b=some o):(b,o)∈pinsAt fp h:=List.mem_filterMap.mpr ⟨b,hb,by rw[e];rfl⟩
theorem of_pinsAt {fp:List Addr} {h:Heap} {p:Addr×Obj} (hp:p∈pinsAt fp h):p.1∈fp∧h.get? p.1=some p.2:=by
  obtain⟨b,hb,e⟩:=List.mem_filterMap.mp hp
  cases q:h.get? b with
  |none=>rw[q] at e;cases e
  | some o=>
    rw[q] at e
    have e':(b,o)=p:=Option.some.inj e
    subst e'
    exact⟨hb,q⟩
theorem Inv.pinned {pins:List (Addr×Obj)} {σ:St} {H:Hp} {s:Shared} {fp:List Addr} (I:Inv X pins σ H s) (hf:∀b∈fp,FpOk X pins H b) (ho:∀b∈fp,∃o,s.heap.get? b=some o∧∀v,o.data≠.cell v):Inv X (pins++pinsAt fp s.heap) σ H s:=
  I.pins_of fun p hp=>(List.mem_append.mp hp).elim (fun z=>I.pin p (List.mem_append_right _ z)) fun z=>by
    obtain⟨hb,e⟩:=of_pinsAt z
    obtain⟨f0,f1,f2,_⟩:=hf p.1 hb
    obtain⟨o,e',d⟩:=ho p.1 hb
    rw[e] at e';cases e'
    exact⟨e,f0,f1,f2,d⟩
theorem Inv.unpinned {pins pl:List (Addr×Obj)} {σ:St} {H:Hp} {s:Shared} (I:Inv X (pins++pl) σ H s):Inv X pins σ H s:=I.pins_of fun p hp=>I.pin p (List.mem_append_right _ (List.mem_append_left _ hp))
inductive ForI (X:Cx) (pins:List (Addr×Obj)) (tn:Nat→Heap→Prop) (fp:List Addr) (W:Nat→Nat→St→Hp→Prop) (n:Nat) (s':Shared):Prop
  |mk (i:Nat) (σ':St) (H':Hp) (I:Inv X pins σ' H' s') (st:tn i s'.heap) (fr:∀b∈fp,H' b=none) (w:W i n σ' H'):ForI X pins tn fp W n s'
theorem ps_for {iter:Expr} {body:List Stmt} {wi:TI} {g:TG} {tb:TS} {pos:Pos} (hp:PassesOwn (model X.prog X.w) X.A X.env X.xe) (hc:X.calm=true) (hi:PI X tg iter wi) (hg:PG X tg g) (hb:PSs X body tb)
    (hs:∀x,foldedSetIterable iter X.env x=pure x:=by intro _;rfl):PS X (.For tg iter body [] pos) (tFor wi g tb):=by
  intro pins s σ H D I h
  refine wpAny_For (thn (hi pins s σ H _ I h) fun v s1 h1=>thn h1 fun itv s2 h2=>?_) hs
  obtain⟨it,fp,tn,J,H2,e,I2,T,st2,f2,W,⟨m0,w0⟩,turn⟩:=h2
  subst e
  have stat:∀{H':Hp},(∀b∈fp,H' b=none)→∀b∈fp,FpOk X pins H' b:=fun hn b hb=>⟨hn b hb,(f2 b hb).2⟩
  refine codeAny_forLoop_any (fun n s'=>ForI X pins tn fp W n s') ?_ m0 ⟨0,σ,H2,I2,st2,fun b hb=>(f2 b hb).1,w0⟩
  rintro n s3 ⟨i,σ3,H3,I3,st3,fr3,w3⟩
  rcases turn i n σ3 H3 w3 with⟨stop,qn⟩ |⟨go,N,hN,step⟩
  · refine wpAny_passesOwn hp (thn (T.done X rfl rfl rfl hc i pins s3 σ3 H3 X.xe I3 (stat fr3) st3 stop) fun r s4 hpz1=>?_)
    obtain⟨hr,I4⟩:=hpz1
    subst hr
    exact wpAny_execs_nil ⟨σ3,H3,I4,qn⟩
  · refine wpAny_passesOwn hp (thn (T.item X rfl rfl rfl hc i pins s3 σ3 H3 X.xe I3 (stat fr3) st3 go) fun r s4 hpz1=>?_)
    obtain⟨u,hr,h4⟩:=hpz1
    subst hr
    refine wpAny_passesOwn hp (thn h4 fun _ s5 hpz1=>?_)
    obtain⟨x,H5,I5,r5,y5,st5,fr5⟩:=hpz1
    have I5':=I5.pinned (stat fr5) (T.obj _ _ st5)
    refine wpAny_passesOwn hp (thn (hg _ s5 σ3 H5 x u _ I5' r5 (step x H5 y5)) fun _ s6 hpz1=>?_)
    obtain⟨σ6,H6,I6,q6⟩:=hpz1
    refine wpAny_passesOwn hp (thn (hb _ s6 σ6 H6 _ I6 q6) fun f s7 q7=>?_)
    have again:∀{σ7:St} {H7:Hp},Inv X (pins++pinsAt fp s5.heap) σ7 H7 s7→N σ7 H7→∃m,m < n∧ForI X pins tn fp W m s7:=fun {σ7 H7} I7 n7=>by
      obtain⟨m',hm,w7⟩:=hN σ7 H7 n7
      refine⟨m',hm,i+1,σ7,H7,I7.unpinned,T.keep _ _ _ st5 fun b hb o e=>(I7.pin (b,o) (List.mem_append_right _ (List.mem_append_right _ (mem_pinsAt hb e)))).1,fun b hb=>?_,w7⟩
      obtain⟨o,e,d⟩:=T.obj _ _ st5 b hb
      exact (I7.pin (b,o) (List.mem_append_right _ (List.mem_append_right _ (mem_pinsAt hb e)))).2.1
    cases f with
    |next=>obtain⟨σ7,H7,I7,n7⟩:=q7;exact again I7 n7
    |cont=>obtain⟨σ7,H7,I7,n7⟩:=q7;exact again I7 n7
    |brk=>obtain⟨σ7,H7,I7,q7⟩:=q7;exact⟨σ7,H7,I7.unpinned,q7⟩
    |ret v=>obtain⟨x7,σ7,H7,I7,r7,q7⟩:=q7;exact⟨x7,σ7,H7,I7.unpinned,r7,q7⟩
end
end L2
namespace L2
open PySem PySem.Spec PyProof.Rows
noncomputable abbrev R2:=V→V→Hp→VK→Prop
noncomputable def OpR (X:Cx) (f:Value→Value→Sem Value) (r:R2):Prop:=
  ∀ (pins:List (Addr×Obj)) (s:Shared) (σ:St) (H:Hp) (x y:V) (v u:Value) (Q:VK),Inv X pins σ H s→RelV x v→RelV y u→r x y H Q→
    wpAny (model X.prog X.w) X.A (f v u) (EP X pins σ Q) X.xe s
noncomputable def UnR (X:Cx) (f:Value→Sem Value) (r:V→Hp→VK→Prop):Prop:=
  ∀ (pins:List (Addr×Obj)) (s:Shared) (σ:St) (H:Hp) (x:V) (v:Value) (Q:VK),Inv X pins σ H s→RelV x v→r x H Q→
    wpAny (model X.prog X.w) X.A (f v) (EP X pins σ Q) X.xe s
noncomputable def CallR (X:Cx) (f:Value) (r:List V→Hp→VK→Prop):Prop:=
  ∀ (pins:List (Addr×Obj)) (s:Shared) (σ:St) (H:Hp) (xs:List V) (us:List Value) (Q:VK),Inv X pins σ H s→Vals xs us→r xs H Q→
    wpAny (model X.prog X.w) X.A (call f us) (EP X pins σ Q) X.xe s
noncomputable def TruR (X:Cx) (r:V→Hp→(Bool→Hp→Prop)→Prop):Prop:=
  ∀ (pins:List (Addr×Obj)) (s:Shared) (σ:St) (H:Hp) (x:V) (v:Value) (Q:Bool→Hp→Prop),Inv X pins σ H s→RelV x v→r x H Q→
    wpAny (model X.prog X.w) X.A (truthy v) (TP X pins σ Q) X.xe s
noncomputable def tOp (r:R2) (ta tb:TE):TE:=fun σ H Q=>ta σ H fun x H1=>tb σ H1 fun y H2=>r x y H2 Q
noncomputable def tUn (r:V→Hp→VK→Prop) (ta:TE):TE:=fun σ H Q=>ta σ H fun x H1=>r x H1 Q
noncomputable def rI (C:Int→Int→Prop) (g:Int→Int→V):R2:=fun x y H Q=>∃i j,x= .int i∧y= .int j∧C i j∧Q (g i j) H
noncomputable def rI0 (g:Int→Int→V):R2:=fun x y H Q=>∃i j,x= .int i∧y= .int j∧Q (g i j) H
noncomputable def rU (g:Int→V):V→Hp→VK→Prop:=fun x H Q=>∃i,x= .int i∧Q (g i) H
section
variable {X:Cx} {a b c:Expr} {ta tb tc:TE} {pos:Pos}
theorem binT (ha:PE X a ta) (hb:PE X b tb) {pins:List (Addr×Obj)} {s:Shared} {σ:St} {H:Hp} {R:V→V→Hp→Prop} (I:Inv X pins σ H s)
    (h:ta σ H fun x H1=>tb σ H1 fun y H2=>R x y H2) {Q:Value→Shared→Prop} {f:Value→Value→Sem Value}
    (hf:∀v u s2 x y H2,Inv X pins σ H2 s2→RelV x v→RelV y u→R x y H2→wpAny (model X.prog X.w) X.A (f v u) Q X.xe s2):
    wpAny (model X.prog X.w) X.A (eval a X.env) (fun v s₁=>wpAny (model X.prog X.w) X.A (eval b X.env) (fun u s₂=>wpAny (model X.prog X.w) X.A (f v u) Q X.xe s₂) X.xe s₁) X.xe s:=by
  refine thn (ha pins s σ H _ I h) fun v s1 hpz1=>?_
  obtain⟨x,H1,I1,r1,q1⟩:=hpz1
  refine thn (hb pins s1 σ H1 _ I1 q1) fun u s2 hpz1=>?_
  obtain⟨y,H2,I2,r2,q2⟩:=hpz1
  exact hf v u s2 x y H2 I2 r1 r2 q2
theorem pe_op {op:Operator} {r:R2} (ho:OpR X (binaryOp op) r) (ha:PE X a ta) (hb:PE X b tb):PE X (.BinOp a op b pos) (tOp r ta tb):=by
  intro pins s σ H Q I h
  exact wpAny_BinOp (binT ha hb I h fun v u s2 x y H2 I2 rx ry q=>ho pins s2 σ H2 x y v u Q I2 rx ry q)
theorem pe_un {op:UnaryOp} {r:V→Hp→VK→Prop} (ho:UnR X (unaryOp op) r) (ha:PE X a ta):PE X (.UnaryOp op a pos) (tUn r ta):=by
  intro pins s σ H Q I h
  exact UnaryOp_ (thn (ha pins s σ H _ I h) fun v s1 ⟨x,H1,I1,r1,q1⟩=>ho pins s1 σ H1 x v Q I1 r1 q1)
theorem opI {f:Value→Value→Sem Value} {C:Int→Int→Prop} {g:Int→Int→Int}
    (rule:∀(i j:Int) (t u:Tok) (s:Shared) (Q:Value→Shared→Prop) (E:Value→Shared→Prop),C i j→Q (.int (g i j) s.toks) {s with toks:=s.toks+1}→wpAny (model X.prog X.w) X.A (f (.int i t) (.int j u)) Q E s):
    OpR X f (rI C fun i j=> .int (g i j)):=by
  intro pins s σ H x y v u Q I rx ry h
  obtain⟨i,j,rfl,rfl,hc,q⟩:=h
  obtain⟨t,rfl⟩:=rx
  obtain⟨t',rfl⟩:=ry
  exact rule i j t t' s _ _ hc ⟨.int (g i j),H,I.tok _,⟨_,rfl⟩,q⟩
theorem opI0 {f:Value→Value→Sem Value} {g:Int→Int→Int}
    (rule:∀(i j:Int) (t u:Tok) (s:Shared) (Q:Value→Shared→Prop) (E:Value→Shared→Prop),Q (.int (g i j) s.toks) {s with toks:=s.toks+1}→wpAny (model X.prog X.w) X.A (f (.int i t) (.int j u)) Q E s):
    OpR X f (rI0 fun i j=> .int (g i j)):=by
  intro pins s σ H x y v u Q I rx ry h
  obtain⟨i,j,rfl,rfl,q⟩:=h
  obtain⟨t,rfl⟩:=rx
  obtain⟨t',rfl⟩:=ry
  exact rule i j t t' s _ _ ⟨.int (g i j),H,I.tok _,⟨_,rfl⟩,q⟩
theorem opB0 {f:Value→Value→Sem Value} {g:Int→Int→Bool}
    (rule:∀(i j:Int) (t u:Tok) (s:Shared) (Q:Value→Shared→Prop) (E:Value→Shared→Prop),Q (.bool (g i j)) s→wpAny (model X.prog X.w) X.A (f (.int i t) (.int j u)) Q E s):
    OpR X f (rI0 fun i j=> .bl (g i j)):=by
  intro pins s σ H x y v u Q I rx ry h
  obtain⟨i,j,rfl,rfl,q⟩:=h
  obtain⟨t,rfl⟩:=rx
  obtain⟨t',rfl⟩:=ry
  exact rule i j t t' s _ _ ⟨.bl (g i j),H,I,rfl,q⟩
noncomputable def CPow (i j:Int):Prop:=0≤j∧j≤1000000∧i.natAbs < 2 ^ 64
noncomputable def CMul (i j:Int):Prop:=(-(2 ^ 64) < i∧i < 2 ^ 64)∨(-(2 ^ 64) < j∧j < 2 ^ 64)
theorem CMul.ok {i j:Int} (h:CMul i j):IntMulOk i j:=by
  rcases h with⟨h1,h2⟩ |⟨h1,h2⟩
  · exact .of_left (intBits_le_64 h1 h2)
  · exact .of_right (intBits_le_64 h1 h2)
theorem op_add:OpR X (binaryOp .Add) (rI0 fun i j=> .int (i+j)):=opI0 fun _ _ _ _ _ _ _ q=>add_int q
theorem op_sub:OpR X (binaryOp .Sub) (rI0 fun i j=> .int (i - j)):=opI0 fun _ _ _ _ _ _ _ q=>sub_int q
theorem op_mul:OpR X (binaryOp .Mult) (rI CMul fun i j=> .int (i*j)):=opI fun _ _ _ _ _ _ _ hc q=>mul_int q hc.ok
theorem op_mod:OpR X (binaryOp .Mod) (rI (fun _ j=>0 < j) fun i j=> .int (i % j)):=opI fun i j _ _ _ _ _ hc q=>by
  have h1:(0:Int) < j:=hc
  exact mod_int' (by omega) (by rw[Int.fmod_eq_emod_of_nonneg i (by omega)];exact q)
theorem op_pow:OpR X (binaryOp .Pow) (rI CPow fun i j=> .int (i ^ j.toNat)):=opI fun _ _ _ _ _ _ _ hc q=>pow_int_small hc.1 hc.2.1 hc.2.2 q
theorem unI {f:Value→Sem Value} {g:Int→Int}
    (rule:∀(i:Int) (t:Tok) (s:Shared) (Q:Value→Shared→Prop) (E:Value→Shared→Prop),Q (.int (g i) s.toks) {s with toks:=s.toks+1}→wpAny (model X.prog X.w) X.A (f (.int i t)) Q E s):
    UnR X f (rU fun i=> .int (g i)):=by
  intro pins s σ H x v Q I rx h
  obtain⟨i,rfl,q⟩:=h
  obtain⟨t,rfl⟩:=rx
  exact rule i t s _ _ ⟨.int (g i),H,I.tok _,⟨_,rfl⟩,q⟩
theorem un_neg:UnR X (unaryOp .USub) (rU fun i=> .int (-i)):=unI fun _ _ _ _ _ q=>neg_int q
end
section
variable {X:Cx} {a b c:Expr} {ta tb tc:TE} {pos:Pos}
theorem fin_bl {pins:List (Addr×Obj)} {σ:St} {H:Hp} {s:Shared} {Q:VK} {k k':Bool} (I:Inv X pins σ H s) (q:Q (.bl k) H) (e:k=k'):EP X pins σ Q (.bool k') s:=by
  subst e
  exact⟨.bl k,H,I,rfl,q⟩
theorem op_lt:OpR X (compareOp .Lt) (rI0 fun i j=> .bl (decide (i < j))):=opB0 fun _ _ _ _ _ _ _ q=>lt_int q
theorem op_le:OpR X (compareOp .LtE) (rI0 fun i j=> .bl (decide (i≤j))):=opB0 fun _ _ _ _ _ _ _ q=>le_int q
theorem op_gt:OpR X (compareOp .Gt) (rI0 fun i j=> .bl (decide (j < i))):=opB0 fun _ _ _ _ _ _ _ q=>gt_int q
theorem op_ge:OpR X (compareOp .GtE) (rI0 fun i j=> .bl (decide (j≤i))):=opB0 fun _ _ _ _ _ _ _ q=>ge_int q
theorem op_isN:OpR X (compareOp .Is) (fun x y H Q=>y= .non∧Q (.bl (decide (x= .non))) H):=by
  intro pins s σ H x y v u Q I rx ry h
  obtain⟨rfl,q⟩:=h
  cases ry
  refine is_none_gen (fin_bl I q ?_)
  cases x <;> first
    |(cases rx;rfl)
    |(obtain⟨t,rfl⟩:=rx;rfl)
theorem OpR.or {f:Value→Value→Sem Value} {r r':R2} (h:OpR X f r) (h':OpR X f r'):OpR X f (fun x y H Q=>r x y H Q∨r' x y H Q):=by
  intro pins s σ H x y v u Q I rx ry q
  rcases q with q |q
  · exact h pins s σ H x y v u Q I rx ry q
  · exact h' pins s σ H x y v u Q I rx ry q
theorem nomark (b:Expr) {op:CmpOp} (h:op≠.In:=by decide) (h2:op≠.NotIn:=by decide):behindInMarks op b=false:=by
  have e1:(op ==CmpOp.In)=false:=by cases op <;> first |rfl |exact absurd rfl h
  have e2:(op ==CmpOp.NotIn)=false:=by cases op <;> first |rfl |exact absurd rfl h2
  cases b <;> simp[behindInMarks,e1,e2]
theorem pe_cmpR {op:CmpOp} {r:R2} (ho:OpR X (compareOp op) r) (ha:PE X a ta) (hb:PE X b tb) (hm:behindInMarks op b=false):PE X (.Compare a [op] [b] pos) (tOp r ta tb):=by
  intro pins s σ H Q I h
  exact wpAny_Compare1 (binT ha hb I h fun v u s2 x y H2 I2 rx ry q=>ho pins s2 σ H2 x y v u Q I2 rx ry q) hm
noncomputable def tTest (t:TE):TT:=fun σ H Q=>t σ H fun x H'=>∃k,x= .bl k∧Q k H'
theorem pt_cmpR {op:CmpOp} {r:R2} (ho:OpR X (compareOp op) r) (ha:PE X a ta) (hb:PE X b tb) (hm:behindInMarks op b=false):PT X (.Compare a [op] [b] pos) (tTest (tOp r ta tb)):=by
  intro pins s σ H Q I h
  refine wpAny_isTrue_Compare1 (thn (ha pins s σ H _ I h) fun v s1 ⟨x,H1,I1,r1,q1⟩=>thn (hb pins s1 σ H1 _ I1 q1) fun u s2 ⟨y,H2,I2,r2,q2⟩=>
    thn (ho pins s2 σ H2 x y v u _ I2 r1 r2 q2) fun c s3 ⟨z,H3,I3,r3,k,e,q3⟩=>?_) hm
  subst e
  cases r3
  exact wpAny_truthy_bool ⟨H3,I3,q3⟩
noncomputable def tChain (r r':R2) (ta tb tc:TE):TE:=fun σ H Q=>ta σ H fun x H1=>tb σ H1 fun y H2=>r x y H2 fun z H3=>∃k,z= .bl k∧
  (if k=true then tc σ H3 fun w' H4=>r' y w' H4 Q else Q (.bl false) H3)
theorem pe_chain {op op':CmpOp} {r r':R2} (ho:OpR X (compareOp op) r) (ho':OpR X (compareOp op') r') (ha:PE X a ta) (hb:PE X b tb) (hc:PE X c tc)
    (hm:lastMarks [op,op'] [b,c]=false:=by with_unfolding_all rfl):PE X (.Compare a [op,op'] [b,c] pos) (tChain r r' ta tb tc):=by
  intro pins s σ H Q I h
  refine Compare_chain (thn (ha pins s σ H _ I h) fun v s1 ⟨x,H1,I1,r1,q1⟩=>chain_link (thn (hb pins s1 σ H1 _ I1 q1) fun u s2 ⟨y,H2,I2,r2,q2⟩=>
    thn (ho pins s2 σ H2 x y v u _ I2 r1 r2 q2) fun d s3 ⟨z,H3,I3,r3,k,e,q3⟩=>?_)) hm
  subst e
  cases r3
  refine wpAny_truthy_bool ?_
  cases k with
  |false=>exact ite_ff ⟨.bl false,H3,I3,rfl,q3⟩
  |true=>exact ite_tt (chain_last (thn (hc pins s3 σ H3 _ I3 q3) fun w' s4 ⟨z',H4,I4,r4,q4⟩=>ho' pins s4 σ H4 y z' u w' Q I4 r2 r4 q4))
theorem pt_chain {op op':CmpOp} {r r':R2} (ho:OpR X (compareOp op) r) (ho':OpR X (compareOp op') r') (ha:PE X a ta) (hb:PE X b tb) (hc:PE X c tc)
    (hm:lastMarks [op,op'] [b,c]=false:=by with_unfolding_all rfl):PT X (.Compare a [op,op'] [b,c] pos) (tTest (tChain r r' ta tb tc)):=by
  intro pins s σ H Q I h
  refine isTrue_chain (thn (ha pins s σ H _ I h) fun v s1 ⟨x,H1,I1,r1,q1⟩=>test_link (thn (hb pins s1 σ H1 _ I1 q1) fun u s2 ⟨y,H2,I2,r2,q2⟩=>
    thn (ho pins s2 σ H2 x y v u _ I2 r1 r2 q2) fun d s3 ⟨z,H3,I3,r3,k,e,q3⟩=>?_)) hm
  subst e
  cases r3
  refine wpAny_truthy_bool ?_
  cases k with
  | false=>
    obtain⟨k',e',q'⟩:=q3
    cases e'
    exact ite_ff ⟨H3,I3,q'⟩
  | true=>
    refine ite_tt (test_last (thn (hc pins s3 σ H3 _ I3 q3) fun w' s4 ⟨z',H4,I4,r4,q4⟩=>thn (ho' pins s4 σ H4 y z' u w' _ I4 r2 r4 q4) fun d' s5 hpz1=>?_))
    obtain⟨z2,H5,I5,r5,k2,e2,q5⟩:=hpz1
    subst e2
    cases r5
    exact wpAny_truthy_bool ⟨H5,I5,q5⟩
noncomputable def TruV (K:PySem.W.Frag) (x:V) (H:Hp) (k:Bool):Prop:=
  match x with
  | .non=>k=false
  | .bl b=>k=b
  | .int i=>k=(i !=0)
  | .str y=>y.length≤sizeLine∧k=((y.length:Int) !=0)
  | .byt y=>y.size≤sizeLine∧k=((y.size:Int) !=0)
  | .ref p=>(∃xs,SqL K H p xs∧k= !xs.isEmpty)∨(∃xs,SqT K H p xs∧k= !xs.isEmpty)∨∃kvs,H p=some (.dK kvs)∧k= !kvs.isEmpty
  |_=>False
theorem isEmpty_kv {κ:Type} {kvs:List (κ×V)} {vs:List (κ×Value)} (r:KV kvs vs):(!vs.isEmpty)= !kvs.isEmpty:=by
  cases r <;> rfl
theorem isEmpty_of {xs:List V} {its:List Value} (r:Vals xs its):(!its.toArray.isEmpty)= !xs.isEmpty:=by
  cases r <;> simp
theorem line63:(sizeLine:Nat) < 2 ^ 63:=by rw[sizeLine_eq];decide
theorem tru_ok:TruR X (fun x H Q=>∃k,TruV X.K x H k∧Q k H):=by
  intro pins s σ H x v Q I rx h
  obtain⟨k,e,q⟩:=h
  have hl:=line63
  have hs:sizeLine=16777216:=sizeLine_eq
  cases x with
  | non=>
    cases rx
    have e':k=false:=e
    subst e'
    exact truthy_none ⟨H,I,q⟩
  | bl b=>
    cases rx
    have e':k=b:=e
    subst e'
    exact wpAny_truthy_bool ⟨H,I,q⟩
  | int i=>
    obtain⟨t,rfl⟩:=rx
    have e':k=(i !=0):=e
    subst e'
    exact PySem.P.truthy_int ⟨H,I,q⟩
  | str y=>
    obtain⟨t,rfl⟩:=rx
    obtain⟨hy,e'⟩:y.length≤sizeLine∧k=((y.length:Int) !=0):=e
    subst e'
    exact PySem.P.truthy_str (by omega) ⟨H,I.tok _,q⟩
  | byt y=>
    obtain⟨t,rfl⟩:=rx
    obtain⟨hy,e'⟩:y.size≤sizeLine∧k=((y.size:Int) !=0):=e
    subst e'
    exact PySem.W.truthy_bytes (by omega) ⟨H,I.tok _,q⟩
  | ref p=>
    cases rx
    have e':(∃xs,SqL X.K H p xs∧k= !xs.isEmpty)∨(∃xs,SqT X.K H p xs∧k= !xs.isEmpty)∨∃kvs,H p=some (.dK kvs)∧k= !kvs.isEmpty:=e
    rcases e' with⟨xs,hx,e'⟩ |⟨xs,hx,e'⟩ |⟨kvs,hx,e'⟩
    · subst e'
      obtain⟨its,r,pl,hz⟩:=I.list hx
      have hlen:=r.length
      exact wpAny_truthy_list pl.isList (by simp only[List.size_toArray];omega) ⟨H,I.tok _,by rw[isEmpty_of r];exact q⟩
    · subst e'
      obtain⟨its,r,pl,hz⟩:=I.tuple hx
      have hlen:=r.length
      exact truthy_tuple pl (by simp only[List.size_toArray];omega) ⟨H,I.tok _,by rw[isEmpty_of r];exact q⟩
    · subst e'
      obtain⟨hz,hS,vs,r,m⟩:kvs.length≤sizeLine∧(p ==sysModules)=false∧∃vs,KV kvs vs∧s.heap.DictOf (mixKind X.prog X.w) p vs:=I.hok p _ hx
      have hlen:kvs.length=vs.length:=Paired.length r
      exact wpAny_truthy_dict hS m (by omega) ⟨H,I.tok _,by rw[isEmpty_kv r];exact q⟩
  |_=>exact (show False from e).elim
theorem pt_truth (ha:PE X a ta) (he:∀whole,isTrue a X.env whole=(do let v ←whole;standAt a.pos;holding [v] (truthy v))):
    PT X a (fun σ H Q=>ta σ H fun x H'=>∃k,TruV X.K x H' k∧Q k H'):=by
  intro pins s σ H Q I h
  exact isTrue_plain (thn (ha pins s σ H _ I h) fun v s1 ⟨x,H1,I1,r1,q1⟩=>tru_ok pins s1 σ H1 x v Q I1 r1 q1) (he _)
theorem vals1 {x:V} {us:List Value} (r:Vals [x] us):∃u,us=[u]∧RelV x u:=by
  cases r with
  |cons r1 r2=>cases r2;exact⟨_,rfl,r1⟩
theorem vals2 {x y:V} {us:List Value} (r:Vals [x,y] us):∃u w',us=[u,w']∧RelV x u∧RelV y w':=by
  cases r with
  | cons r1 r2=>
    cases r2 with
    |cons r3 r4=>cases r4;exact⟨_,_,rfl,r1,r3⟩
theorem call_abs:CallR X (.builtin "abs") (fun xs H Q=>∃i,xs=[.int i]∧Q (.int (if i < 0 then -i else i)) H):=by
  intro pins s σ H xs us Q I r h
  obtain⟨i,rfl,q⟩:=h
  obtain⟨u,rfl,t,rfl⟩:=vals1 r
  exact call_abs_int fun u tk=>⟨.int (if i < 0 then -i else i),H,I.tok _,⟨_,rfl⟩,q⟩
theorem call_max2 (hc:X.calm=true):CallR X (.builtin "max") (fun xs H Q=>∃i j,xs=[.int i,.int j]∧Q (.int (if j > i then j else i)) H):=by
  intro pins s σ H xs us Q I r h
  obtain⟨i,j,rfl,q⟩:=h
  obtain⟨u,w',rfl,⟨t,rfl⟩,⟨t',rfl⟩⟩:=vals2 r
  refine max_two_ints (I.ok.hd hc) fun h' tk k=>⟨_,H,I.kept k,?_,q⟩
  by_cases hj:j > i
  · rw[if_pos hj,if_pos hj];exact⟨_,rfl⟩
  · rw[if_neg hj,if_neg hj];exact⟨_,rfl⟩
theorem call_min2 (hc:X.calm=true):CallR X (.builtin "min") (fun xs H Q=>∃i j,xs=[.int i,.int j]∧Q (.int (if j < i then j else i)) H):=by
  intro pins s σ H xs us Q I r h
  obtain⟨i,j,rfl,q⟩:=h
  obtain⟨u,w',rfl,⟨t,rfl⟩,⟨t',rfl⟩⟩:=vals2 r
  refine min_two_ints (I.ok.hd hc) fun h' tk k=>⟨_,H,I.kept k,?_,q⟩
  by_cases hj:j < i
  · rw[if_pos hj,if_pos hj];exact⟨_,rfl⟩
  · rw[if_neg hj,if_neg hj];exact⟨_,rfl⟩
end
end L2
namespace L2
open PySem PySem.Spec PyProof.Rows
section
variable {prog:Program} {w:World} {A:Around} {E:Value→Shared→Prop} {s:Shared} {K:PySem.W.Frag} {x dx C f:Addr} {mA:Str→Option Value} {name:Str} {v:Value}
end
section
variable {P:Program} {w:World} {H H':Hp} {h h':Heap} {a C dx:Addr} {fs fs':List (Str×V)}
end
section
variable {X:Cx} {pins:List (Addr×Obj)} {σ:St} {H:Hp} {s:Shared} {a C dx:Addr} {fs:List (Str×V)} {f:Str} {v:V} {A:Around} {E:Value→Shared→Prop}
end
section
variable {X:Cx} {o e value:Expr} {f:Str} {pos pos' tpos:Pos} {ta tv:TE}
end
section
variable {X:Cx} {pins:List (Addr×Obj)} {σ:St} {H:Hp} {s:Shared} {A:Around} {E:Value→Shared→Prop} {Q:Value→Shared→Prop} {c:Value} {b:Bool}
end
end L2
namespace L2
open PySem PySem.Spec PyProof.Rows
structure Room (k:Nat) (A:Around):Prop where
  hd:A.handled=none
  dp:A.depth+3*k+5 < recursionLimit
  un:A.units+16*k+200 < cLine
theorem Room.mono {j k:Nat} {A:Around} (r:Room k A) (h:j≤k):Room j A:=⟨r.hd,by have:=r.dp;omega,by have:=r.un;omega⟩
theorem Room.deeper {k:Nat} {A:Around} (r:Room (k+1) A) (env:Env):Room k (A.deeper env):=
  ⟨r.hd,by have:=r.dp;show A.depth+1+3*k+5 < _;omega,by have:=r.un;show A.units+3+16*k+200 < _;omega⟩
theorem Room.depth {k:Nat} {A:Around} (r:Room k A):A.depth < recursionLimit:=by have:=r.dp;omega
noncomputable def tNil:TA:=fun _ H Q=>Q [] H
noncomputable def tCons (ta:TE) (tr:TA):TA:=fun σ H Q=>ta σ H fun x H1=>tr σ H1 fun xs H2=>Q (x::xs) H2
section
variable {X:Cx} {e:Expr} {es:List Expr} {te:TE} {t:TA} {pos:Pos}
theorem pa_nil:PA X [] tNil:=fun _ _ _ _ H Q I h=>Calls.spliced_nil ⟨[],H,I,.nil,h⟩
theorem pa_cons (ha:PE X e te) (hr:PA X es t) (hs:starEach (e::es) X.env=(false,eval e X.env)::starEach es X.env:=by rfl):PA X (e::es) (tCons te t):=by
  intro pos pins s σ H Q I h
  rw[hs]
  show wpAny _ _ (spliced ((false,eval e X.env)::backTo pos (starEach es X.env))) _ _ s
  refine Calls.spliced_cons (thn (ha pins s σ H _ I h) fun u s1 hpz1=>?_)
  obtain⟨x,H1,I1,r1,q1⟩:=hpz1
  refine thn (hr pos pins s1 σ H1 _ I1 q1) fun us s2 hpz1=>?_
  obtain⟨xs,H2,I2,r2,q2⟩:=hpz1
  exact⟨x::xs,H2,I2,.cons r1 r2,q2⟩
noncomputable def tTup (t:TA):TE:=fun σ H Q=>t σ H fun xs H1=>xs.length≤sizeLine∧∀p,H1 p=none→Q (.ref p) (upd H1 p (.tup xs))
noncomputable def tLst (t:TA):TE:=fun σ H Q=>t σ H fun xs H1=>xs.length≤sizeLine∧∀p,H1 p=none→Q (.ref p) (upd H1 p (.lst xs))
theorem pe_tup {x1} (h:PA X es t):PE X (.Tuple es x1 pos) (tTup t):=by
  intro pins s σ H Q I hq
  refine wpAny_Tuple_spliced (thn (h pos pins s σ H _ I hq) fun us s1 ⟨xs,H1,I1,r,z,q⟩=>⟨by rw[←r.length];exact z,?_⟩)
  have hf:H1 s1.heap.objs.size=none:=I1.hok.fresh (Nat.le_refl _)
  refine⟨.ref s1.heap.objs.size,upd H1 s1.heap.objs.size (.tup xs),I1.laid (t':=s1.toks) (fun b u e=>Heap.get?_push_of_some _ e) (Nat.le_refl _) ?_,rfl,q _ hf⟩
  exact⟨z,us,r,⟨_,Heap.get?_push_size _ rfl,rfl,_,rfl⟩⟩
theorem pe_lst (h:PA X es t):PE X (.List es pos) (tLst t):=by
  intro pins s σ H Q I hq
  refine wpAny_List_spliced (thn (h pos pins s σ H _ I hq) fun us s1 ⟨xs,H1,I1,r,z,q⟩=>⟨by rw[←r.length];exact z,?_⟩)
  have hf:H1 s1.heap.objs.size=none:=I1.hok.fresh (Nat.le_refl _)
  refine⟨.ref s1.heap.objs.size,upd H1 s1.heap.objs.size (.lst xs),I1.laid (t':=s1.toks) (fun b u e=>Heap.get?_push_of_some _ e) (Nat.le_refl _) ?_,rfl,q _ hf⟩
  exact⟨z,us,0,r,Heap.get?_push_size _ rfl⟩
end
noncomputable abbrev Sp:=List V→Hp→VK→XK→Prop
noncomputable abbrev CXT:=List Env→Hp→Shared→XK→Value→Shared→Prop
structure Env0 (P:Program) (w:World) (K:PySem.W.Frag) (mg:Str→Option Value) (base:Heap) (A:Around) (outer:List Env) (s:Shared) (H:Hp):Prop where
  frames:A.frames=some outer
  mod:Mod K mg base
  bs:∀b o,base.get? b=some o→s.heap.get? b=some o∧H b=none
  bsz:base.objs.size≤s.heap.objs.size
  funs:s.heap.FunFrames base outer
  frf:∀b∈frs outer,H b=none
  hok:HOk P w H s.heap
  bare:AllBare s.gens
inductive CE (outer:List Env) (P:Program) (w:World) (H:Hp) (s:Shared) (Q:VK) (u:Value) (s':Shared):Prop
  |mk (v:V) (H':Hp) (os:s'.os=s.os) (bare:AllBare s'.gens) (un:Un (frs outer) [] H H' s.heap s'.heap) (hok:HOk P w H' s'.heap) (r:RelV v u) (q:Q v H'):CE outer P w H s Q u s'
noncomputable def CR (CX:CXT) (outer:List Env) (P:Program) (w:World) (H:Hp) (s:Shared) (Q:VK) (E:XK) (r:Result) (s':Shared):Prop:=
  match r with
  | .ok (.ret u)=>CE outer P w H s Q u s'
  | .ok _=>False
  | .error e=>CX outer H s E e s'
structure FnOk (P:Program) (w:World) (K:PySem.W.Frag) (mg:Str→Option Value) (base:Heap) (CX:CXT) (k:Nat) (f:Addr) (fd:FuncData) (ps:List Str) (sp:Sp):Prop where
  len:∀vs H Q E,sp vs H Q E→vs.length=ps.length
  run:∀(A:Around) (outer:List Env) (s:Shared) (H:Hp) (args:Args) (us:List Value) (vs:List V) (Q:VK) (E:XK),Room k A→Env0 P w K mg base A outer s H→BindsTo s fd args (ps.zip us)→Vals vs us→sp vs H Q E→
    codeAny (model P w) A (.call (.ref f) args) (CR CX outer P w H s Q E) s
theorem FnOk.mono {P:Program} {w:World} {K:PySem.W.Frag} {mg:Str→Option Value} {base:Heap} {CX:CXT} {j k:Nat} {f:Addr} {fd:FuncData} {ps:List Str} {sp:Sp} (F:FnOk P w K mg base CX j f fd ps sp) (h:j≤k):
    FnOk P w K mg base CX k f fd ps sp:=⟨F.len,fun A outer s H args us vs Q E hr=>F.run A outer s H args us vs Q E (hr.mono h)⟩
section
variable {X:Cx} {pins:List (Addr×Obj)} {σ:St} {H:Hp} {s s':Shared}
theorem Inv.env0 (I:Inv X pins σ H s):Env0 X.prog X.w X.K X.mg X.base X.A X.stack s H:=
  ⟨I.ok.frames,I.ok.mod,I.bs,Nat.le_trans I.ok.bsz I.sz,I.stack,I.stkFree,I.hok,I.bare⟩
theorem Inv.after {Q:VK} {u:Value} (I:Inv X pins σ H s) (h:CE X.stack X.prog X.w H s Q u s'):EP X pins σ Q u s':=by
  obtain⟨v,H',os,bare,un,hok,r,q⟩:=h
  obtain⟨hh,g,d,t,os'⟩:=s'
  obtain rfl:os'=s.os:=os
  exact⟨v,H',I.call (h':=hh) (g':=g) (d':=d) (t':=t) (ch:=[]) un hok bare (fun b z=>absurd z (by simp)),r,q⟩
end
noncomputable def tCall (sp:Sp) (dvs:List V) (E:XK) (t:TA):TE:=fun σ H Q=>t σ H fun vs H1=>sp (vs++dvs) H1 Q E
noncomputable def Binds (K:PySem.W.Frag) (fd:FuncData) (ps:List Str) (ds:List Value):Prop:=
  ∀(s:Shared) (us:List Value),K.In s.heap→(us++ds).length=ps.length→BindsTo s fd ⟨us,[]⟩ (ps.zip (us++ds))
theorem Binds.all {K:PySem.W.Frag} {fd:FuncData} {ps:List Str} (h:∀us:List Value,us.length=ps.length→bindArgs fd ⟨us,[]⟩=pure (ps.zip us)):Binds K fd ps []:=fun s us _ hl=>by
  rw[List.append_nil] at hl ⊢
  exact .of_eq (h us hl)
noncomputable def Passes (CX:CXT) (X:Cx) (E:XK):Prop:=∀(pins:List (Addr×Obj)) (σ:St) (H:Hp) (s:Shared) (e:Value) (s':Shared),Inv X pins σ H s→CX X.stack H s E e s'→X.xe e s'
section
variable {X:Cx} {CX:CXT} {k:Nat} {f C:Addr} {fd:FuncData} {ps:List Str} {sp:Sp} {dvs:List V} {ds:List Value} {E:XK} {x m:Str} {p pos apos:Pos} {e o:Expr} {es:List Expr} {ta:TE} {t:TA}
theorem run_fn {pins:List (Addr×Obj)} {σ:St} {H:Hp} {s:Shared} {Q:VK} {us:List Value} {vs:List V} (F:FnOk X.prog X.w X.K X.mg X.base CX k f fd ps sp) (hr:Room k X.A) (hb:Binds X.K fd ps ds) (hd:Vals dvs ds) (hx:Passes CX X E)
    (I:Inv X pins σ H s) (r:Vals vs us) (h:sp (vs++dvs) H Q E):wpAny (model X.prog X.w) X.A (call (.ref f) us) (EP X pins σ Q) X.xe s:=by
  have r2:Vals (vs++dvs) (us++ds):=r.append hd
  have hl:(us++ds).length=ps.length:=by rw[←r2.length];exact F.len _ _ _ _ h
  refine wpAny_call (codeAny_mono (F.run X.A X.stack s H ⟨us,[]⟩ (us++ds) (vs++dvs) Q E hr I.env0 (hb s us I.kIn hl) r2 h) fun r s' hq=>?_)
  cases r with
  |error e=>exact hx pins σ H s e s' I hq
  | ok fl=>
    cases fl with
    |ret u=>exact I.after hq
    |next=>exact False.elim hq
    |brk=>exact False.elim hq
    |cont=>exact False.elim hq
theorem pe_call (F:FnOk X.prog X.w X.K X.mg X.base CX k f fd ps sp) (hr:Room k X.A) (hg:Gl X x) (hm:X.mg x=some (.ref f)) (hk:PySem.W.keepIn X.K (.ref f)=true) (hb:Binds X.K fd ps ds) (hd:Vals dvs ds) (hx:Passes CX X E)
    (ha:PA X (e::es) t) (hdb:(x ==("__debug__" :Str))=false:=by decide) (he:starEach (e::es) X.env=(false,eval e X.env)::starEach es X.env:=by rfl) (hpl:(backTo pos (starEach es X.env)).any (·.1)=false:=by rfl):
    PE X (.Call (.Name x p) (e::es) [] pos) (tCall sp dvs E t):=by
  intro pins s σ H Q I h
  refine wpAny_Call_Name_kw (ld_glob I hg hm ?_ hdb)
  refine PySem.W.callWith_K (h₀:=X.base) I.ok.mod.kin hk (thn (ha pos pins s σ H _ I h) fun us s1 ⟨vs,H1,I1,r,q⟩=>⟨I1.kIn,?_⟩) he hpl
  exact run_fn F hr hb hd hx I1 r q
end
noncomputable def PK (X:Cx) (kws:List Keyword) (t:TA):Prop:=
  ∀(pos:Pos) (pins:List (Addr×Obj)) (s:Shared) (σ:St) (H:Hp) (Q:List V→Hp→Prop),Inv X pins σ H s→t σ H Q→wpAny (model X.prog X.w) X.A (evalAll ((backToKw pos (keywordEach kws X.env)).map (·.2))) (AP X pins σ Q) X.xe s
section
variable {X:Cx} {CX:CXT} {k:Nat} {f C:Addr} {fd:FuncData} {ps ks:List Str} {sp:Sp} {E:XK} {x m:Str} {p pos apos kpos:Pos} {e o:Expr} {es:List Expr} {kws:List Keyword} {te ta:TE} {t tk:TA} {nm:Option Str}
theorem pk_nil:PK X [] tNil:=fun _ _ _ _ H Q I h=>wpAny_evalAll_nil ⟨[],H,I,.nil,h⟩
theorem pk_cons (ha:PE X e te) (hr:PK X kws t):PK X (⟨nm,e,kpos⟩::kws) (tCons te t):=by
  intro pos pins s σ H Q I h
  show wpAny _ _ (evalAll ((do let v ←eval e X.env;standAt pos;pure v)::(backToKw pos (keywordEach kws X.env)).map (·.2))) _ _ s
  refine wpAny_evalAll_cons (wpAny_bind (thn (ha pins s σ H _ I h) fun u s1 ⟨x,H1,I1,r1,q1⟩=>wpAny_bind (wpAny_standAt (wpAny_pure ?_))))
  refine thn (hr pos pins s1 σ H1 _ I1 q1) fun us s2 hpz1=>?_
  obtain⟨xs,H2,I2,r2,q2⟩:=hpz1
  exact⟨x::xs,H2,I2,.cons r1 r2,q2⟩
variable {g:List Value→List Value→List Value} {gV:List V→List V→List V}
end
structure FnScope (N P:List Str) (sc:Scope):Prop where
  kind:sc.kind= .function
  co:sc.isCoroutine=false
  gen:sc.isGenerator=false
  nd:N.Nodup
  pre:N.take P.length=P
  par:∀x∈P,sc.names.lookup x=some .local∨sc.names.lookup x=some .cell
  nofree:∀y∈sc.names,y.2≠.free
theorem bindL_out {kindOf:Str→Option NameKind} {x:Str}:∀{binds:List (Str×Value)} {m:Str→Option Value},(∀v,(x,v)∉binds)→bindL kindOf binds m x=m x
  |[],_,_=>rfl
  | (n,v)::r,m,h=>by
    unfold bindL
    rw[bindL_out fun w hw=>h w (List.mem_cons_of_mem _ hw)]
    split
    · have:x≠n:=by rintro rfl;exact h v List.mem_cons_self
      simp[this]
    · rfl
theorem bindC_out {kindOf:Str→Option NameKind} {x:Str}:∀{binds:List (Str×Value)} {m:Str→Option Value},(∀v,(x,v)∉binds)→bindC kindOf binds m x=m x
  |[],_,_=>rfl
  | (n,v)::r,m,h=>by
    unfold bindC
    rw[bindC_out fun w hw=>h w (List.mem_cons_of_mem _ hw)]
    split
    · rfl
    · have:x≠n:=by rintro rfl;exact h v List.mem_cons_self
      simp[this]
theorem bindL_get {kindOf:Str→Option NameKind} {x:Str} {v:Value}:∀{P:List Str} {vs:List Value} {i:Nat} {m:Str→Option Value},P.Nodup→P[i]?=some x→vs[i]?=some v→kindOf x=some .local→
    bindL kindOf (P.zip vs) m x=some v
  |[],_,_,_,_,h,_,_=>by simp at h
  |_::_,[],_,_,_,_,h,_=>by simp at h
  | p::P,w::vs,0,m,nd,h1,h2,hk=>by
    simp at h1 h2;subst h1;subst h2
    show bindL kindOf ((p,w)::P.zip vs) m p=_
    unfold bindL
    rw[bindL_out fun v hv=>(List.nodup_cons.mp nd).1 (List.of_mem_zip hv).1,if_pos hk]
    simp
  | p::P,w::vs,i+1,m,nd,h1,h2,hk=>by
    show bindL kindOf ((p,w)::P.zip vs) m x=_
    unfold bindL
    exact bindL_get (i:=i) (List.nodup_cons.mp nd).2 (by simpa using h1) (by simpa using h2) hk
theorem bindC_get {kindOf:Str→Option NameKind} {x:Str} {v:Value}:∀{P:List Str} {vs:List Value} {i:Nat} {m:Str→Option Value},P.Nodup→P[i]?=some x→vs[i]?=some v→kindOf x≠some .local→
    bindC kindOf (P.zip vs) m x=some v
  |[],_,_,_,_,h,_,_=>by simp at h
  |_::_,[],_,_,_,_,h,_=>by simp at h
  | p::P,w::vs,0,m,nd,h1,h2,hk=>by
    simp at h1 h2;subst h1;subst h2
    show bindC kindOf ((p,w)::P.zip vs) m p=_
    unfold bindC
    rw[bindC_out fun v hv=>(List.nodup_cons.mp nd).1 (List.of_mem_zip hv).1,if_neg hk]
    simp
  | p::P,w::vs,i+1,m,nd,h1,h2,hk=>by
    show bindC kindOf ((p,w)::P.zip vs) m x=_
    unfold bindC
    exact bindC_get (i:=i) (List.nodup_cons.mp nd).2 (by simpa using h1) (by simpa using h2) hk
noncomputable def start (N:List Str) (vs:List V):St:=vs.map some++List.replicate (N.length - vs.length) none
noncomputable def cxOf (CX:CXT) (P:Program) (w:World) (K:PySem.W.Frag) (mg:Str→Option Value) (base:Heap) (N:List Str) (qual:Str) (scope:Scope) (f:Addr) (cd:Value) (A:Around) (outer:List Env) (s:Shared) (H:Hp) (E:XK):Cx where
  prog:=P
  w:=w
  K:=K
  mg:=mg
  base:=base
  A:=A.deeper (envOfC qual scope s.heap.objs.size f cd)
  N:=N
  s₀:=s
  H₀:=H
  env:=envOfC qual scope s.heap.objs.size f cd
  outer:=outer
  stack:=envOfC qual scope s.heap.objs.size f cd::outer
  ex:=[]
  calm:=true
  fn:=fun _=>true
  pn:=[]
  xe:=fun e s'=>wpAny (model P w) (A.deeper (envOfC qual scope s.heap.objs.size f cd)) (leaving (envOfC qual scope s.heap.objs.size f cd) e) (fun _ s''=>CX outer H s E e s'') (fun e' s''=>CX outer H s E e' s'') s'
theorem cell_has {sc:Scope} {n:Nat} {x:Str} (h:sc.names.lookup x=some .cell):∃c,(cellsFrom n sc.names []).lookup x=some c:=by
  have q:=PySem.W.cellsFrom_some sc.names n [] (.inl h)
  exact Option.isSome_iff_exists.mp q
theorem inv_start {CX:CXT} {P:Program} {w:World} {K:PySem.W.Frag} {mg:Str→Option Value} {base:Heap} {N ps:List Str} {qual:Str} {scope:Scope} {f:Addr} {cd:Value} {A:Around} {outer:List Env} {s s1:Shared} {H:Hp} {E:XK} {us:List Value} {vs:List V}
    (S:FnScope N ps scope) (hd:A.handled=none) (e0:Env0 P w K mg base A outer s H) (hl:vs.length=ps.length) (r:Vals vs us)
    (x:InCallC s s.heap.objs.size (bindL (envOfC qual scope s.heap.objs.size f cd).kindOf (ps.zip us) fun _=>none) (cellsFrom (s.heap.objs.size+1) scope.names []) (bindC (envOfC qual scope s.heap.objs.size f cd).kindOf (ps.zip us) fun _=>none) s1):
    Inv (cxOf CX P w K mg base N qual scope f cd A outer s H E) [] (start N vs) H s1:=by
  have hpl:ps.length≤N.length:=by have:=congrArg List.length S.pre;rw[List.length_take] at this;omega
  obtain⟨h1,tk,rfl,hk⟩:=x.done
  have noA:∀b:Addr,b∉(cxOf CX P w K mg base N qual scope f cd A outer s H E).ex:=fun b z=>absurd (show b∈([]:List Addr) from z) (by simp)
  refine⟨⟨e0.mod,S.kind,rfl,rfl,Nat.le_refl _,fun y z c h1 h2=>?_,fun y hy=>?_,fun y c _ h=>?_,fun _=>hd,Around.frames_deeper e0.frames,.inr ⟨rfl,rfl⟩,fun b z=>absurd z (noA b),e0.bs,e0.bsz,fun b _ _=>noA b,fun b z=>absurd z (noA b),e0.funs,e0.frf⟩,
    rfl,e0.bare,Un.kept hk,⟨_,x.toInCall.ns,fun i y v h1 h2 h3=>?_⟩,fun y c h=>⟨_,x.cell y c h⟩,e0.hok.fresh (Nat.le_refl _),fun y c h=>?_,fun p hp=>absurd (show p∈([]:List (Addr×Obj)) from hp) (by simp),e0.hok.kept hk,?_⟩
  · exact name_of_addr x.apart (PySem.mem_of_lookup h1) (PySem.mem_of_lookup h2)
  · have hy:scope.names.lookup y=some .cell∨scope.names.lookup y=some .free:=hy
    rcases hy with hy |hy
    · exact cell_has hy
    · exact absurd rfl (S.nofree _ (PySem.mem_of_lookup hy))
  · exact Nat.le_of_lt (x.above y c (PySem.mem_of_lookup h))
  · have hi:i < vs.length:=by
      unfold start at h2
      by_cases hi:i < vs.length
      · exact hi
      · rw[List.getElem?_append_right (by simpa using hi)] at h2
        rw[List.getElem?_replicate] at h2
        split at h2 <;> cases h2
    have ha:vs[i]?=some v:=by
      unfold start at h2
      rw[List.getElem?_append_left (by simpa using hi),List.getElem?_map] at h2
      cases e:vs[i]? with
      |none=>rw[e] at h2;cases h2
      |some a=>rw[e] at h2;cases h2;rfl
    obtain⟨u,hu,rv⟩:=r.get ha
    have hp:ps[i]?=some y:=by
      rw[←S.pre,List.getElem?_take_of_lt (by omega)];exact h1
    have ndP:ps.Nodup:=by rw[←S.pre];exact S.nd.sublist (List.take_sublist _ _)
    refine⟨u,rv,?_⟩
    rcases S.par y (List.mem_of_getElem? hp) with k |k
    · exact .inl ⟨k,bindL_get ndP hp hu k⟩
    · obtain⟨c,e⟩:=cell_has (n:=s.heap.objs.size+1) k
      refine .inr ⟨.inl k,c,e,?_⟩
      have q:=x.cell y c e
      rw[bindC_get ndP hp hu (by show scope.names.lookup y≠_;rw[k];decide)] at q
      exact q
  · exact e0.hok.fresh (Nat.le_of_lt (x.above y c (PySem.mem_of_lookup h)))
  · unfold start
    show _=N.length
    rw[List.length_append,List.length_map,List.length_replicate]
    omega
theorem fn_of {CX:CXT} {P:Program} {w:World} {K:PySem.W.Frag} {mg:Str→Option Value} {base:Heap} {k:Nat} {f:Addr} {name qual:Str} {params:Arguments} {body:List Stmt} {scope:Scope} {dV kV doc pm cdv ct oc:Value} {an od:Option Addr}
    {osl:Array (Option Value)} {N ps:List Str} {sp:Sp} (lk:K.lookup f=some ⟨oc,od,.func (PySem.W.fnOf name qual params body scope dV kV doc pm an cdv ct),osl⟩) (hcd:PySem.W.codeIn K cdv qual=true) (S:FnScope N ps scope)
    (len:∀vs H Q E,sp vs H Q E→vs.length=ps.length)
    (hbody:∀(A:Around) (outer:List Env) (s:Shared) (H:Hp) (vs:List V) (Q:VK) (E:XK),Room k (A.deeper (envOfC qual scope s.heap.objs.size f cdv))→sp vs H Q E→
      ∃t,PSs (cxOf CX P w K mg base N qual scope f cdv A outer s H E) body t∧t {nx:=fun _ H'=>Q .non H',rt:=Q} (start N vs) H):
    FnOk P w K mg base CX (k+1) f (PySem.W.fnOf name qual params body scope dV kV doc pm an cdv ct) ps sp:=by
  refine⟨len,fun A outer s H args us vs Q E hr e0 hb r hsp=>?_⟩
  have hl:=len _ _ _ _ hsp
  have KX:K.In s.heap:=e0.mod.kin.keeps fun b o e=>(e0.bs b o e).1
  have lim:s.heap.NoLimit:=e0.mod.nolimit.keeps fun b o e=>(e0.bs b o e).1
  have hkind:∀y∈ps.zip us,scope.names.lookup y.1=some .local∨(scope.names.lookup y.1=some .cell∧((cellsFrom (s.heap.objs.size+1) scope.names []).lookup y.1).isSome=true):=fun ⟨n,v⟩ hy=>by
    rcases S.par n (List.of_mem_zip hy).1 with q |q
    · exact .inl q
    · exact .inr ⟨q,PySem.W.cellsFrom_some _ _ _ (.inl q)⟩
  refine codeAny_call_function hr.depth (KX _ _ lk) rfl S.co S.gen rfl (PySem.W.codeRec_of KX hcd) (hb _ _ _ _ ?_)
  refine wpAny_newFunctionEnv_cells S.kind hkind fun env he s1 x=>?_
  subst he
  refine⟨lim.keeps x.toInCall.keep,codeAny_func ?_⟩
  obtain⟨t,ht,hq⟩:=hbody A outer s H vs Q E (hr.deeper _) hsp
  have I:Inv (cxOf CX P w K mg base N qual scope f cdv A outer s H E) [] (start N vs) H s1:=inv_start S hr.hd e0 hl r x
  refine wpAny_mono (ht [] s1 (start N vs) H _ I hq) (fun fl s' hs=>?_) fun e s' hs=>hs
  have fin:∀{σ':St} {H':Hp} {v:V} {u:Value},Inv (cxOf CX P w K mg base N qual scope f cdv A outer s H E) [] σ' H' s'→RelV v u→Q v H'→CE outer P w H s Q u s':=
    fun {σ' H' v u} J rv q=>⟨v,H',J.os,J.bare,J.base,J.hok,rv,q⟩
  cases fl with
  | ret u=>
    obtain⟨v,σ',H',J,rv,q⟩:=hs
    exact fin J rv q
  | next=>
    obtain⟨σ',H',J,q⟩:=hs
    exact fin (v:=V.non) (u:=Value.none) J rfl q
  | brk=>
    obtain⟨_,_,_,q⟩:=hs
    exact False.elim q
  | cont=>
    obtain⟨_,_,_,q⟩:=hs
    exact False.elim q
end L2
namespace L2
open PySem PySem.Spec PyProof.Rows
section
variable {X:Cx} {x:Str} {p pos:Pos} {e:Expr} {es:List Expr} {t:TA} {id T:String} {r:List V→Hp→VK→Prop}
noncomputable def tCB (r:List V→Hp→VK→Prop) (t:TA):TE:=fun σ H Q=>t σ H fun vs H1=>r vs H1 Q
theorem pe_callB (hc:CallR X (.builtin id) r) (hg:Gl X x) (hm:X.mg x=none) (hv:bootBuiltins x=some (.builtin id)) (ha:PA X (e::es) t) (hn:x≠"__name__" :=by decide) (hdb:(x ==("__debug__" :Str))=false:=by decide)
    (he:starEach (e::es) X.env=(false,eval e X.env)::starEach es X.env:=by rfl) (hpl:(backTo pos (starEach es X.env)).any (·.1)=false:=by rfl):PE X (.Call (.Name x p) (e::es) [] pos) (tCB r t):=by
  intro pins s σ H Q I h
  refine wpAny_Call_Name_kw (ld_blt I hg hm hv ?_ hn hdb)
  exact PyProof.Rows.callWith_builtin1 (thn (ha pos pins s σ H _ I h) fun us s1 ⟨vs,H1,I1,r1,q1⟩=>hc pins s1 σ H1 vs us Q I1 r1 q1) he hpl
theorem pe_callTy (hc:CallR X (.type T) r) (hg:Gl X x) (hm:X.mg x=none) (hv:bootBuiltins x=some (.type T)) (ha:PA X (e::es) t) (hn:x≠"__name__" :=by decide) (hdb:(x ==("__debug__" :Str))=false:=by decide)
    (he:starEach (e::es) X.env=(false,eval e X.env)::starEach es X.env:=by rfl) (hpl:(backTo pos (starEach es X.env)).any (·.1)=false:=by rfl):PE X (.Call (.Name x p) (e::es) [] pos) (tCB r t):=by
  intro pins s σ H Q I h
  refine wpAny_Call_Name_kw (ld_blt I hg hm hv ?_ hn hdb)
  exact PyProof.Rows.callWith_type1 (thn (ha pos pins s σ H _ I h) fun us s1 ⟨vs,H1,I1,r1,q1⟩=>hc pins s1 σ H1 vs us Q I1 r1 q1) he hpl
end
end L2
namespace HT
open PySem PyProof.Rows
section
open PySem.SeqAt
open PySem.AutoSeq1 (wpAny_loadPart')
open PySem.MeetsSeq PySem.MeetsSeq2 PySem.MeetsSeq3
end
section
variable {prog:Program} {w:World} {A:Around} {E:Value→Shared→Prop} {s:Shared}
theorem cat_tup {t b:Addr} {vs ws:List Value} {Q:Value→Shared→Prop} (ht:IsTup s.heap t vs.toArray) (hb:IsTup s.heap b ws.toArray) (hv:vs≠[])
    (h1:ws=[]→Q (.ref t) s) (h2:ws≠[]→Q (.ref s.heap.objs.size) {s with heap:=s.heap.push {cls:= .type "tuple",data:= .seq (vs++ws).toArray}})
    (hsz:vs.length+ws.length≤sizeLine):wpAny (model prog w) A (binaryOp .Add (.ref t) (.ref b)) Q E s:=by
  obtain⟨⟨cls,dd,data,sl⟩,ho,hc,n,hd⟩:=id ht
  obtain⟨⟨cls2,dd2,data2,sl2⟩,ho2,hc2,n2,hd2⟩:=id hb
  simp only at hc hd hc2 hd2
  subst hc hd hc2 hd2
  have e:vs.toArray++ws.toArray=(vs++ws).toArray:=by simp
  by_cases hw:ws=[]
  · exact concat_meets ⟨_,ho,rfl⟩ ⟨_,ho2,rfl⟩ noFill_tuple_add seq_tuple_add PySem.F.slot_tuple_add PySem.F.entry_tuple_add (PySem.F.args_tuple_add_2 _ _)
      (tuple_addW1 t b vs.toArray ws.toArray n n2 dd dd2 sl sl2 (by simpa using hv) (by simp[hw])) ⟨ho,ho2,h1 hw⟩
  · refine concat_meets ⟨_,ho,rfl⟩ ⟨_,ho2,rfl⟩ noFill_tuple_add seq_tuple_add PySem.F.slot_tuple_add PySem.F.entry_tuple_add (PySem.F.args_tuple_add_2 _ _)
      (tuple_addW2 t b vs.toArray ws.toArray n n2 dd dd2 sl sl2 (by simpa using hv) (by simpa using hw) (by rw[List.size_toArray,List.size_toArray];exact hsz)) ⟨ho,ho2,?_⟩
    rw[e]
    exact h2 hw
noncomputable def sIx (n d:Nat):Option Int→Nat
  |none=>d
  |some v=>if v < 0 then (v+(n:Int)).toNat else min v.toNat n
theorem sIx_le (n d:Nat) (hd:d≤n) (o:Option Int):sIx n d o≤n:=by
  cases o with
  |none=>exact hd
  | some v=>
    show (if v < 0 then (v+(n:Int)).toNat else min v.toNat n)≤n
    by_cases hv:v < 0
    · rw[if_pos hv];omega
    · rw[if_neg hv];exact Nat.min_le_right _ _
theorem natMin (a b:Nat):((min a b:Nat):Int)=min (a:Int) (b:Int):=by
  rcases Nat.le_total a b with h |h
  · rw[Nat.min_eq_left h,Int.min_eq_left (Int.ofNat_le.mpr h)]
  · rw[Nat.min_eq_right h,Int.min_eq_right (Int.ofNat_le.mpr h)]
theorem bndN {i:Int} (n:Nat) (h:i < 0):max 0 (min (i+(n:Int)) (n:Int))=(((i+(n:Int)).toNat:Nat):Int):=by
  rw[Int.min_eq_left (by omega),Int.max_comm];exact (Int.ofNat_toNat _).symm
theorem bndP (k n:Nat):max 0 (min (k:Int) (n:Int))=((min (k:Int).toNat n:Nat):Int):=by
  rw[Int.max_eq_right (Int.le_min.mpr ⟨Int.natCast_nonneg _,Int.natCast_nonneg _⟩)];exact (natMin k n).symm
theorem clip_eq (v:Int) (n d:Nat):(if v < 0 then max (v+(n:Int)) 0 else min v (n:Int))=((sIx n d (some v):Nat):Int):=by
  show (if v < 0 then max (v+(n:Int)) 0 else min v (n:Int))=(((if v < 0 then (v+(n:Int)).toNat else min v.toNat n):Nat):Int)
  by_cases hv:v < 0
  · simp only[if_pos hv];exact (Int.ofNat_toNat _).symm
  · simp only[if_neg hv]
    obtain⟨k,rfl⟩:=Int.eq_ofNat_of_zero_le (Int.not_lt.mp hv)
    exact (natMin k n).symm
theorem adjust_gen (lo hi:Option Int) (n:Nat):Builtin.Slice.sliceAdjust lo hi 1 (n:Int)=(((sIx n 0 lo:Nat):Int),((sIx n n hi:Nat):Int)):=by
  have h1:¬((1:Int) < 0):=by omega
  unfold Builtin.Slice.sliceAdjust
  simp only[h1,if_false]
  refine Prod.ext ?_ ?_
  · cases lo with
    |none=>rfl
    |some v=>exact clip_eq v n 0
  · cases hi with
    |none=>rfl
    |some v=>exact clip_eq v n n
theorem places_gen (i j:Nat):Builtin.Slice.slicePlaces (i:Int) (j:Int) 1=j - i:=by
  unfold Builtin.Slice.slicePlaces
  have h1:(1:Int) > 0:=by omega
  simp only[h1,if_true,Int.ediv_one]
  split <;> omega
theorem slicePart_ {v:Value} {o:Option Int} {Q:Option Int→Shared→Prop} (p:IsPart v o) (h:Q o s):wpAny (model prog w) A (Builtin.Slice.slicePartIndex v) Q E s:=by
  cases p with
  |none=>exact slicePart_none h
  |int i t=>exact slicePart_int h
theorem sliceApplied_gen {sl:Addr} {vl vu:Value} {lo hi:Option Int} {n:Nat} {Q:Int×Int×Nat→Shared→Prop} (hs:s.heap.IsSliceOf sl vl vu .none) (pl:IsPart vl lo) (pu:IsPart vu hi)
    (h:Q (((sIx n 0 lo:Nat):Int),1,sIx n n hi - sIx n 0 lo) s):wpAny (model prog w) A (Builtin.Slice.sliceApplied (.ref sl) (pure (n:Int))) Q E s:=by
  obtain⟨os,hos,hcs,hds⟩:=id hs
  unfold Builtin.Slice.sliceApplied Builtin.Slice.sliceFields
  refine wpAny_bind (wpAny_bind (wpAny_field hos hds (x:=vl) rfl (wpAny_bind (wpAny_field hos hds (x:=vu) rfl (wpAny_bind (wpAny_field hos hds (x:= .none) rfl (wpAny_pure ?_)))))))
  refine wpAny_bind (slicePart_none ?_)
  show wpAny _ _ (if ((1:Int) ==0)=true then _ else _) _ _ s
  rw[if_neg (by decide)]
  refine wpAny_bind (slicePart_ pl (wpAny_bind (slicePart_ pu (wpAny_bind (wpAny_pure ?_)))))
  show wpAny _ _ (match Builtin.Slice.sliceAdjust lo hi 1 (n:Int) with |(lo,hi)=>pure (lo,(1:Int),Builtin.Slice.slicePlaces lo hi 1)) _ _ s
  rw[adjust_gen lo hi n]
  show wpAny _ _ (pure (((sIx n 0 lo:Nat):Int),(1:Int),Builtin.Slice.slicePlaces ((sIx n 0 lo:Nat):Int) ((sIx n n hi:Nat):Int) 1)) _ _ s
  rw[places_gen]
  exact wpAny_pure h
theorem pick_gen (xs:Array Value) (i k:Nat):((List.range k).filterMap fun (m:Nat)=>xs[((i:Int)+(m:Int)*1).toNat]?).toArray=((xs.toList.drop i).take k).toArray:=by
  have e:(fun (m:Nat)=>xs[((i:Int)+(m:Int)*1).toNat]?)=fun m=>xs[i+m]?:=by
    funext m
    have:((i:Int)+(m:Int)*1).toNat=i+m:=by omega
    rw[this]
  rw[e]
  have:=pick_run xs i k
  rw[List.filterMap_map] at this
  have e2:((fun x=>xs[x]?) ∘ fun x=>i+x)=fun m=>xs[i+m]?:=rfl
  rw[e2] at this
  rw[this]
theorem getItem_tuple_cut {t sl:Addr} {items:Array Value} {vl vu:Value} {lo hi:Option Int} {Q:Value→Shared→Prop} (ht:IsTup s.heap t items) (hs:s.heap.IsSliceOf sl vl vu .none) (pl:IsPart vl lo) (pu:IsPart vu hi)
    (hw:¬(sIx items.size 0 lo=0∧sIx items.size items.size hi=items.size))
    (h:Q (.ref s.heap.objs.size) {s with heap:=s.heap.push {cls:= .type "tuple",data:= .seq ((items.toList.drop (sIx items.size 0 lo)).take (sIx items.size items.size hi - sIx items.size 0 lo)).toArray}})
    (hsz:items.size≤sizeLine):wpAny (model prog w) A (getItem (.ref t) (.ref sl)) Q E s:=by
  have htake:sizeOk (.seq ((items.toList.drop (sIx items.size 0 lo)).take (sIx items.size items.size hi - sIx items.size 0 lo)).toArray):=by
    show ((items.toList.drop (sIx items.size 0 lo)).take (sIx items.size items.size hi - sIx items.size 0 lo)).toArray.size≤sizeLine
    rw[List.size_toArray,List.length_take,List.length_drop,Array.length_toList]
    omega
  have hj:sIx items.size items.size hi≤items.size:=sIx_le _ _ (Nat.le_refl _) hi
  obtain⟨os,hos,hcs,hds⟩:=id hs
  have hTs:s.TypeIs (.ref sl) "slice" :=⟨os,hos,hcs⟩
  unfold getItem
  try with_reducible refine wpAny_holding ?_
  first |refine wpAny_bind (wpAny_pure ?_) |skip
  refine wpAny_bind (wpAny_sequenceKey ht.typeIs (by decide) ?_)
  refine wpAny_bind (wpAny_callSpecial?_slot (name:=Str.ofString "__getitem__") ht.typeIs PyProof.Rows.slot_tuple_getitem
    (wpAny_call_entry PyProof.Rows.slot_tuple_getitem ht.typeIs entry_tuple_getitem ?_ (args_tuple_getitem _ _)))
  show wpAny _ _ (Builtin.Tuple.tupleItemsOf (.ref t) >>=_) _ _ s
  refine wpAny_bind (tupleItemsOf_ ht ?_)
  refine wpAny_bind (wpAny_typeOf hTs ?_)
  rw[if_pos (by decide)]
  refine wpAny_bind (sliceApplied_gen hs pl pu ?_)
  have hno:¬((((sIx items.size 0 lo:Nat):Int) ==0 && (1:Int) ==1 && (sIx items.size items.size hi - sIx items.size 0 lo) ==items.size)=true):=by
    intro q
    rw[Bool.and_eq_true,Bool.and_eq_true] at q
    have q1:((sIx items.size 0 lo:Nat):Int)=0:=eq_of_beq q.1.1
    have q2:sIx items.size items.size hi - sIx items.size 0 lo=items.size:=eq_of_beq q.2
    exact hw ⟨by omega,by omega⟩
  show wpAny _ _ (if (((sIx items.size 0 lo:Nat):Int) ==0 && (1:Int) ==1 && (sIx items.size items.size hi - sIx items.size 0 lo) ==items.size)=true then _ else _) _ _ s
  rw[if_neg hno,pick_gen]
  first
    |exact wpAny_bind (m:=Builtin.Tuple.tupleExact _) (wpAny_newObj_type (wpAny_pure ⟨_,rfl,wpAny_pure h⟩) htake)
    |exact wpAny_bind (m:=Builtin.Tuple.tupleExact _) (wpAny_newObj_type (wpAny_bind (wpAny_pure (wpAny_pure ⟨_,rfl,wpAny_pure h⟩))) htake)
    |exact wpAny_bind (wpAny_bind (m:=Builtin.Tuple.tupleExact _) (wpAny_newObj_type (wpAny_pure (wpAny_pure ⟨_,rfl,wpAny_pure h⟩)) htake))
    |exact wpAny_bind (wpAny_bind (m:=Builtin.Tuple.tupleExact _) (wpAny_newObj_type (wpAny_pure ⟨_,rfl,wpAny_pure h⟩) htake))
end
end HT
namespace L2
open PySem PySem.Spec PyProof.Rows
noncomputable abbrev TO:=St→Hp→(Option Int→Hp→Prop)→Prop
noncomputable def PO (X:Cx) (e:Option Expr) (t:TO):Prop:=
  ∀ (pins:List (Addr×Obj)) (s:Shared) (σ:St) (H:Hp) (Q:Option Int→Hp→Prop),Inv X pins σ H s→t σ H Q→
    wpAny (model X.prog X.w) X.A (evalPart e X.env) (fun u s'=>∃o H',Inv X pins σ H' s'∧IsPart u o∧Q o H') X.xe s
noncomputable def tNoPart:TO:=fun _ H Q=>Q none H
noncomputable def tPart (t:TE):TO:=fun σ H Q=>t σ H fun x H1=>∃i,x= .int i∧Q (some i) H1
theorem intsAre_of {ns:List Int}:∀{us:List Value},Vals (ns.map V.int) us→IntsAre us ns:=by
  induction ns with
  |nil=>intro us r;rw[List.map_nil] at r;cases r;exact .nil
  | cons n ns ih=>
    intro us r
    rw[List.map_cons] at r
    cases r with
    | cons r1 r2=>
      obtain⟨t,e⟩:=r1
      subst e
      exact .cons n t (ih r2)
section
variable {X:Cx} {e:Expr} {te:TE} {lo hi:Option Expr} {tl th:TO} {pos p2:Pos}
theorem po_none:PO X none tNoPart:=by
  intro pins s σ H Q I h
  rw[evalPart_none]
  exact wpAny_pure ⟨none,H,I,.none,h⟩
theorem po_some (h:PE X e te):PO X (some e) (tPart te):=by
  intro pins s σ H Q I hw
  rw[evalPart_some]
  refine thn (h pins s σ H _ I hw) fun u s1 hpz1=>?_
  obtain⟨x,H1,I1,r1,q1⟩:=hpz1
  obtain⟨i,rfl,q⟩:=q1
  obtain⟨t,rfl⟩:=r1
  exact⟨some i,H1,I1,.int i t,q⟩
noncomputable def SlR (X:Cx) (r:V→Option Int→Option Int→Hp→VK→Prop):Prop:=
  ∀ (pins:List (Addr×Obj)) (s:Shared) (σ:St) (H:Hp) (x:V) (v vl vu:Value) (lo hi:Option Int) (sl:Addr) (Q:VK),Inv X pins σ H s→RelV x v→s.heap.IsSliceOf sl vl vu .none→IsPart vl lo→IsPart vu hi→r x lo hi H Q→
    ∃T id,typeLookup (.type T) "__getitem__" =pure (some (.builtin id))∧s.TypeIs v T∧wpAny (model X.prog X.w) X.A (getItem v (.ref sl)) (EP X pins σ Q) X.xe s
theorem SlR.or {r r':V→Option Int→Option Int→Hp→VK→Prop} (h:SlR X r) (h':SlR X r'):SlR X (fun x lo hi H Q=>r x lo hi H Q∨r' x lo hi H Q):=by
  intro pins s σ H x v vl vu lo hi sl Q I rx hs pl pu q
  rcases q with q |q
  · exact h pins s σ H x v vl vu lo hi sl Q I rx hs pl pu q
  · exact h' pins s σ H x v vl vu lo hi sl Q I rx hs pl pu q
noncomputable def tSl (r:V→Option Int→Option Int→Hp→VK→Prop) (te:TE) (tl th:TO):TE:=fun σ H Q=>te σ H fun x H1=>tl σ H1 fun l H2=>th σ H2 fun u H3=>r x l u H3 Q
theorem pe_slice {r:V→Option Int→Option Int→Hp→VK→Prop} (hr:SlR X r) (he:PE X e te) (hl:PO X lo tl) (hu:PO X hi th):PE X (.Subscript e (.Slice lo hi none p2) pos) (tSl r te tl th):=by
  intro pins s σ H Q I h
  refine Subscript_ (thn (he pins s σ H _ I h) fun v s1 hpz1=>?_)
  obtain⟨x,H1,I1,r1,q1⟩:=hpz1
  refine wpAny_Slice (thn (hl pins s1 σ H1 _ I1 q1) fun vl s2 ⟨l,H2,I2,pl,q2⟩=>thn (hu pins s2 σ H2 _ I2 q2) fun vu s3 hpz1=>?_)
  obtain⟨u,H3,I3,pu,q3⟩:=hpz1
  rw[evalPart_none]
  refine wpAny_pure ?_
  have I4:Inv X pins σ H3 {s3 with heap:=s3.heap.push {cls:= .type "slice",data:= .fields #[vl,vu,.none]}}:=I3.kept (t':=s3.toks) fun b ob q=>Heap.get?_push_of_some _ q
  obtain⟨T,id,hT,ht,hg⟩:=hr pins {s3 with heap:=s3.heap.push {cls:= .type "slice",data:= .fields #[vl,vu,.none]}} σ H3 x v vl vu l u s3.heap.objs.size Q I4 r1 (Heap.IsSliceOf.new ..) pl pu q3
  show wpAny (model X.prog X.w) X.A (subscriptTail e (.Slice lo hi none p2) v (.ref s3.heap.objs.size)) (EP X pins σ Q) X.xe {s3 with heap:=s3.heap.push {cls:= .type "slice",data:= .fields #[vl,vu,.none]}}
  exact tail_any (ops:=[.ref s3.heap.objs.size,v]) ht hT hg (by with_unfolding_all rfl)
noncomputable def cutV (xs:List V) (lo hi:Option Int):List V:=(xs.drop (HT.sIx xs.length 0 lo)).take (HT.sIx xs.length xs.length hi - HT.sIx xs.length 0 lo)
theorem cutV_length (xs:List V) (lo hi:Option Int):(cutV xs lo hi).length≤xs.length:=by
  unfold cutV
  rw[List.length_take,List.length_drop]
  omega
noncomputable def rSlT (K:PySem.W.Frag):V→Option Int→Option Int→Hp→VK→Prop:=fun x lo hi H Q=>∃a xs,x= .ref a∧SqT K H a xs∧
  ¬(HT.sIx xs.length 0 lo=0∧HT.sIx xs.length xs.length hi=xs.length)∧∀p,H p=none→Q (.ref p) (upd H p (.tup (cutV xs lo hi)))
theorem sl_tup:SlR X (rSlT X.K):=by
  intro pins s σ H x v vl vu lo hi sl Q I rx hs pl pu h
  obtain⟨a,xs,rfl,hx,hw,q⟩:=h
  cases rx
  obtain⟨its,r,ht,hz⟩:=I.tuple hx
  have hlen:its.toArray.size=xs.length:=by rw[List.size_toArray];exact r.length.symm
  refine⟨"tuple",_,PyProof.Rows.slot_tuple_getitem.lookup,ht.typeIs,?_⟩
  refine HT.getItem_tuple_cut ht hs pl pu (by rw[hlen];exact hw) ?_ (by rw[hlen];exact hz)
  rw[hlen]
  refine⟨.ref s.heap.objs.size,_,I.laid (t':=s.toks) (o:= .tup (cutV xs lo hi)) (fun b ob q=>Heap.get?_push_of_some _ q) (Nat.le_refl _) ?_,rfl,q _ (I.hok.fresh (Nat.le_refl _))⟩
  exact⟨Nat.le_trans (cutV_length xs lo hi) hz,_,(r.drop (HT.sIx xs.length 0 lo)).take (HT.sIx xs.length xs.length hi - HT.sIx xs.length 0 lo),IsTup.new _ _⟩
noncomputable def rCatT (K:PySem.W.Frag):R2:=fun x y H Q=>∃a b xs ys,x= .ref a∧y= .ref b∧SqT K H a xs∧SqT K H b ys∧xs≠[]∧xs.length+ys.length≤sizeLine∧
  (ys=[]→Q (.ref a) H)∧(ys≠[]→∀p,H p=none→Q (.ref p) (upd H p (.tup (xs++ys))))
theorem Vals.nil_iff {xs:List V} {us:List Value} (r:Vals xs us):us=[]↔xs=[]:=by
  cases r with
  |nil=>simp
  |cons _ _=>simp
theorem op_catT:OpR X (binaryOp .Add) (rCatT X.K):=by
  intro pins s σ H x y v u Q I rx ry h
  obtain⟨a,b,xs,ys,rfl,rfl,ha,hb,hx,hz,q1,q2⟩:=h
  cases rx
  cases ry
  obtain⟨its,r1,p1,_⟩:=I.tuple ha
  obtain⟨its2,r2,p2,_⟩:=I.tuple hb
  refine HT.cat_tup p1 p2 (fun z=>hx (r1.nil_iff.mp z)) (fun z=>⟨.ref a,H,I,rfl,q1 (r2.nil_iff.mp z)⟩) (fun z=>?_) (by rw[←r1.length,←r2.length];exact hz)
  refine⟨.ref s.heap.objs.size,_,I.laid (t':=s.toks) (o:= .tup (xs++ys)) (fun b ob q=>Heap.get?_push_of_some _ q) (Nat.le_refl _) ?_,rfl,q2 (fun w=>z (r2.nil_iff.mpr w)) _ (I.hok.fresh (Nat.le_refl _))⟩
  exact⟨by rw[List.length_append];exact hz,_,r1.append r2,IsTup.new _ _⟩
end
end L2
namespace L2
open PySem PySem.Spec PyProof.Rows
noncomputable def ixN (n:Nat) (i:Int):Option Nat:=if 0≤i then (if i < n then some i.toNat else none) else if -(n:Int)≤i then some (i+n).toNat else none
noncomputable def atI {α:Type} (xs:List α) (i:Int):Option α:=(ixN xs.length i).bind fun j=>xs[j]?
theorem ixN_seq {n:Nat} {i:Int} {j:Nat} (h:ixN n i=some j):seqIndex? i n=some j∧j < n∧-(n:Int)≤i∧i < n:=by
  unfold ixN at h
  by_cases h0:0≤i
  · rw[if_pos h0] at h
    by_cases h1:i < n
    · rw[if_pos h1] at h
      have e:i.toNat=j:=Option.some.inj h
      exact⟨by rw[seqIndex_of h0 h1,e],by omega,by omega,h1⟩
    · rw[if_neg h1] at h;cases h
  · rw[if_neg h0] at h
    by_cases h1: -(n:Int)≤i
    · rw[if_pos h1] at h
      have e:(i+n).toNat=j:=Option.some.inj h
      exact⟨by rw[seqIndex_neg (by omega) h1,e],by omega,h1,by omega⟩
    · rw[if_neg h1] at h;cases h
theorem atI_get {α:Type} {xs:List α} {i:Int} {v:α} (h:atI xs i=some v):∃j,seqIndex? i xs.length=some j∧xs[j]?=some v∧j < xs.length∧-(xs.length:Int)≤i∧i < xs.length:=by
  unfold atI at h
  cases e:ixN xs.length i with
  |none=>rw[e] at h;cases h
  | some j=>
    rw[e] at h
    obtain⟨h1,h2,h3,h4⟩:=ixN_seq e
    exact⟨j,h1,h,h2,h3,h4⟩
noncomputable def PlainIx (b:Expr):Prop:=∀o i,subscripted b false o i=operate [o,i] (getItem o i)
noncomputable def IxR (X:Cx) (r:R2):Prop:=
  ∀ (value slice:Expr) (pins:List (Addr×Obj)) (s:Shared) (σ:St) (H:Hp) (x y:V) (v u:Value) (Q:VK),Inv X pins σ H s→RelV x v→RelV y u→r x y H Q→
    subscripted slice false v u=operate [v,u] (getItem v u)→wpAny (model X.prog X.w) X.A (subscriptTail value slice v u) (EP X pins σ Q) X.xe s
noncomputable def MtR (X:Cx) (id:String) (r:V→List V→Hp→VK→Prop):Prop:=
  ∀ (pins:List (Addr×Obj)) (s:Shared) (σ:St) (H:Hp) (x:V) (xs:List V) (v:Value) (us:List Value) (Q:VK),Inv X pins σ H s→RelV x v→Vals xs us→r x xs H Q→
    wpAny (model X.prog X.w) X.A (call (.builtin id) (v::us)) (EP X pins σ Q) X.xe s
section
variable {X:Cx} {a b:Expr} {ta tb:TE} {pos:Pos}
theorem IxR.or {r r':R2} (h:IxR X r) (h':IxR X r'):IxR X (fun x y H Q=>r x y H Q∨r' x y H Q):=by
  intro value slice pins s σ H x y v u Q I rx ry q hs
  rcases q with q |q
  · exact h value slice pins s σ H x y v u Q I rx ry q hs
  · exact h' value slice pins s σ H x y v u Q I rx ry q hs
theorem pe_ix {r:R2} (hr:IxR X r) (ha:PE X a ta) (hb:PE X b tb) (hs:PlainIx b):PE X (.Subscript a b pos) (tOp r ta tb):=by
  intro pins s σ H Q I h
  exact Subscript_ (binT ha hb I h fun v u s2 x y H2 I2 rx ry q=>hr a b pins s2 σ H2 x y v u Q I2 rx ry q (hs _ _))
noncomputable def rIxL (K:PySem.W.Frag):R2:=fun x y H Q=>∃p xs i v,x= .ref p∧y= .int i∧SqL K H p xs∧atI xs i=some v∧Q v H
noncomputable def rIxT (K:PySem.W.Frag):R2:=fun x y H Q=>∃p xs i v,x= .ref p∧y= .int i∧SqT K H p xs∧atI xs i=some v∧Q v H
noncomputable def rIxS:R2:=fun x y H Q=>∃z i c,x= .str z∧y= .int i∧z.length≤sizeLine∧atI z.cps.toList i=some c∧Q (.str ⟨#[c]⟩) H
theorem ix_list:IxR X (rIxL X.K):=by
  intro value slice pins s σ H x y v u Q I rx ry h hs
  obtain⟨p,xs,i,z,rfl,rfl,hq,he,q⟩:=h
  cases rx
  obtain⟨t,rfl⟩:=ry
  obtain⟨its,r,pl,hz⟩:=I.list hq
  obtain⟨j,h1,h2,h3,h4,h5⟩:=atI_get he
  obtain⟨w,ew,rw'⟩:=r.get h2
  have hl:=r.length
  have hn:=line63
  have fin:EP X pins σ Q w s:=⟨z,H,I,rw',q⟩
  by_cases h0:0≤i
  · have hj:i.toNat=j:=by
      rw[seqIndex_of h0 h5] at h1
      exact Option.some.inj h1
    exact item_listR pl.isList h0 (by omega) (by rw[hj];simpa using ew) fin hs
  · have hj:(i+(its.toArray.size:Int)).toNat=j:=by
      rw[seqIndex_neg (by omega) h4] at h1
      rw[List.size_toArray,←hl]
      exact Option.some.inj h1
    exact subscriptTail_builtinR (x:=w) pl.isList.typeIs slot_list_getitem.lookup
      (wpAny_getItem_list_neg (Q:=fun r s'=>r=w∧EP X pins σ Q r s') pl.isList (by omega) (by rw[List.size_toArray] <;> omega) (by omega) (by rw[hj];simpa using ew) ⟨rfl,fin⟩) hs
theorem ix_tup:IxR X (rIxT X.K):=by
  intro value slice pins s σ H x y v u Q I rx ry h hs
  obtain⟨p,xs,i,z,rfl,rfl,hq,he,q⟩:=h
  cases rx
  obtain⟨t,rfl⟩:=ry
  obtain⟨its,r,pl,hz⟩:=I.tuple hq
  obtain⟨j,h1,h2,h3,h4,h5⟩:=atI_get he
  obtain⟨w,ew,rw'⟩:=r.get h2
  have hl:=r.length
  have hn:=line63
  have fin:EP X pins σ Q w s:=⟨z,H,I,rw',q⟩
  exact subscriptTail_builtinR (x:=w) pl.typeIs slot_tuple_getitem.lookup
    (getItem_tuple (j:=j) (Q:=fun r s'=>r=w∧EP X pins σ Q r s') pl (by omega) (by omega) (by rw[List.size_toArray,←hl];exact h1) (by simpa using ew) ⟨rfl,fin⟩) hs
theorem ix_str:IxR X rIxS:=by
  intro value slice pins s σ H x y v u Q I rx ry h hs
  obtain⟨z,i,c,rfl,rfl,hz,he,q⟩:=h
  obtain⟨t,rfl⟩:=rx
  obtain⟨t',rfl⟩:=ry
  obtain⟨j,h1,h2,h3,h4,h5⟩:=atI_get he
  have hl:z.cps.toList.length=z.length:=by simp[Str.length]
  rw[hl] at h1 h4 h5
  have hn:=line63
  exact tail_any (typeIs_str s z t) slot_str_getitem.lookup (getItem_str (c:=c) (by
    have e1:decide (i < -(2 ^ 63:Int))=false:=decide_eq_false (by omega)
    have e2:decide (i≥2 ^ 63)=false:=decide_eq_false (by omega)
    rw[e1,e2,Bool.or_false]) (by rw[h1];simpa using h2) ⟨.str ⟨#[c]⟩,H,I.tok _,⟨_,rfl⟩,q⟩) hs
noncomputable def rIx (K:PySem.W.Frag):R2:=fun x y H Q=>rIxL K x y H Q∨rIxT K x y H Q∨rIxS x y H Q
theorem ix_seq:IxR X (rIx X.K):=ix_list.or (ix_tup.or ix_str)
theorem Inv.lst {pins:List (Addr×Obj)} {σ:St} {H:Hp} {s:Shared} {p:Addr} {xs:List V} (I:Inv X pins σ H s) (h:H p=some (.lst xs)):
    ∃(its:List Value) (n:Nat),Vals xs its∧s.heap.get? p=some {cls:= .type "list",data:= .seq its.toArray n}∧xs.length≤sizeLine:=by
  obtain⟨z,its,n,r,e⟩:=I.hok p _ h
  exact⟨its,n,r,e,z⟩
theorem slice_bounds (lo hi:Option Int) (n:Nat):(sliceBounds lo hi none n).1=((HT.sIx n 0 lo:Nat):Int)∧(sliceBounds lo hi none n).2.1=((HT.sIx n n hi:Nat):Int)∧(sliceBounds lo hi none n).2.2=1:=by
  refine⟨?_,?_,rfl⟩
  · cases lo with
    |none=>simp[sliceBounds,HT.sIx]
    | some i=>
      simp only[sliceBounds,HT.sIx,Option.getD_none,show (1:Int) > 0 by decide,if_true]
      by_cases h:i < 0
      · simp only[h,if_true];exact HT.bndN n h
      · simp only[h,if_false]
        obtain⟨k,rfl⟩:=Int.eq_ofNat_of_zero_le (Int.not_lt.mp h)
        exact HT.bndP k n
  · cases hi with
    |none=>simp[sliceBounds,HT.sIx]
    | some i=>
      simp only[sliceBounds,HT.sIx,Option.getD_none,show (1:Int) > 0 by decide,if_true]
      by_cases h:i < 0
      · simp only[h,if_true];exact HT.bndN n h
      · simp only[h,if_false]
        obtain⟨k,rfl⟩:=Int.eq_ofNat_of_zero_le (Int.not_lt.mp h)
        exact HT.bndP k n
theorem slicePick_cut (its:List Value) (lo hi:Option Int):slicePick its.toArray lo hi none=((its.drop (HT.sIx its.length 0 lo)).take (HT.sIx its.length its.length hi - HT.sIx its.length 0 lo)).toArray:=by
  obtain⟨h1,h2,h3⟩:=slice_bounds lo hi its.toArray.size
  unfold slicePick
  rw[h1,h2,h3]
  simp only[sliceRange_one,pick_run,List.size_toArray] <;> rfl
noncomputable def rSlL (K:PySem.W.Frag):V→Option Int→Option Int→Hp→VK→Prop:=fun x lo hi H Q=>∃a xs,x= .ref a∧SqL K H a xs∧∀p,H p=none→Q (.ref p) (upd H p (.lst (cutV xs lo hi)))
theorem sl_list:SlR X (rSlL X.K):=by
  intro pins s σ H x v vl vu lo hi sl Q I rx hs pl pu h
  obtain⟨a,xs,rfl,hx,q⟩:=h
  cases rx
  obtain⟨its,r,ht,hz⟩:=I.list hx
  have hlen:=r.length
  refine⟨"list",_,slot_list_getitem.lookup,ht.isList.typeIs,?_⟩
  refine wpAny_getItem_list_slice ht.isList hs pl pu .none (by simp) ?_ (by rw[List.size_toArray] <;> omega)
  rw[slicePick_cut,←hlen]
  refine⟨.ref s.heap.objs.size,_,I.laid (t':=s.toks) (o:= .lst (cutV xs lo hi)) (fun b ob q=>Heap.get?_push_of_some _ q) (Nat.le_refl _) ?_,rfl,q _ (I.hok.fresh (Nat.le_refl _))⟩
  exact⟨Nat.le_trans (cutV_length xs lo hi) hz,_,0,(r.drop (HT.sIx xs.length 0 lo)).take (HT.sIx xs.length xs.length hi - HT.sIx xs.length 0 lo),Heap.get?_push_size _ rfl⟩
theorem call_len_seq:CallR X (.builtin "len") (fun xs H Q=>∃p ys,xs=[.ref p]∧(SqL X.K H p ys∨SqT X.K H p ys)∧Q (.int ys.length) H):=by
  intro pins s σ H xs us Q I r h
  obtain⟨p,ys,rfl,hq,q⟩:=h
  obtain⟨u,rfl,rx⟩:=vals1 r
  cases rx
  have hn:=line63
  rcases hq with hq |hq
  · obtain⟨its,r',pl,hz⟩:=I.list hq
    have hlen:=r'.length
    exact Calls.call_len_list pl.isList (by simp only[List.size_toArray] <;> omega) ⟨.int ys.length,H,I.tok _,⟨s.toks+1,by rw[List.size_toArray,hlen]⟩,q⟩
  · obtain⟨its,r',pl,hz⟩:=I.tuple hq
    have hlen:=r'.length
    exact len_tuple pl (by simp only[List.size_toArray] <;> omega) ⟨.int ys.length,H,I.tok _,⟨s.toks+1,by rw[List.size_toArray,hlen]⟩,q⟩
theorem call_tuple_of:CallR X (.type "tuple") (fun xs H Q=>∃p ys,xs=[.ref p]∧((SqL X.K H p ys∧∀l,H l=none→Q (.ref l) (upd H l (.tup ys)))∨(SqT X.K H p ys∧Q (.ref p) H))):=by
  intro pins s σ H xs us Q I r h
  obtain⟨p,ys,rfl,h⟩:=h
  obtain⟨u,rfl,rx⟩:=vals1 r
  cases rx
  rcases h with⟨hq,q⟩ |⟨hq,q⟩
  · obtain⟨its,r',pl,hz⟩:=I.list hq
    have hlen:=r'.length
    refine call_tuple_list pl.isList (fun h' kp=>?_) (by simp only[List.size_toArray] <;> omega)
    have I1:Inv X pins σ H {s with heap:=h'}:=I.kept (t':=s.toks) kp
    have I2:Inv X pins σ (upd H h'.objs.size (.tup ys)) {s with heap:=h'.push {cls:= .type "tuple",data:= .seq its.toArray}}:=
      I1.laid (t':=s.toks) (fun b o e=>Heap.get?_push_of_some _ e) (Nat.le_refl _) (show ObjOk X.prog X.w _ _ _ (.tup ys) from ⟨hz,its,r',IsTup.new _ _⟩)
    exact⟨.ref h'.objs.size,_,I2,rfl,q _ (I1.hok.fresh (Nat.le_refl _))⟩
  · obtain⟨its,r',pl,hz⟩:=I.tuple hq
    exact call_tuple_same pl ⟨.ref p,H,I,rfl,q⟩
noncomputable def tyV (K:PySem.W.Frag) (T:String) (x:V) (H:Hp):Prop:=match x with
  | .str _=>T= "str"
  | .int _=>T= "int"
  | .ref p=>(T= "list"∧∃xs,SqL K H p xs)∨(T= "tuple"∧∃o,K.lookup p=some o∧o.cls= .type "tuple"∧o.dict=none)∨
      (T= "dict"∧((∃kvs,H p=some (.dK kvs))∨∃kvs,H p=some (.dT kvs)))∨(T= "set"∧∃S n,H p=some (.set S n))
  |_=>False
theorem tyV_is {pins:List (Addr×Obj)} {σ:St} {H:Hp} {s:Shared} {T:String} {x:V} {v:Value} (I:Inv X pins σ H s) (r:RelV x v) (ty:tyV X.K T x H):
    s.TypeIs v T∧∀a,v= .ref a→∃ob,s.heap.get? a=some ob∧ob.dict=none:=by
  cases x with
  | str z=>
    obtain⟨t,rfl⟩:=r
    cases (show T= "str" from ty)
    exact⟨typeIs_str s z t,fun _ e=>nomatch e⟩
  | int i=>
    obtain⟨t,rfl⟩:=r
    cases (show T= "int" from ty)
    exact⟨typeIs_int s i t,fun _ e=>nomatch e⟩
  | ref p =>
    cases r
    rcases ty with⟨rfl,xs,hq⟩ |⟨rfl,o,hk,hc,hd⟩ |⟨rfl,hk⟩ |⟨rfl,S,n,hk⟩
    · obtain⟨its,_,pl,_⟩:=I.list hq
      refine⟨pl.isList.typeIs,fun a e=>?_⟩
      cases e
      obtain⟨o,n,e,c,hd,_⟩:=pl
      exact⟨o,e,hd⟩
    · refine⟨⟨o,I.kIn p o hk,hc⟩,fun a e=>?_⟩
      cases e
      exact⟨o,I.kIn _ o hk,hd⟩
    · have z:∃o,s.heap.get? p=some o∧o.ExactDict:=by
        rcases hk with⟨kvs,hk⟩ |⟨kvs,hk⟩
        · obtain⟨_,_,_,_,o,_,_,e,ex,_⟩:=I.hok p _ hk
          exact⟨o,e,ex⟩
        · obtain⟨_,_,_,_,o,_,_,e,ex,_⟩:=I.hok p _ hk
          exact⟨o,e,ex⟩
      obtain⟨o,e,ex⟩:=z
      refine⟨⟨o,e,ex.1⟩,fun a e2=>?_⟩
      cases e2
      exact⟨o,e,ex.2.1⟩
    · obtain⟨o,_,_,_,e,ex,_⟩:=I.hok p _ hk
      refine⟨⟨o,e,ex.1⟩,fun a e2=>?_⟩
      cases e2
      exact⟨o,e,ex.2.1⟩
  |_=>exact False.elim ty
noncomputable def tBM (K:PySem.W.Frag) (T:String) (r:V→List V→Hp→VK→Prop) (to:TE) (t:TA):TE:=fun σ H Q=>to σ H fun x H1=>tyV K T x H1∧t σ H1 fun xs H2=>r x xs H2 Q
variable {o e:Expr} {es:List Expr} {to:TE} {t:TA} {name:Str} {apos cpos:Pos} {T id:String} {r:V→List V→Hp→VK→Prop}
theorem pe_bm (pa:PlainAttrs T) (slot:Slot T name id) (hty:typeOf (.builtin id)=pure (.type "method_descriptor")) (hm:MtR X id r) (ho:PE X o to) (ha:PA X (e::es) t)
    (hbase:attributeBase o name X.env (eval o X.env)=eval o X.env:=by rfl)
    (hfew:((backTo cpos (starEach (e::es) X.env)).all (fun x=> !x.1) && (backToKw cpos (keywordEach [] X.env)).all (fun x=>x.1.isSome)
      && decide ((e::es).length+([]:List Keyword).length+(if ([]:List Keyword).isEmpty then 0 else 1) < 30))=true:=by rfl)
    (hline:(apos.endLine ==cpos.line)=true:=by rfl) (hs:starEach (e::es) X.env=(false,eval e X.env)::starEach es X.env:=by rfl) (hplain:(backTo cpos (starEach es X.env)).any (·.1)=false:=by rfl):
    PE X (.Call (.Attribute o name apos) (e::es) [] cpos) (tBM X.K T r to t):=by
  intro pins s σ H Q I h
  refine wpAny_Call_method_late hbase hfew hline rfl (thn (ho pins s σ H _ I h) fun v s1 hpz1=>?_)
  obtain⟨x,H1,I1,r1,ty,q1⟩:=hpz1
  obtain⟨h1,h2⟩:=tyV_is I1 r1 ty
  refine⟨T,id,pa,slot,hty,h1,h2,?_⟩
  have hA:=ha cpos pins s1 σ H1 _ I1 q1
  rw[hs] at hA ⊢
  refine Calls.callWith_builtin (by show (false || (backTo cpos (starEach es X.env)).any (·.1))=false;rw[hplain] <;> rfl) (Calls.evalArgs_plain ?_)
  refine thn hA fun us s2 hpz1=>?_
  obtain⟨vs,H2,I2,r2,q2⟩:=hpz1
  exact hm pins s2 σ H2 x vs v us Q I2 r1 r2 q2
end
end L2
namespace L2
open PySem PySem.Spec PyProof.Rows
noncomputable def MtM (X:Cx) (id:String) (r:V→List V→Hp→VK→Prop):Prop:=
  ∀ (pins:List (Addr×Obj)) (s:Shared) (σ:St) (H:Hp) (x:V) (xs:List V) (v:Value) (us:List Value) (Q:VK),Inv X pins σ H s→RelV x v→Vals xs us→r x xs H Q→
    wpAny (model X.prog X.w) X.A (call (.builtin id) (v::us)) (EP X pins σ Q) X.xe s
theorem Vals.one:∀{x:V} {us:List Value},Vals [x] us→∃u,us=[u]∧RelV x u
  | _,_,h=>by
    cases h with
    |cons r t=>cases t;exact⟨_,rfl,r⟩
theorem Vals.rep {xs:List V} {us:List Value} (h:Vals xs us):∀k:Nat,Vals (List.replicate k xs).flatten (List.replicate k us).flatten
  |0=> .nil
  | k+1=>by
    rw[List.replicate_succ,List.replicate_succ,List.flatten_cons,List.flatten_cons]
    exact Vals.append h (Vals.rep h k)
theorem foldl_rep (its:List Value):∀(k:Nat) (acc:List Value),
    List.foldl (fun x1 x2=>x1++x2) acc.toArray (List.replicate k its.toArray)=(acc++(List.replicate k its).flatten).toArray
  |0,acc=>by simp
  | k +1,acc=>by
    have e:acc.toArray++its.toArray=(acc++its).toArray:=by simp
    have e2:(acc++its)++(List.replicate k its).flatten=acc++(List.replicate (k+1) its).flatten:=by
      rw[List.replicate_succ,List.flatten_cons,List.append_assoc]
    rw[←e2,←foldl_rep its k (acc++its),←e,List.replicate_succ,List.foldl_cons]
section
variable {X:Cx} {pins:List (Addr×Obj)} {σ:St} {H:Hp} {s:Shared} {l b:Addr} {xs ys zs:List V}
theorem Inv.lset {its its':List Value} {n:Nat} {f:Array Value→Array Value} {t':Nat} (I:Inv X pins σ H s) (hH:H l=some (.lst xs))
    (e:s.heap.get? l=some {cls:= .type "list",data:= .seq its.toArray n}) (hf:f its.toArray=its'.toArray) (hv:Vals ys its') (hz:ys.length≤sizeLine):
    Inv X pins σ (upd H l (.lst ys)) {s with heap:=s.heap.update l (Obj.mapSeq f),toks:=t'}:=by
  have q:=PySem.IsL.update e f
  rw[hf] at q
  refine I.write (x:=l) (e:=l) (by rw[hH];exact trivial) (.inl rfl) (fun b' u hb hu=>(Heap.get?_update_other s.heap (Obj.mapSeq f) (Ne.symm hb)).trans hu) ⟨_,q⟩ ?_
  exact⟨hz,its',_,hv,q⟩
theorem Inv.lnew {its:List Value} {t':Nat} (I:Inv X pins σ H s) (hv:Vals ys its) (hz:ys.length≤sizeLine):
    Inv X pins σ (upd H s.heap.objs.size (.lst ys)) {s with heap:=s.heap.push {cls:= .type "list",data:= .seq its.toArray},toks:=t'}:=
  I.laid (fun _ _ q=>Heap.get?_push_of_some _ q) (Nat.le_refl _) ⟨hz,its,0,hv,Heap.get?_push_size _ rfl⟩
theorem Inv.fresh (I:Inv X pins σ H s):H s.heap.objs.size=none:=I.hok.fresh (Nat.le_refl _)
theorem Inv.lstM (I:Inv X pins σ H s) (hH:H l=some (.lst xs)):xs.length≤sizeLine∧∃(its:List Value) (n:Nat),Vals xs its∧xs.length=its.length∧s.heap.get? l=some {cls:= .type "list",data:= .seq its.toArray n}:=by
  obtain⟨z,its,n,r,e⟩:=I.hok l _ hH
  exact⟨z,its,n,r,r.length,e⟩
end
section
variable {X:Cx}
noncomputable def rAppend:V→List V→Hp→VK→Prop:=fun x vs H Q=>∃l xs y,x= .ref l∧vs=[y]∧H l=some (.lst xs)∧xs.length < sizeLine∧Q .non (upd H l (.lst (xs++[y])))
theorem mt_append:MtM X "list.append" rAppend:=by
  intro pins s σ H x vs v us Q I rx rv h
  obtain⟨l,xs,y,rfl,rfl,hH,hz,q⟩:=h
  cases rx
  obtain⟨u,rfl,ru⟩:=rv.one
  obtain⟨z,its,n,r,hl,e⟩:=I.lstM hH
  refine call_meets F.slot_list_append ⟨_,e,rfl⟩ F.entry_list_append (F.args_list_append_2 _ _) (PySem.list_append l its.toArray n u (by rw[List.size_toArray];omega)) ⟨e,?_⟩
  refine⟨.non,_,I.lset (its':=its++[u]) hH e (by simp) (r.append (.cons ru .nil)) ?_,rfl,q⟩
  rw[List.length_append,List.length_singleton]
  omega
theorem len_rep {α:Type} (xs:List α) (k:Nat):(List.replicate k xs).flatten.length=k*xs.length:=by
  induction k with
  |zero=>simp
  |succ k ih=>rw[List.replicate_succ,List.flatten_cons,List.length_append,ih,Nat.succ_mul,Nat.add_comm]
end
section
variable {prog:Program} {w:World} {A:Around} {E:Value→Shared→Prop} {s:Shared}
end
section
variable {X:Cx}
end
end L2
namespace L2
open PySem PySem.Spec PyProof.Rows
section
variable {κ:Type} [DecidableEq κ]
end
section
variable {P:Program} {w:World} {H:Hp} {h:Heap} {a:Addr}
end
section
variable {X:Cx} {pins:List (Addr×Obj)} {σ:St} {H:Hp} {s:Shared} {a:Addr} {y v:V} {u r:Value} {o:Option V} {A:Around} {E:Value→Shared→Prop}
end
section
variable {X:Cx} {pins:List (Addr×Obj)} {σ:St} {H:Hp} {s:Shared} {a:Addr} {kvs:List (Key×V)} {k:Key} {u:Value} {A:Around} {E:Value→Shared→Prop}
end
section
variable {X:Cx} {o i e value:Expr} {pos pos' tpos:Pos} {td ty tv:TE}
end
section
variable {X:Cx} {pos:Pos}
end
section
variable {X:Cx} {pins:List (Addr×Obj)} {σ:St} {H:Hp} {s:Shared} {a:Addr} {y d:V} {u r:Value} {o:Option V} {A:Around} {E:Value→Shared→Prop}
end
section
variable {X:Cx} {o e f:Expr} {apos cpos:Pos} {td ty tx:TE}
end
section
variable {X:Cx} {pins:List (Addr×Obj)} {σ:St} {H:Hp} {s:Shared} {a:Addr} {kvs:List (Key×V)} {A:Around} {E:Value→Shared→Prop}
end
section
variable {X:Cx} {pins:List (Addr×Obj)} {σ:St} {H:Hp} {s:Shared} {a:Addr} {y:V} {u:Value} {A:Around} {E:Value→Shared→Prop}
end
end L2
namespace Att
open PySem PySem.W PySem.Calls PyProof.Rows
theorem ints_of_wellAll {P:Params} {h:Heap}:∀(ns:List Int) (vs:List Value),WellAll P h vs (ns.map WData.int)→IntsAre vs ns:=by
  intro ns
  induction ns with
  | nil=>
    intro vs w
    rw[List.map_nil] at w
    cases w
    exact .nil
  | cons n ns ih=>
    intro vs w
    rw[List.map_cons] at w
    cases w with
    | cons a b=>
      cases a
      exact .cons _ _ (ih _ b)
theorem script_of {l:OpenLaw} {n:Nat} (hn:l.most=some n) {P:Params} {h:Heap} {args:List WData} {vals:List Value}
    (hpre:l.row.toRowW.claim.pre args=true) (hwl:WellAll P h vals args):
    ∃a vs ns,vals=[Value.ref a]∧args=[WData.list (ns.map WData.int)]∧h.get? a=some {cls:= .type "list",data:= .seq vs.toArray}∧IntsAre vs ns∧ns.length≤n:=by
  have hsh:WShape.hasAll [] args [.list .int]=true:=(pre_splitW hpre).1
  have hc:l.pre.holds [] {args:=args}=true:=(pre_splitW hpre).2
  obtain⟨d,r,rfl,h1,h2⟩:=hasAllW_cons hsh
  obtain rfl:=hasAllW_nil h2
  obtain⟨xs,rfl,h3⟩:=hasW_list h1
  obtain⟨ns,rfl⟩:=items_int h3
  have hlen:ns.length≤n:=by
    unfold OpenLaw.pre at hc
    have h4:(WTm.not (.lt (.lit (.int (n:Int))) (.len (.arg 0)))).holds [] {args:=[.list (ns.map .int)]}=true:=by
      have h4:=(holds_andW hc).1
      rw[hn] at h4
      exact h4
    have h5:=condW_of h4 (w_not (w_lt w_lit (w_len_list (w_arg rfl))))
    rw[List.length_map] at h5
    refine Nat.le_of_not_lt fun q=>?_
    have q':(n:Int) < ((ns.length:Nat):Int):=by omega
    first
      |(rw[decide_eq_true q'] at h5;exact absurd h5 (by decide))
      |(simp at h5;omega)
  cases hwl with
  | cons w1 w2=>
    cases w2
    cases w1 with
    |list ho hall=>exact⟨_,_,ns,rfl,rfl,ho,ints_of_wellAll ns _ hall,hlen⟩
theorem post_true (l:OpenLaw) (args:List WData):l.row.toRowW.claim.post args (.bool true) args=true:=
  postW_of (r:=l.row.toRowW) (X:=(true ==true))
    (show WShape.has [] (.bool true) .bool=true by first |rfl |decide |simp [WShape.has,WShape.arms,WShape.armsAll])
    (show (WTm.eq .res (.lit (.bool true))).value [] {args:=args,res:=some (.bool true),after:=args}=some (.bool (true ==true)) from w_eq_bool (w_res rfl) w_lit) rfl
theorem attach_call {l:OpenLaw} {n:Nat} {q:Program} {loose:List Str} {XP:(Str→Option Value)→Heap→Prop} {YP:World→Heap→Prop} {d:DefRec}
    (hn:l.most=some n) (hdf:d.params.defaults=[])
    (call:∀(w:World) (s₀ s₁:Shared) (mg mb:Str→Option Value) (fa:Addr) (o:Obj) (pm cd doc:Value) (a:Addr) (vs:List Value) (ns:List Int),
      Ground q loose [] XP w s₀ mg mb s₁.heap→YP w s₁.heap→
      s₁.heap.get? fa=some o→o.data= .func (docDef d.name d.params d.body d.scope pm cd doc)→s₁.heap.CodeRec cd d.name→mg d.name=some (.ref fa)→
      s₁.heap.get? a=some {cls:= .type "list",data:= .seq vs.toArray}→IntsAre vs ns→ns.length≤n→s₁.gens= #[]→
      codeAny (model l.prog w) callerA (.call (.ref fa) ⟨[.ref a],[]⟩) (fun r s'=>r= .ok (.ret (.bool true))∧OldK s₁.heap s'.heap∧s'.os=s₁.os∧AllBare s'.gens) s₁):
    WalkO q loose XP YP l.row.toRowW d [] (fun f vs=>PySem.call f vs):=by
  intro w s₀ s₁ mg mb G Y fa o pm cd doc dV kV ho hd hcd hD hmg hg args vals as hpre hlay hrd hwl hlo
  obtain rfl:dV= .none:=Dflts.none hD hdf
  obtain rfl:kV= .none:=Dflts.noKw hD
  obtain⟨a,vs,ns,rfl,rfl,hobj,hints,hlen⟩:=script_of hn hpre hwl
  refine enter_call (codeAny_mono (call w s₀ s₁ mg mb fa o pm cd doc a vs ns G Y ho (fd_plain hd) hcd hmg hobj hints hlen hg) fun r s' hq=>?_)
  obtain⟨rfl,h2,h3,h4⟩:=hq
  exact⟨.inl ⟨.bool true,.bool true,[],rfl,fun _=>rfl,.bool true,post_true l _,fun _=>⟨List.Pairwise.nil,fun _ hm=>(nomatch hm)⟩⟩,h2,h3,h4⟩
section
variable {prog:Program} {w:World} {A:Around} {E:Value→Shared→Prop} {s:Shared} {K:Frag}
end
end Att
namespace L2
open PySem PySem.Spec PyProof.Rows
theorem vals_ints:∀{vs:List Value} {ns:List Int},IntsAre vs ns→Vals (ns.map V.int) vs
  :=by
  intro vs ns h
  induction h with
  |nil=>exact .nil
  |cons n t h ih=>exact .cons ⟨t,rfl⟩ ih
noncomputable def Only (H:Hp):Prop:=∀b,H b=none∨∃o xs,H b=some (.frz o (.lst xs))
theorem law_call {P:Program} {w:World} {K:PySem.W.Frag} {mg mb:Str→Option Value} {CX:CXT} {k:Nat} {fa a:Addr} {fd:FuncData} {x:Str} {sp:Sp} {s₁:Shared} {vs:List Value} {ns:List Int}
    (KX:K.In s₁.heap) (hns:s₁.heap.Ns mainGlobals mg) (hb:s₁.heap.Ns builtinsNs mb) (hbb:∀x:Str,x≠"__name__"→mb x=bootBuiltins x) (hlim:s₁.heap.NoLimit) (hg:s₁.gens= #[])
    (ha:s₁.heap.get? a=some {cls:= .type "list",data:= .seq vs.toArray}) (hi:IntsAre vs ns) (hl:ns.length≤sizeLine) (hr:Room k callerA)
    (F:∀base:Heap,K.In base→base.Ns mainGlobals mg→FnOk P w K mg base CX k fa fd [x] sp) (hbind:∀(s:Shared) (u:Value),BindsTo s fd ⟨[u],[]⟩ [(x,u)])
    (hsp:∀H:Hp,Only H→SqL K H a (ns.map V.int)→sp [.ref a] H (fun v _=>v= .bl true) fun _ _ _=>False)
    (hCX:∀H e s',CX [] H s₁ (fun _ _ _=>False) e s'→False):
    codeAny (model P w) callerA (.call (.ref fa) ⟨[.ref a],[]⟩) (fun r s'=>r= .ok (.ret (.bool true))∧OldK s₁.heap s'.heap∧s'.os=s₁.os∧AllBare s'.gens) s₁:=by
  have rv:=vals_ints hi
  have lenV:=hi.length
  have core :∀H:Hp,Only H→SqL K H a (ns.map V.int)→HOk P w H s₁.heap→(∀b,H b≠none→b=a)→(H a≠none→K.lookup a=none)→
      codeAny (model P w) callerA (.call (.ref fa) ⟨[.ref a],[]⟩) (fun r s'=>r= .ok (.ret (.bool true))∧OldK s₁.heap s'.heap∧s'.os=s₁.os∧AllBare s'.gens) s₁:=by
    intro H hO hS hok hA hK
    have base_of:∀{b:Addr} {o:Obj},s₁.heap.get? b=some o→H b=none→(hidT s₁.heap H).get? b=some o:=fun e n=>hidT_get e n
    have noA:∀{b:Addr} {o:Obj} {es:Array DictEntry} {ep:Nat},s₁.heap.get? b=some o→o.data= .dict es ep→H b=none:=fun {b o es ep} e d=>by
      cases q:H b with
      |none=>rfl
      | some u=>
        have e':b=a:=hA b (by rw[q];simp)
        subst e'
        rw[ha] at e;cases e
        have d':Data.seq vs.toArray _=Data.dict es ep:=d
        cases d'
    have nsK:∀{b:Addr} {m:Str→Option Value},s₁.heap.Ns b m→(hidT s₁.heap H).Ns b m:=fun {b m} ⟨o,es,ep,e,d,r⟩=>⟨o,es,ep,base_of e (noA e d),d,r⟩
    have hKb:K.In (hidT s₁.heap H):=fun b o e=>base_of (KX b o e) (by
      cases q:H b with
      |none=>rfl
      | some u=>
        have e':b=a:=hA b (by rw[q];simp)
        subst e'
        rw[hK (by rw[q];simp)] at e;cases e)
    have hM:Mod K mg (hidT s₁.heap H):=⟨hKb,nsK hns,⟨mb,nsK hb,hbb⟩,let ⟨mc,h1,h2⟩:=hlim;⟨mc,nsK h1,h2⟩⟩
    have e0:Env0 P w K mg (hidT s₁.heap H) callerA [] s₁ H:=⟨rfl,hM,fun b o e=>of_hidT e,Nat.le_of_eq (hidT_size _ _),trivial,fun b hb=>absurd (show b∈([]:List Addr) from hb) (by simp),hok,.of_eq hg⟩
    refine codeAny_mono ((F _ hKb (nsK hns)).run callerA [] s₁ H ⟨[.ref a],[]⟩ [.ref a] [.ref a] _ _ hr e0 (hbind s₁ (.ref a)) (.cons rfl .nil) (hsp H hO hS)) fun r s' h=>?_
    cases r with
    |error e=>exact (hCX H e s' h).elim
    | ok fl =>
      cases fl with
      |next=>exact False.elim h
      |brk=>exact False.elim h
      |cont=>exact False.elim h
      | ret u=>
        obtain⟨v,H',os,bare,un,hok',r',q⟩:=h
        have q':v= .bl true:=q
        subst q'
        obtain rfl:u=Value.bool true:=r'
        refine⟨rfl,OldK.of_keep fun b o e=>?_,os,bare⟩
        cases q:H b with
        |none=>exact un.keep b o e q (by intro z;exact absurd (show b∈([]:List Addr) from z) (by simp)) (by simp)
        | some u=>
          rcases hO b with z |⟨ob,xs,z⟩
          · rw[q] at z;cases z
          · have z2:=un.frzs b ob _ z
            obtain⟨e1,_⟩:=hok b _ z
            obtain⟨e2,_⟩:=hok' b _ z2
            rw[e] at e1;cases e1
            exact e2
  cases hk:K.lookup a with
  | some o=>
    have e:=KX a o hk
    rw[ha] at e
    cases e
    refine core (fun _=>none) (fun _=> .inl rfl) (.inr ⟨_,vs.toArray,_,hk,rfl,rfl,rfl,by rw[List.size_toArray,lenV];exact hl,by simpa using rv⟩) (fun b u z=>by have z':(none:Option HO)=some u:=z;cases z') (fun b z=>absurd rfl z) fun z=>absurd rfl z
  | none=>
    refine core (fun b=>if b=a then some (.frz {cls:= .type "list",data:= .seq vs.toArray} (.lst (ns.map V.int))) else none) (fun b=>?_) (.inl (.inr ⟨{cls:= .type "list",data:= .seq vs.toArray},if_pos rfl⟩)) (fun b u z=>?_) (fun b z=>?_) fun _=>hk
    · by_cases hb:b=a
      · exact .inr ⟨_,_,if_pos hb⟩
      · exact .inl (if_neg hb)
    · by_cases hb:b=a
      · have z':=(if_pos hb).symm.trans z
        cases z'
        subst hb
        exact⟨ha,by rw[List.length_map];exact hl,vs,_,rv,ha⟩
      · have z':=(if_neg hb).symm.trans z
        cases z'
    · by_cases hb:b=a
      · exact hb
      · exact absurd (if_neg hb) z
end L2
namespace L2
open PySem PySem.Spec PyProof.Rows
theorem walk_of {l:PySem.W.OpenLaw} {n k:Nat} {q:Program} {loose:List Str} {XP:(Str→Option Value)→Heap→Prop} {YP:World→Heap→Prop} {d:DefRec} {K:Params→PySem.W.Frag} {CX:World→CXT} {sp:World→Sp} {x:Str}
    (hn:l.most=some n) (hn2:n≤sizeLine) (hdf:d.params.defaults=[]) (hr:Room k callerA)
    (hY:∀(w:World) (h:Heap),YP w h→(K w.params).In h)
    (F:∀(w:World) (mg:Str→Option Value) (fa:Addr) (h:Heap),(K w.params).In h→h.Ns mainGlobals mg→mg d.name=some (.ref fa)→
      ∃ fd:FuncData,(∀(s:Shared) (u:Value),BindsTo s fd ⟨[u],[]⟩ [(x,u)])∧
        ∀base:Heap,(K w.params).In base→base.Ns mainGlobals mg→FnOk l.prog w (K w.params) mg base (CX w) k fa fd [x] (sp w))
    (hsp:∀(w:World) (H:Hp) (a:Addr) (ns:List Int),ns.length≤n→Only H→SqL (K w.params) H a (ns.map V.int)→sp w [.ref a] H (fun v _=>v= .bl true) fun _ _ _=>False)
    (hCX:∀(w:World) (H:Hp) (s:Shared) (e:Value) (s':Shared),CX w [] H s (fun _ _ _=>False) e s'→False):
    PySem.W.WalkO q loose XP YP l.row.toRowW d [] (fun f vs=>PySem.call f vs):=by
  refine Att.attach_call hn hdf fun w s₀ s₁ mg mb fa o pm cd doc a vs ns G Y ho hd hcd hmg hobj hints hlen hg=>?_
  have KX:=hY w _ Y
  obtain⟨fd,hb,hF⟩:=F w mg fa _ KX G.T.g hmg
  exact law_call KX G.T.g G.T.b G.T.builtins G.T.nolimit hg hobj hints (Nat.le_trans hlen hn2) hr hF hb (fun H hO hS=>hsp w H a ns hlen hO hS) fun H e s'=>hCX w H s₁ e s'
end L2
namespace L2
open PySem PySem.Spec PyProof.Rows
noncomputable def defArgs (s:Stmt):Arguments:=match s with
  | .FunctionDef _ a _ _ _ _ _ _ _ _=>a
  |_=>{posonlyargs:=[],args:=[],vararg:=none,kwonlyargs:=[],kw_defaults:=[],kwarg:=none,defaults:=[]}
noncomputable def defBody (s:Stmt):List Stmt:=match s with
  | .FunctionDef _ _ b _ _ _ _ _ _ _=>b
  |_=>[]
noncomputable def defScope (s:Stmt):Scope:=match s with
  | .FunctionDef _ _ _ _ _ _ sc _ _ _=>sc
  |_=>{kind:= .function,names:=[],isGenerator:=false,isCoroutine:=false}
noncomputable abbrev CX0:CXT:=fun _ _ _ _ _ _=>False
noncomputable abbrev E0:XK:=fun _ _ _=>False
theorem pass0 {X:Cx}:Passes CX0 X E0:=fun _ _ _ _ _ _ _ h=>h.elim
inductive FunEx (K:PySem.W.Frag) (x qual:Str) (st:Stmt) (f:Addr) (fd:FuncData):Prop
  |mk (oc:Value) (od:Option Addr) (kV doc pm:Value) (an:Option Addr) (cdv ct:Value) (osl:Array (Option Value)) (e:fd=PySem.W.fnOf x qual (defArgs st) (defBody st) (defScope st) .none kV doc pm an cdv ct) (lk:K.lookup f=some ⟨oc,od,.func fd,osl⟩) (hcd:PySem.W.codeIn K cdv qual=true):FunEx K x qual st f fd
structure Fun (K:PySem.W.Frag) (x qual:Str) (st:Stmt) (f:Addr) (fd:FuncData):Prop where
  ex:FunEx K x qual st f fd
  kp:PySem.W.keepIn K (.ref f)=true
section
variable {P:Program} {w:World} {K:PySem.W.Frag} {mg:Str→Option Value} {base:Heap}
theorem Fun.ok {x qual:Str} {st:Stmt} {f:Addr} {fd:FuncData} {N ps:List Str} {k:Nat} {sp:Sp} (F:Fun K x qual st f fd) (S:FnScope N ps (defScope st)) (len:∀vs H Q E,sp vs H Q E→vs.length=ps.length)
    (hbody:∀(cdv:Value) (A:Around) (outer:List Env) (s:Shared) (H:Hp) (vs:List V) (Q:VK) (E:XK),Room k (A.deeper (envOfC qual (defScope st) s.heap.objs.size f cdv))→sp vs H Q E→
      ∃t,PSs (cxOf CX0 P w K mg base N qual (defScope st) f cdv A outer s H E).nox (defBody st) t∧t {nx:=fun _ H'=>Q .non H',rt:=Q} (start N vs) H):FnOk P w K mg base CX0 (k+1) f fd ps sp:=by
  obtain⟨oc,od,kV,doc,pm,an,cdv,ct,osl,rfl,lk,hcd⟩:=F.ex
  refine fn_of lk hcd S len fun A outer s H vs Q E hr hsp=>?_
  obtain⟨t,h,q⟩:=hbody cdv A outer s H vs Q E hr hsp
  exact⟨t,h.nox,q⟩
theorem Fun.binds {x qual:Str} {st:Stmt} {f:Addr} {fd:FuncData} {ps:List Str} (F:Fun K x qual st f fd)
    (h:∀(kV doc pm:Value) (an:Option Addr) (cdv ct:Value) (us:List Value),us.length=ps.length→bindArgs (PySem.W.fnOf x qual (defArgs st) (defBody st) (defScope st) .none kV doc pm an cdv ct) ⟨us,[]⟩=pure (ps.zip us)):Binds K fd ps []:=by
  obtain⟨oc,od,kV,doc,pm,an,cdv,ct,osl,rfl,lk,hcd⟩:=F.ex
  exact .all (h kV doc pm an cdv ct)
theorem fun_mk {x qual:Str} {st:Stmt} {f:Addr} {oc:Value} {od an:Option Addr} {osl:Array (Option Value)} {kV doc pm cdv ct:Value} (l:K.lookup f=some ⟨oc,od,.func (PySem.W.fnOf x qual (defArgs st) (defBody st) (defScope st) .none kV doc pm an cdv ct),osl⟩)
    (c:PySem.W.codeIn K cdv qual=true) (k:PySem.W.keepIn K (.ref f)=true):Fun K x qual st f (PySem.W.fnOf x qual (defArgs st) (defBody st) (defScope st) .none kV doc pm an cdv ct):=⟨⟨oc,od,kV,doc,pm,an,cdv,ct,osl,rfl,l,c⟩,k⟩
end
section
variable {X:Cx}
end
noncomputable def Same (H H':Hp):Prop:=∀b o,H b=some o→H' b=some o
theorem Same.refl (H:Hp):Same H H:=fun _ _ h=>h
theorem Same.trans {H H1 H2:Hp} (a:Same H H1) (b:Same H1 H2):Same H H2:=fun c o h=>b c o (a c o h)
theorem Same.free {H H':Hp} (e:Same H H') {l:Addr} (h:H' l=Option.none):H l=Option.none:=by
  cases q:H l with
  |none=>rfl
  | some o=>
    rw[e l o q] at h
    cases h
section
variable {κ:Type} [DecidableEq κ]
end
end L2
namespace Pu
open PySem PySem.Spec L2
open PyProof.Rows hiding St
inductive D where
  |non |bl (b:Bool) |int (i:Int) |str (x:Str) |tup (xs:List D) |lst (xs:List D)
inductive R (α:Type) where
  |bad |ok (a:α) |err (c:Str)
namespace R
noncomputable def bind {α β:Type} (r:R α) (k:α→R β):R β:=match r with
  | .ok a=>k a
  | .err c=> .err c
  | .bad=> .bad
@[simp] theorem bind_ok {α β:Type} (a:α) (k:α→R β):(R.ok a).bind k=k a:=rfl
end R
mutual
noncomputable def Rep (K:PySem.W.Frag) (O:Addr→Prop) (H:Hp):D→V→Prop
  | .non,v=>v= .non
  | .bl b,v=>v= .bl b
  | .int i,v=>v= .int i
  | .str x,v=>v= .str x
  | .tup ds,v=>∃a xs,v= .ref a∧SqT K H a xs∧Reps K O H ds xs
  | .lst ds,v=>∃a xs,v= .ref a∧SqL K H a xs∧¬O a∧Reps K O H ds xs
noncomputable def Reps (K:PySem.W.Frag) (O:Addr→Prop) (H:Hp):List D→List V→Prop
  |[],xs=>xs=[]
  |d::ds,xs=>∃x r,xs=x::r∧Rep K O H d x∧Reps K O H ds r
end
structure Ext (O:Addr→Prop) (H H':Hp):Prop where
  tup:∀b xs,Rd H b (.tup xs)→Rd H' b (.tup xs)
  lst:∀b xs,¬O b→Rd H b (.lst xs)→Rd H' b (.lst xs)
section
variable {K:PySem.W.Frag} {O O':Addr→Prop} {H H':Hp}
theorem SqL.ext (e:Ext O H H') {a:Addr} {xs:List V} (n:¬O a) (h:SqL K H a xs):SqL K H' a xs:=by
  rcases h with h |h
  · exact .inl (e.lst _ _ n h)
  · exact .inr h
theorem SqT.ext (e:Ext O H H') {a:Addr} {xs:List V} (h:SqT K H a xs):SqT K H' a xs:=by
  rcases h with h |h
  · exact .inl (e.tup _ _ h)
  · exact .inr h
mutual
theorem Rep.ext (e:Ext O H H') (o:∀b xs,¬O b→SqL K H b xs→¬O' b):∀(d:D) (v:V),Rep K O H d v→Rep K O' H' d v
  | .non,_,h=>by simpa only[Rep] using h
  | .bl _,_,h=>by simpa only[Rep] using h
  | .int _,_,h=>by simpa only[Rep] using h
  | .str _,_,h=>by simpa only[Rep] using h
  | .tup ds,v,h=>by
    simp only[Rep] at h ⊢
    obtain⟨a,xs,e1,h1,h2⟩:=h
    exact⟨a,xs,e1,SqT.ext e h1,Reps.ext e o ds xs h2⟩
  | .lst ds,v,h=>by
    simp only[Rep] at h ⊢
    obtain⟨a,xs,e1,h1,h2,h3⟩:=h
    exact⟨a,xs,e1,SqL.ext e h2 h1,o _ _ h2 h1,Reps.ext e o ds xs h3⟩
theorem Reps.ext (e:Ext O H H') (o:∀b xs,¬O b→SqL K H b xs→¬O' b):∀(ds:List D) (xs:List V),Reps K O H ds xs→Reps K O' H' ds xs
  |[],xs,h=>by simpa only[Reps] using h
  | d::ds,xs,h=>by
    simp only[Reps] at h ⊢
    obtain⟨x,r,e1,h1,h2⟩:=h
    exact⟨x,r,e1,Rep.ext e o d x h1,Reps.ext e o ds r h2⟩
end
end
structure Rch (K:PySem.W.Frag) (O:Addr→Prop) (H:Hp) (O':Addr→Prop) (H':Hp):Prop where
  ext:Ext O H H'
  new:∀a,O' a→O a∨(H a=none∧K.lookup a=none)
  dom:∀a,H' a=none→H a=none
section
variable {K:PySem.W.Frag} {O O1 O2:Addr→Prop} {H H1 H2:Hp}
theorem Rd.some {a:Addr} {u:HO} (h:Rd H a u):H a≠none:=by
  rcases h with h |⟨o,h⟩ <;> rw[h] <;> simp
theorem Rch.out (r:Rch K O H O1 H1) (b:Addr) (xs:List V) (n:¬O b) (h:SqL K H b xs):¬O1 b:=fun z=>by
  rcases r.new b z with z |⟨z1,z2⟩
  · exact n z
  · rcases h with h |⟨o,_,_,h,_⟩
    · exact Rd.some h z1
    · rw[z2] at h;cases h
theorem Rch.refl:Rch K O H O H:=⟨⟨fun _ _ h=>h,fun _ _ _ h=>h⟩,fun _ h=> .inl h,fun _ h=>h⟩
theorem Rch.trans (r:Rch K O H O1 H1) (q:Rch K O1 H1 O2 H2):Rch K O H O2 H2 where
  ext:=⟨fun b xs h=>q.ext.tup b xs (r.ext.tup b xs h),fun b xs n h=>q.ext.lst b xs (r.out b xs n (.inl h)) (r.ext.lst b xs n h)⟩
  new:=fun a z=>(q.new a z).elim (r.new a) fun w=> .inr ⟨r.dom a w.1,w.2⟩
  dom:=fun a z=>r.dom a (q.dom a z)
theorem Same.rd (s:Same H H1) {a:Addr} {u:HO} (h:Rd H a u):Rd H1 a u:=by
  rcases h with h |⟨o,h⟩
  · exact .inl (s _ _ h)
  · exact .inr ⟨o,s _ _ h⟩
theorem Same.rch (s:Same H H1):Rch K O H O H1:=⟨⟨fun _ _ h=>Same.rd s h,fun _ _ _ h=>Same.rd s h⟩,fun _ h=> .inl h,fun _ h=>s.free h⟩
theorem Rep.go (r:Rch K O H O1 H1) {d:D} {v:V} (h:Rep K O H d v):Rep K O1 H1 d v:=Rep.ext r.ext r.out d v h
theorem Reps.go (r:Rch K O H O1 H1) {d:List D} {v:List V} (h:Reps K O H d v):Reps K O1 H1 d v:=Reps.ext r.ext r.out d v h
theorem Rep.same (s:Same H H1) {d:D} {v:V} (h:Rep K O H d v):Rep K O H1 d v:=h.go (Same.rch s)
theorem Reps.same (s:Same H H1) {d:List D} {v:List V} (h:Reps K O H d v):Reps K O H1 d v:=h.go (Same.rch s)
theorem Rep.fewer (w:∀a,O1 a→O a) {d:D} {v:V} (h:Rep K O H d v):Rep K O1 H d v:=Rep.ext ⟨fun _ _ h=>h,fun _ _ _ h=>h⟩ (fun b _ n _ z=>n (w b z)) d v h
theorem Reps.fewer (w:∀a,O1 a→O a) {d:List D} {v:List V} (h:Reps K O H d v):Reps K O1 H d v:=Reps.ext ⟨fun _ _ h=>h,fun _ _ _ h=>h⟩ (fun b _ n _ z=>n (w b z)) d v h
theorem Reps.nil:Reps K O H [] []:=by simp only[Reps]
theorem Reps.cons {d:D} {v:V} {ds:List D} {vs:List V} (h:Rep K O H d v) (t:Reps K O H ds vs):Reps K O H (d::ds) (v::vs):=by simp only[Reps];exact⟨v,vs,rfl,h,t⟩
theorem Reps.cons_inv {d:D} {ds:List D} {vs:List V} (h:Reps K O H (d::ds) vs):∃x r,vs=x::r∧Rep K O H d x∧Reps K O H ds r:=by simpa only[Reps] using h
theorem Reps.nil_inv {vs:List V} (h:Reps K O H [] vs):vs=[]:=by simpa only[Reps] using h
theorem Reps.length:∀{ds:List D} {vs:List V},Reps K O H ds vs→ds.length=vs.length
  |[],vs,h=>by rw[h.nil_inv];rfl
  | d::ds,vs,h=>by
    obtain⟨x,r,rfl,_,t⟩:=h.cons_inv
    simp[Reps.length t]
theorem Reps.get:∀{ds:List D} {vs:List V} {i:Nat} {d:D},Reps K O H ds vs→ds[i]?=some d→∃v,vs[i]?=some v∧Rep K O H d v
  |[],_,_,_,_,e=>by simp at e
  | d::ds,vs,i,d',h,e=>by
    obtain⟨x,r,rfl,h1,t⟩:=h.cons_inv
    cases i with
    |zero=>simp at e;subst e;exact⟨x,rfl,h1⟩
    |succ i=>simpa using Reps.get t (i:=i) (by simpa using e)
theorem Reps.getV {ds:List D} {vs:List V} {i:Nat} {v:V} (h:Reps K O H ds vs) (e:vs[i]?=some v):∃d,ds[i]?=some d∧Rep K O H d v:=by
  have hl:=h.length
  have hi:i < ds.length:=by rw[hl];exact (List.getElem?_eq_some_iff.mp e).1
  obtain⟨v',e',r⟩:=h.get (i:=i) (d:=ds[i]) (by simp[hi])
  rw[e] at e';cases e'
  exact⟨_,by simp[hi],r⟩
theorem Reps.append:∀{ds es:List D} {vs ws:List V},Reps K O H ds vs→Reps K O H es ws→Reps K O H (ds++es) (vs++ws)
  |[],_,vs,_,h,t=>by rw[h.nil_inv];exact t
  | d::ds,es,vs,ws,h,t=>by
    obtain⟨x,r,rfl,h1,h2⟩:=h.cons_inv
    exact .cons h1 (Reps.append h2 t)
theorem Reps.reverse:∀{ds:List D} {vs:List V},Reps K O H ds vs→Reps K O H ds.reverse vs.reverse
  |[],vs,h=>by rw[h.nil_inv];exact .nil
  | d::ds,vs,h=>by
    obtain⟨x,r,rfl,h1,h2⟩:=h.cons_inv
    simp only[List.reverse_cons]
    exact h2.reverse.append (.cons h1 .nil)
theorem Reps.drop:∀{ds:List D} {vs:List V} (n:Nat),Reps K O H ds vs→Reps K O H (ds.drop n) (vs.drop n)
  |_,_,0,h=>h
  |[],vs,n+1,h=>by rw[h.nil_inv];exact .nil
  | d::ds,vs,n+1,h=>by
    obtain⟨x,r,rfl,h1,h2⟩:=h.cons_inv
    exact h2.drop n
theorem Reps.take:∀{ds:List D} {vs:List V} (n:Nat),Reps K O H ds vs→Reps K O H (ds.take n) (vs.take n)
  |_,_,0,_=>by simpa using Reps.nil
  |[],vs,n+1,h=>by rw[h.nil_inv];exact .nil
  | d::ds,vs,n+1,h=>by
    obtain⟨x,r,rfl,h1,h2⟩:=h.cons_inv
    exact .cons h1 (h2.take n)
theorem Rep.int {i:Int} {v:V} (h:Rep K O H (.int i) v):v= .int i:=by simpa only[Rep] using h
theorem Rep.bl {b:Bool} {v:V} (h:Rep K O H (.bl b) v):v= .bl b:=by simpa only[Rep] using h
theorem Rep.non {v:V} (h:Rep K O H .non v):v= .non:=by simpa only[Rep] using h
theorem Rep.str {x:Str} {v:V} (h:Rep K O H (.str x) v):v= .str x:=by simpa only[Rep] using h
theorem Rep.tup {ds:List D} {v:V} (h:Rep K O H (.tup ds) v):∃a xs,v= .ref a∧SqT K H a xs∧Reps K O H ds xs:=by simpa only[Rep] using h
theorem Rep.lst {ds:List D} {v:V} (h:Rep K O H (.lst ds) v):∃a xs,v= .ref a∧SqL K H a xs∧¬O a∧Reps K O H ds xs:=by simpa only[Rep] using h
theorem rep_int (i:Int):Rep K O H (.int i) (.int i):=by simp only[Rep]
theorem rep_bl (b:Bool):Rep K O H (.bl b) (.bl b):=by simp only[Rep]
theorem rep_non:Rep K O H .non .non:=by simp only[Rep]
theorem rep_str (x:Str):Rep K O H (.str x) (.str x):=by simp only[Rep]
theorem rep_tup {ds:List D} {a:Addr} {xs:List V} (h:SqT K H a xs) (r:Reps K O H ds xs):Rep K O H (.tup ds) (.ref a):=by simp only[Rep];exact⟨a,xs,rfl,h,r⟩
theorem rep_lst {ds:List D} {a:Addr} {xs:List V} (h:SqL K H a xs) (n:¬O a) (r:Reps K O H ds xs):Rep K O H (.lst ds) (.ref a):=by simp only[Rep];exact⟨a,xs,rfl,h,n,r⟩
end
inductive Ob where
  |exc (c:Str) |fn (a:Addr)
inductive Ent where
  |val (d:D) |lst (ds:List D) |dic (kvs:List (Key×D)) |obj (t:Ob)
noncomputable def Ent.own:Ent→Bool
  | .val _=>false
  | .obj _=>false
  |_=>true
noncomputable def Ent.isV:Ent→Bool
  | .val _=>true
  |_=>false
theorem isV_own {e:Ent} (h:e.isV=true):e.own=false:=by cases e <;> first |rfl |cases h
noncomputable abbrev Rho:=List (Option Ent)
noncomputable def KReps (K:PySem.W.Frag) (O:Addr→Prop) (H:Hp) (kvs:List (Key×D)) (ys:List (Key×V)):Prop:=kvs.map (·.1)=ys.map (·.1)∧Reps K O H (kvs.map (·.2)) (ys.map (·.2))
noncomputable def RepO (K:PySem.W.Frag) (H:Hp):Ob→V→Prop
  | .exc c,v=>∃a o C,v= .ref a∧H a=some (.frz o (.own a))∧o.cls= .ref C∧o.dict=none∧(∃vs,o.data= .fields vs)∧PySem.W.nsIn K mainGlobals c=some (some (.ref C))
  | .fn a,v=>v= .ref a∧∃o fd,H a=some (.frz o (.own a))∧o.data= .func fd
noncomputable def RepE (K:PySem.W.Frag) (O:Addr→Prop) (H:Hp):Ent→V→Prop
  | .val d,v=>Rep K O H d v
  | .lst ds,v=>∃a xs,v= .ref a∧O a∧H a=some (.lst xs)∧Reps K O H ds xs
  | .dic kvs,v=>∃a ys,v= .ref a∧O a∧H a=some (.dK ys)∧KReps K O H kvs ys
  | .obj t,v=>RepO K H t v
structure Env (K:PySem.W.Frag) (O:Addr→Prop) (H:Hp) (ρ:Rho) (σ:St):Prop where
  get:∀(i:Nat) e,ρ[i]?=some (some e)→∃v,σ[i]?=some (some v)∧RepE K O H e v
  sep:∀(i j:Nat) e e' v,i≠j→ρ[i]?=some (some e)→ρ[j]?=some (some e')→e.own=true→e'.own=true→σ[i]?=some (some v)→σ[j]?=some (some v)→False
structure In (X:Cx) (O:Addr→Prop) (H:Hp) (ρ:Rho) (σ:St):Prop where
  env:Env X.K O H ρ σ
  al:∀a,O a→∃o,H a=some o
  len:σ.length=X.N.length
  lenR:ρ.length=X.N.length
section
variable {X:Cx} {O:Addr→Prop} {H H1:Hp} {ρ:Rho} {σ:St} {K:PySem.W.Frag}
theorem RepO.fz (s:∀b o u,H b=some (.frz o u)→H1 b=some (.frz o u)):∀{t:Ob} {v:V},RepO K H t v→RepO K H1 t v
  | .exc _,_,z=>by
    obtain⟨a,o,C,e,h,q,n⟩:=z
    exact⟨a,o,C,e,s _ _ _ h,q,n⟩
  | .fn _,_,z=>by
    obtain⟨e,o,fd,h,q⟩:=z
    exact⟨e,o,fd,s _ _ _ h,q⟩
theorem RepO.same (s:Same H H1) {t:Ob} {v:V} (h:RepO K H t v):RepO K H1 t v:=h.fz fun _ _ _ q=>s _ _ q
theorem RepE.same (s:Same H H1):∀{e:Ent} {v:V},RepE K O H e v→RepE K O H1 e v
  | .val d,v,h=>Rep.same s h
  | .lst ds,v,z=>by
    obtain⟨a,xs,e,o,h,r⟩:=z
    exact⟨a,xs,e,o,s _ _ h,r.same s⟩
  | .dic kvs,v,z=>by
    obtain⟨a,xs,e,o,h,k,r⟩:=z
    exact⟨a,xs,e,o,s _ _ h,k,r.same s⟩
  | .obj t,v,h=>RepO.same s h
theorem In.same (i:In X O H ρ σ) (s:Same H H1):In X O H1 ρ σ:=
  ⟨⟨fun j e h=>let ⟨v,h1,h2⟩:=i.env.get j e h;⟨v,h1,h2.same s⟩,i.env.sep⟩,fun a h=>let ⟨o,q⟩:=i.al a h;⟨o,s _ _ q⟩,i.len,i.lenR⟩
end
noncomputable def Exc (h:Heap) (e C:Addr) (T:Option Addr):Prop:=∃(oe:Obj) (vs:Array Value),h.get? e=some oe∧oe.cls= .ref C∧oe.dict=none∧oe.data= .fields vs∧match T with
  |none=>vs[1]?=some Value.none
  |some t=>vs[1]?=some (.ref t)∧t≠e∧∃(ot:Obj) (ts:Array Value),h.get? t=some ot∧ot.data= .fields ts∧ts[3]?=some Value.none
structure Rsd (P:Program) (w:World) (fs:List Addr) (H:Hp) (s:Shared) (a C:Addr) (T:Option Addr) (s':Shared) (H':Hp):Prop where
  same:Same H H'
  un:Un fs [] H H' s.heap s'.heap
  hok:HOk P w H' s'.heap
  os:s'.os=s.os
  bare:AllBare s'.gens
  exc:Exc s'.heap a C T
  na:s.heap.get? a=none
  ha:H' a=none
  nt:∀t,T=some t→s.heap.get? t=none∧H' t=none
noncomputable def XOk (X:Cx) (c:Str) (σ:St) (H:Hp):Prop:=∀(H1:Hp) (pins:List (Addr×Obj)) (s:Shared) (a C:Addr) (T:Option Addr) (s':Shared) (H':Hp),Same H H1→Inv X pins σ H1 s→
  PySem.W.nsIn X.K mainGlobals c=some (some (.ref C))→Rsd X.prog X.w (frs X.stack) H1 s a C T s' H'→X.xe (.ref a) s'
theorem XOk.same {X:Cx} {c:Str} {σ:St} {H H1:Hp} (h:XOk X c σ H) (s:Same H H1):XOk X c σ H1:=fun H2 pins s0 a C T s' H' s2=>h H2 pins s0 a C T s' H' (s.trans s2)
noncomputable def good {α β:Type} (X:Cx) (Rl:(Addr→Prop)→Hp→α→β→Prop) (O:Addr→Prop) (r:R α) (σ:St) (H:Hp) (Q:β→Hp→Prop):Prop:=match r with
  | .ok a=>∀b H',Same H H'→Rl O H' a b→Q b H'
  | .err c=>XOk X c σ H
  | .bad=>False
theorem good.same {α β:Type} {X:Cx} {Rl:(Addr→Prop)→Hp→α→β→Prop} {O:Addr→Prop} {r:R α} {σ:St} {H H1:Hp} {Q:β→Hp→Prop} (h:good X Rl O r σ H Q) (s:Same H H1):good X Rl O r σ H1 Q:=by
  cases r with
  |ok a=>exact fun b H' s' q=>h b H' (s.trans s') q
  |err c=>exact XOk.same (show XOk X c σ H from h) s
  |bad=>exact h
inductive TGd {α β:Type} (X:Cx) (Rl:(Addr→Prop)→Hp→α→β→Prop) (f:Rho→R α) (σ:St) (H:Hp) (Q:β→Hp→Prop):Prop
  |mk (ρ:Rho) (O:Addr→Prop) (j:In X O H ρ σ) (g:good X Rl O (f ρ) σ H Q):TGd X Rl f σ H Q
noncomputable def tG {α β:Type} (X:Cx) (Rl:(Addr→Prop)→Hp→α→β→Prop) (f:Rho→R α):St→Hp→(β→Hp→Prop)→Prop:=fun σ H Q=>TGd X Rl f σ H Q
noncomputable abbrev rB:(Addr→Prop)→Hp→Bool→Bool→Prop:=fun _ _ a b=>a=b
noncomputable abbrev rD (X:Cx):(Addr→Prop)→Hp→D→V→Prop:=fun O H d v=>Rep X.K O H d v
noncomputable abbrev rDs (X:Cx):(Addr→Prop)→Hp→List D→List V→Prop:=fun O H d v=>Reps X.K O H d v
noncomputable def DE (X:Cx) (e:Expr) (f:Rho→R D):Prop:=PE X e (tG X (rD X) f)
noncomputable def DT (X:Cx) (e:Expr) (f:Rho→R Bool):Prop:=PT X e (tG X rB f)
noncomputable def DW (X:Cx) (e:Expr) (f:Rho→R Bool):Prop:=PW X e (tG X rB f)
noncomputable def DA (X:Cx) (es:List Expr) (f:Rho→R (List D)):Prop:=PA X es (tG X (rDs X) f)
theorem PE.imp {X:Cx} {e:Expr} {t t':TE} (h:PE X e t) (w:∀σ H Q,t' σ H Q→t σ H Q):PE X e t':=fun pins s σ H Q I q=>h pins s σ H Q I (w σ H Q q)
theorem PT.imp {X:Cx} {e:Expr} {t t':TT} (h:PT X e t) (w:∀σ H Q,t' σ H Q→t σ H Q):PT X e t':=fun pins s σ H Q I q=>h pins s σ H Q I (w σ H Q q)
theorem PW.imp {X:Cx} {e:Expr} {t t':TT} (h:PW X e t) (w:∀σ H Q,t' σ H Q→t σ H Q):PW X e t':=fun wh pins s σ H Q I q=>h wh pins s σ H Q I (w σ H Q q)
theorem PA.imp {X:Cx} {e:List Expr} {t t':TA} (h:PA X e t) (w:∀σ H Q,t' σ H Q→t σ H Q):PA X e t':=fun pos pins s σ H Q I q=>h pos pins s σ H Q I (w σ H Q q)
section
variable {X:Cx} {O:Addr→Prop} {H:Hp} {ρ:Rho} {σ:St}
theorem go {α β γ δ:Type} {Rl:(Addr→Prop)→Hp→α→β→Prop} {Rm:(Addr→Prop)→Hp→γ→δ→Prop} {f:Rho→R α} {g:α→R γ} {Q:δ→Hp→Prop} {Q':β→Hp→Prop}
    (i:In X O H ρ σ) (h:good X Rm O ((f ρ).bind g) σ H Q)
    (k:∀a b H1,f ρ= .ok a→Same H H1→Rl O H1 a b→In X O H1 ρ σ→good X Rm O (g a) σ H1 Q→Q' b H1):tG X Rl f σ H Q':=by
  refine⟨ρ,O,i,?_⟩
  cases e:f ρ with
  |ok a=>rw[e] at h;exact fun b H1 s r=>k a b H1 e s r (i.same s) (good.same h s)
  |err c=>rw[e] at h;exact h
  |bad=>rw[e] at h;exact h
theorem fin {α β:Type} {Rl:(Addr→Prop)→Hp→α→β→Prop} {a:α} {b:β} {Q:β→Hp→Prop} (h:good X Rl O (.ok a) σ H Q) (r:Rl O H a b):Q b H:=h b H (Same.refl H) r
end
end Pu
namespace Pu
open PySem PySem.Spec L2
open PyProof.Rows hiding St
theorem Same.upd {H:Hp} {p:Addr} {o:HO} (h:H p=none):Same H (L2.upd H p o):=fun b u e=>by
  rw[upd_ne (ne_of_none e h)];exact e
theorem Rep.new_tup {X:Cx} {O:Addr→Prop} {H:Hp} {p:Addr} {ds:List D} {xs:List V} (h:H p=none) (r:Reps X.K O H ds xs):Rep X.K O (upd H p (.tup xs)) (.tup ds) (.ref p):=
  rep_tup (SqT.of upd_same) (r.same (Same.upd h))
theorem In.notO {X:Cx} {O:Addr→Prop} {H:Hp} {ρ:Rho} {σ:St} (i:In X O H ρ σ) {p:Addr} (h:H p=none):¬O p:=fun z=>by
  obtain⟨o,e⟩:=i.al p z
  rw[h] at e;cases e
theorem Rep.new_lst {X:Cx} {O:Addr→Prop} {H:Hp} {p:Addr} {ds:List D} {xs:List V} (h:H p=none) (n:¬O p) (r:Reps X.K O H ds xs):Rep X.K O (upd H p (.lst xs)) (.lst ds) (.ref p):=
  rep_lst (SqL.of upd_same) n (r.same (Same.upd h))
section
variable {X:Cx} {a b c:Expr} {f g h:Rho→R D} {pos:Pos}
noncomputable def getV (ρ:Rho) (i:Nat):R D:=match ρ[i]? with
  |some (some (.val d))=> .ok d
  |_=> .bad
theorem dv (i:Nat) {x:Str} {pos:Pos} (hN:X.N[i]?=some x:=by rfl) (hv:Vis X.env.scope x:=by first |exact Or.inl rfl |exact Or.inr (Or.inl rfl) |exact Or.inr (Or.inr rfl)) (hd:(x ==("__debug__" :Str))=false:=by decide) (hcd:(x ==("__classdict__" :Str))=false:=by decide):
    DE X (.Name x pos) (fun ρ=>getV ρ i):=by
  refine PE.imp (pe_var hN hv hd hcd) fun σ H Q h=>?_
  obtain⟨ρ,O,j,h⟩:=h
  have h:good X (rD X) O (getV ρ i) σ H Q:=h
  unfold getV at h
  split at h
  · rename_i d e
    obtain⟨v,e1,r⟩:=j.env.get i _ e
    exact⟨v,e1,fin h r⟩
  · exact h.elim
theorem de_c {e:Expr} {d:D} {v:V} (h:PE X e (tC v)) (r:∀O H,Rep X.K O H d v):DE X e (fun _=> .ok d):=PE.imp h fun σ H Q h=>by
  obtain⟨ρ,O,j,h⟩:=h
  exact fin h (r O H)
theorem de_int {i:Int} {j pos}:DE X (.Constant (.int i) j pos) (fun _=> .ok (.int i)):=de_c pe_int fun _ _=>rep_int i
theorem de_bl {i:Bool} {j pos}:DE X (.Constant (.bool i) j pos) (fun _=> .ok (.bl i)):=de_c pe_bl fun _ _=>rep_bl i
theorem de_non {j pos}:DE X (.Constant .none j pos) (fun _=> .ok .non):=de_c pe_non fun _ _=>rep_non
theorem de_str {x:Str} {j pos}:DE X (.Constant (.str x) j pos) (fun _=> .ok (.str x)):=de_c pe_str fun _ _=>rep_str x
theorem de_gint {x:Str} {i:Int} {t:Tok} {pos:Pos} (hg:Gl X x) (hm:X.mg x=some (.int i t)) (hd:(x ==("__debug__" :Str))=false:=by decide):DE X (.Name x pos) (fun _=> .ok (.int i)):=
  de_c (pe_glob (v:= .int i) hg hm ⟨t,rfl⟩ hd) fun _ _=>rep_int i
noncomputable def OpD (X:Cx) (o:Value→Value→Sem Value) (k:D→D→R D):Prop:=∃r:R2,OpR X o r∧
  ∀(ρ:Rho) (O:Addr→Prop) (σ:St) (H:Hp) (Q:VK) (x y:V) (dx dy:D),In X O H ρ σ→Rep X.K O H dx x→Rep X.K O H dy y→good X (rD X) O (k dx dy) σ H Q→r x y H Q
noncomputable def bin (f g:Rho→R D) (k:D→D→R D):Rho→R D:=fun ρ=>(f ρ).bind fun x=>(g ρ).bind fun y=>k x y
theorem tOp_of {r:R2} {k:D→D→R D} {σ:St} {H:Hp} {Q:VK}
    (hr:∀(ρ:Rho) (O:Addr→Prop) (σ:St) (H:Hp) (Q:VK) (x y:V) (dx dy:D),In X O H ρ σ→Rep X.K O H dx x→Rep X.K O H dy y→good X (rD X) O (k dx dy) σ H Q→r x y H Q)
    (h:tG X (rD X) (bin f g k) σ H Q):tOp r (tG X (rD X) f) (tG X (rD X) g) σ H Q:=by
  obtain⟨ρ,O,j,h⟩:=h
  refine go j h fun dx x H1 e1 s1 r1 j1 h1=>?_
  exact go j1 h1 fun dy y H2 e2 s2 r2 j2 h2=>hr ρ O σ H2 Q x y dx dy j2 (r1.same s2) r2 h2
theorem de_bin {op:Operator} {k:D→D→R D} (ho:OpD X (binaryOp op) k) (ha:DE X a f) (hb:DE X b g):DE X (.BinOp a op b pos) (bin f g k):=by
  obtain⟨r,ho,hr⟩:=ho
  exact PE.imp (pe_op ho ha hb) fun σ H Q h=>tOp_of hr h
theorem de_cmp {op:CmpOp} {k:D→D→R D} (ho:OpD X (compareOp op) k) (ha:DE X a f) (hb:DE X b g) (hm:behindInMarks op b=false:=by exact nomark _):DE X (.Compare a [op] [b] pos) (bin f g k):=by
  obtain⟨r,ho,hr⟩:=ho
  exact PE.imp (pe_cmpR ho ha hb hm) fun σ H Q h=>tOp_of hr h
noncomputable def asB:D→R Bool
  | .bl b=> .ok b
  |_=> .bad
noncomputable def tst (f:Rho→R D):Rho→R Bool:=fun ρ=>(f ρ).bind asB
theorem tTest_of {t:TE} {k:Rho→R D} {σ:St} {H:Hp} {Q:Bool→Hp→Prop} (w:∀Q,tG X (rD X) k σ H Q→t σ H Q) (h:tG X rB (tst k) σ H Q):tTest t σ H Q:=by
  refine w _ ?_
  obtain⟨ρ,O,j,h⟩:=h
  refine go j h fun d x H1 e1 s1 r1 j1 h1=>?_
  cases d with
  |bl b=>exact⟨b,r1.bl,fin h1 rfl⟩
  |_=>exact h1.elim
theorem dt_cmp {op:CmpOp} {k:D→D→R D} (ho:OpD X (compareOp op) k) (ha:DE X a f) (hb:DE X b g) (hm:behindInMarks op b=false:=by exact nomark _):DT X (.Compare a [op] [b] pos) (tst (bin f g k)):=by
  obtain⟨r,ho,hr⟩:=ho
  exact PT.imp (pt_cmpR ho ha hb hm) fun σ H Q h=>tTest_of (fun Q h=>tOp_of hr h) h
theorem dt_val {e:Expr} (h:DE X e f) (he:∀whole,isTrue e X.env whole=(do let v ←whole;standAt e.pos;holding [v] (truthy v)):=by intro _;rfl):DT X e (tst f):=
  PT.imp (pt_val h he) fun σ H Q h=>tTest_of (t:=tG X (rD X) f) (fun Q h=>h) h
noncomputable def iD (k:Int→Int→R D):D→D→R D
  | .int i,.int j=>k i j
  |_,_=> .bad
theorem opD_int {o:Value→Value→Sem Value} {C:Int→Int→Prop} {g:Int→Int→V} {k:Int→Int→R D} (ho:OpR X o (rI C g)) (hk:∀i j,k i j= .bad∨∃d,k i j= .ok d∧C i j∧∀K O H,Rep K O H d (g i j)):OpD X o (iD k):=by
  refine⟨_,ho,fun ρ O σ H Q x y dx dy j0 rx ry h=>?_⟩
  cases dx <;> cases dy <;> first
    |exact h.elim
    |skip
  rename_i i j
  rcases hk i j with e |⟨d,e,c,r⟩
  · have h':good X (rD X) O (k i j) σ H Q:=h
    rw[e] at h';exact h'.elim
  · have h':good X (rD X) O (k i j) σ H Q:=h
    rw[e] at h'
    exact⟨i,j,rx.int,ry.int,c,fin h' (r _ _ _)⟩
theorem opD_int0 {o:Value→Value→Sem Value} {g:Int→Int→V} {k:Int→Int→R D} (ho:OpR X o (rI0 g)) (hk:∀i j,∃d,k i j= .ok d∧∀K O H,Rep K O H d (g i j)):OpD X o (iD k):=by
  refine⟨_,ho,fun ρ O σ H Q x y dx dy j0 rx ry h=>?_⟩
  cases dx <;> cases dy <;> first
    |exact h.elim
    |skip
  rename_i i j
  obtain⟨d,e,r⟩:=hk i j
  have h':good X (rD X) O (k i j) σ H Q:=h
  rw[e] at h'
  exact⟨i,j,rx.int,ry.int,fin h' (r _ _ _)⟩
noncomputable def subI:D→D→R D:=iD fun i j=> .ok (.int (i - j))
noncomputable def mulI:D→D→R D:=iD fun i j=>if (-(2 ^ 64) < i∧i < 2 ^ 64)∨(-(2 ^ 64) < j∧j < 2 ^ 64) then .ok (.int (i*j)) else .bad
noncomputable def divI:D→D→R D:=iD fun i j=>if 0 < j∧j < 2 ^ 64 then .ok (.int (i / j)) else .bad
noncomputable def modI:D→D→R D:=iD fun i j=>if 0 < j then .ok (.int (i % j)) else .bad
noncomputable def powI:D→D→R D:=iD fun i j=>if 0≤j∧j≤1000000∧i.natAbs < 2 ^ 64 then .ok (.int (i ^ j.toNat)) else .bad
noncomputable def ltI:D→D→R D:=iD fun i j=> .ok (.bl (decide (i < j)))
noncomputable def leI:D→D→R D:=iD fun i j=> .ok (.bl (decide (i≤j)))
noncomputable def gtI:D→D→R D:=iD fun i j=> .ok (.bl (decide (j < i)))
noncomputable def geI:D→D→R D:=iD fun i j=> .ok (.bl (decide (j≤i)))
theorem od_sub:OpD X (binaryOp .Sub) subI:=opD_int0 op_sub fun i j=>⟨_,rfl,fun _ _ _=>rep_int _⟩
theorem od_lt:OpD X (compareOp .Lt) ltI:=opD_int0 op_lt fun i j=>⟨_,rfl,fun _ _ _=>rep_bl _⟩
theorem od_le:OpD X (compareOp .LtE) leI:=opD_int0 op_le fun i j=>⟨_,rfl,fun _ _ _=>rep_bl _⟩
theorem od_gt:OpD X (compareOp .Gt) gtI:=opD_int0 op_gt fun i j=>⟨_,rfl,fun _ _ _=>rep_bl _⟩
theorem od_ge:OpD X (compareOp .GtE) geI:=opD_int0 op_ge fun i j=>⟨_,rfl,fun _ _ _=>rep_bl _⟩
theorem ite_bad {c:Prop} [Decidable c] (d:D) {P:D→Prop} (hP:c→P d):(if c then R.ok d else R.bad)=R.bad∨∃d',(if c then R.ok d else R.bad)=R.ok d'∧c∧P d':=by
  by_cases h:c
  · exact .inr ⟨d,by rw[if_pos h],h,hP h⟩
  · exact .inl (by rw[if_neg h])
theorem od_mul:OpD X (binaryOp .Mult) mulI:=opD_int op_mul fun i j=>ite_bad (.int (i*j)) (P:=fun d=>∀K O H,Rep K O H d (.int (i*j))) fun _ _ _ _=>rep_int _
theorem log_small {j:Int} (h0:0 < j) (h:j < 2 ^ 64):j.natAbs.log2 < 9000:=by
  have h1:j.natAbs≠0:=by omega
  have h2:j.natAbs < 2 ^ 64:=by omega
  have h3:j.natAbs.log2 < 64:=(Nat.log2_lt h1).mpr h2
  omega
theorem op_fdivL:OpR X (binaryOp .FloorDiv) (rI (fun _ j=>0 < j∧j < 2 ^ 64) fun i j=> .int (i / j)):=opI fun i j _ _ _ _ _ hc q=>by
  refine floordiv_int (by have:=hc.1;omega) ?_ (.inl (PyProof.noPylong_of_log2 (log_small hc.1 hc.2)))
  rw[Int.fdiv_eq_ediv_of_nonneg _ (by have:=hc.1;omega)]
  exact q
theorem od_div:OpD X (binaryOp .FloorDiv) divI:=opD_int op_fdivL fun i j=>ite_bad (.int (i / j)) (P:=fun d=>∀K O H,Rep K O H d (.int (i / j))) fun _ _ _ _=>rep_int _
theorem od_mod:OpD X (binaryOp .Mod) modI:=opD_int op_mod fun i j=>ite_bad (.int (i % j)) (P:=fun d=>∀K O H,Rep K O H d (.int (i % j))) fun _ _ _ _=>rep_int _
theorem od_pow:OpD X (binaryOp .Pow) powI:=opD_int op_pow fun i j=>ite_bad (.int (i ^ j.toNat)) (P:=fun d=>∀K O H,Rep K O H d (.int (i ^ j.toNat))) fun _ _ _ _=>rep_int _
noncomputable def chn (f g h:Rho→R D) (k l:D→D→R D):Rho→R D:=fun ρ=>(f ρ).bind fun x=>(g ρ).bind fun y=>(k x y).bind fun z=>match z with
  | .bl true=>(h ρ).bind fun w=>l y w
  | .bl false=> .ok (.bl false)
  |_=> .bad
noncomputable def andV (f g:Rho→R D):Rho→R D:=fun ρ=>(f ρ).bind fun x=>match x with
  | .bl true=>g ρ
  | .bl false=> .ok (.bl false)
  |_=> .bad
noncomputable def notV (f:Rho→R D):Rho→R D:=fun ρ=>(f ρ).bind fun x=>match x with
  | .bl b=> .ok (.bl (!b))
  |_=> .bad
variable {rest:List Expr}
theorem de_one {op} (h:DE X a f):DE X (.BoolOp op [a] pos) f:=pe_one h
theorem de_and (ha:DE X a f) (hb:DE X (.BoolOp .And (b::rest) pos) g):DE X (.BoolOp .And (a::b::rest) pos) (andV f g):=by
  refine PE.imp (pe_and ha hb) fun σ H Q h=>?_
  obtain⟨ρ,O,j,h⟩:=h
  refine go j h fun d x H1 e1 s1 r1 j1 h1=>?_
  cases d with
  | bl k=>
    cases k with
    |true=>exact⟨true,r1.bl,by rw[if_pos rfl];exact⟨ρ,O,j1,h1⟩⟩
    |false=>exact⟨false,r1.bl,by rw[if_neg Bool.false_ne_true];exact fin h1 (rep_bl _)⟩
  |_=>exact h1.elim
theorem de_not (ha:DE X a f):DE X (.UnaryOp .Not a pos) (notV f):=by
  refine PE.imp (pe_not ha) fun σ H Q h=>?_
  obtain⟨ρ,O,j,h⟩:=h
  refine go j h fun d x H1 e1 s1 r1 j1 h1=>?_
  cases d with
  |bl k=>exact⟨k,r1.bl,fin h1 (rep_bl _)⟩
  |_=>exact h1.elim
noncomputable def andT (f g:Rho→R Bool):Rho→R Bool:=fun ρ=>(f ρ).bind fun x=>if x=true then g ρ else .ok false
noncomputable def orT (f g:Rho→R Bool):Rho→R Bool:=fun ρ=>(f ρ).bind fun x=>if x=true then .ok true else g ρ
noncomputable def notT (f:Rho→R Bool):Rho→R Bool:=fun ρ=>(f ρ).bind fun x=> .ok (!x)
variable {p q:Rho→R Bool}
theorem dw_and1 (ha:DT X a p):DW X (.BoolOp .And [a] pos) p:=pw_and1 ha
theorem dw_or1 (ha:DT X a p):DW X (.BoolOp .Or [a] pos) p:=pw_or1 ha
theorem dw_and (ha:DT X a p) (hb:DW X (.BoolOp .And (b::rest) pos) q):DW X (.BoolOp .And (a::b::rest) pos) (andT p q):=by
  refine PW.imp (pw_and ha hb) fun σ H Q h=>?_
  obtain⟨ρ,O,j,h⟩:=h
  refine go j h fun d x H1 e1 s1 r1 j1 h1=>?_
  subst r1
  cases d with
  |true=>rw[if_pos rfl] at h1 ⊢;exact⟨ρ,O,j1,h1⟩
  |false=>rw[if_neg Bool.false_ne_true] at h1 ⊢;exact fin h1 rfl
theorem dw_or (ha:DT X a p) (hb:DW X (.BoolOp .Or (b::rest) pos) q):DW X (.BoolOp .Or (a::b::rest) pos) (orT p q):=by
  refine PW.imp (pw_or ha hb) fun σ H Q h=>?_
  obtain⟨ρ,O,j,h⟩:=h
  refine go j h fun d x H1 e1 s1 r1 j1 h1=>?_
  subst r1
  cases d with
  |true=>rw[if_pos rfl] at h1 ⊢;exact fin h1 rfl
  |false=>rw[if_neg Bool.false_ne_true] at h1 ⊢;exact⟨ρ,O,j1,h1⟩
theorem DW.dt {e:Expr} (h:DW X e p):DT X e p:=h _
theorem dt_not (ha:DT X a p):DT X (.UnaryOp .Not a pos) (notT p):=by
  refine PT.imp (pt_not ha) fun σ H Q h=>?_
  obtain⟨ρ,O,j,h⟩:=h
  refine go j h fun d x H1 e1 s1 r1 j1 h1=>?_
  subst r1
  exact fin h1 rfl
noncomputable def ifV (c:Rho→R Bool) (f g:Rho→R D):Rho→R D:=fun ρ=>(c ρ).bind fun x=>if x=true then f ρ else g ρ
theorem de_if (hc:DT X c p) (ha:DE X a f) (hb:DE X b g):DE X (.IfExp c a b pos) (ifV p f g):=by
  refine PE.imp (pe_ifExp hc ha hb) fun σ H Q h=>?_
  obtain⟨ρ,O,j,h⟩:=h
  refine go j h fun d x H1 e1 s1 r1 j1 h1=>?_
  subst r1
  cases d with
  |true=>rw[if_pos rfl] at h1 ⊢;exact⟨ρ,O,j1,h1⟩
  |false=>rw[if_neg Bool.false_ne_true] at h1 ⊢;exact⟨ρ,O,j1,h1⟩
noncomputable def consA (f:Rho→R D) (g:Rho→R (List D)):Rho→R (List D):=fun ρ=>(f ρ).bind fun x=>(g ρ).bind fun xs=> .ok (x::xs)
variable {es:List Expr} {fa:Rho→R (List D)}
theorem dnl:DA X [] (fun _=> .ok []):=PA.imp pa_nil fun σ H Q h=>by
  obtain⟨ρ,O,j,h⟩:=h
  exact fin h .nil
theorem dcs (ha:DE X a f) (hr:DA X es fa) (hs:starEach (a::es) X.env=(false,eval a X.env)::starEach es X.env:=by rfl):DA X (a::es) (consA f fa):=by
  refine PA.imp (pa_cons ha hr hs) fun σ H Q h=>?_
  obtain⟨ρ,O,j,h⟩:=h
  refine go j h fun d x H1 e1 s1 r1 j1 h1=>?_
  exact go j1 h1 fun ds xs H2 e2 s2 r2 j2 h2=>fin h2 (.cons (r1.same s2) r2)
noncomputable def cap (k:List D→D) (ds:List D):R D:=if ds.length≤1000000 then .ok (k ds) else .bad
theorem sizeLine_ge:1000000≤sizeLine:=by rw[sizeLine_eq];decide
noncomputable def tupV (fa:Rho→R (List D)):Rho→R D:=fun ρ=>(fa ρ).bind (cap .tup)
noncomputable def lstV (fa:Rho→R (List D)):Rho→R D:=fun ρ=>(fa ρ).bind (cap .lst)
theorem de_tup {x1} (h:DA X es fa):DE X (.Tuple es x1 pos) (tupV fa):=by
  refine PE.imp (pe_tup h) fun σ H Q h=>?_
  obtain⟨ρ,O,j,h⟩:=h
  refine go j h fun ds xs H1 e1 s1 r1 j1 h1=>?_
  unfold cap at h1
  split at h1
  · rename_i hl
    exact⟨by rw[←r1.length];exact Nat.le_trans hl sizeLine_ge,fun p hp=>h1 _ _ (Same.upd hp) (Rep.new_tup hp r1)⟩
  · exact h1.elim
theorem de_lst (h:DA X es fa):DE X (.List es pos) (lstV fa):=by
  refine PE.imp (pe_lst h) fun σ H Q h=>?_
  obtain⟨ρ,O,j,h⟩:=h
  refine go j h fun ds xs H1 e1 s1 r1 j1 h1=>?_
  unfold cap at h1
  split at h1
  · rename_i hl
    exact⟨by rw[←r1.length];exact Nat.le_trans hl sizeLine_ge,fun p hp=>h1 _ _ (Same.upd hp) (Rep.new_lst hp (j1.notO hp) r1)⟩
  · exact h1.elim
noncomputable def ixD:D→D→R D
  | .tup ds,.int i=>match atI ds i with |some d=> .ok d |none=> .bad
  | .lst ds,.int i=>match atI ds i with |some d=> .ok d |none=> .bad
  |_,_=> .bad
theorem Reps.atI {K:PySem.W.Frag} {O:Addr→Prop} {H:Hp} {ds:List D} {vs:List V} {i:Int} {d:D} (r:Reps K O H ds vs) (e:atI ds i=some d):∃v,atI vs i=some v∧Rep K O H d v:=by
  unfold L2.atI at e ⊢
  rw[r.length] at e
  cases q:ixN vs.length i with
  |none=>rw[q] at e;cases e
  | some k=>
    rw[q] at e
    obtain⟨v,h1,h2⟩:=r.get (i:=k) (d:=d) e
    exact⟨v,h1,h2⟩
theorem de_ix (ha:DE X a f) (hb:DE X b g) (hs:PlainIx b:=by exact fun _ _=>rfl):DE X (.Subscript a b pos) (bin f g ixD):=by
  refine PE.imp (pe_ix ix_seq ha hb hs) fun σ H Q h=>tOp_of (fun ρ O σ H Q x y dx dy j0 rx ry h=>?_) h
  cases dx <;> cases dy <;> first
    |exact h.elim
    |skip
  · rename_i ds i
    obtain⟨p,xs,rfl,hq,r⟩:=rx.tup
    have h':good X (rD X) O (match L2.atI ds i with |some d=>R.ok d |none=>R.bad) σ H Q:=h
    cases e:L2.atI ds i with
    |none=>rw[e] at h';exact h'.elim
    | some d=>
      rw[e] at h'
      obtain⟨v,e1,rv⟩:=r.atI e
      exact .inr (.inl ⟨p,xs,i,v,rfl,ry.int,hq,e1,fin h' rv⟩)
  · rename_i ds i
    obtain⟨p,xs,rfl,hq,_,r⟩:=rx.lst
    have h':good X (rD X) O (match L2.atI ds i with |some d=>R.ok d |none=>R.bad) σ H Q:=h
    cases e:L2.atI ds i with
    |none=>rw[e] at h';exact h'.elim
    | some d=>
      rw[e] at h'
      obtain⟨v,e1,rv⟩:=r.atI e
      exact .inl ⟨p,xs,i,v,rfl,ry.int,hq,e1,fin h' rv⟩
noncomputable def CallD (X:Cx) (u:Value) (k:List D→R D):Prop:=∃r:List V→Hp→VK→Prop,CallR X u r∧
  ∀(ρ:Rho) (O:Addr→Prop) (σ:St) (H:Hp) (Q:VK) (xs:List V) (ds:List D),In X O H ρ σ→Reps X.K O H ds xs→good X (rD X) O (k ds) σ H Q→r xs H Q
noncomputable def callV (k:List D→R D) (fa:Rho→R (List D)):Rho→R D:=fun ρ=>(fa ρ).bind k
variable {x:Str} {pp:Pos} {k:List D→R D} {id T:String}
theorem de_callB (hc:CallD X (.builtin id) k) (hg:Gl X x) (hm:X.mg x=none) (hv:bootBuiltins x=some (.builtin id)) (ha:DA X (a::es) fa) (hn:x≠"__name__" :=by decide) (hdb:(x ==("__debug__" :Str))=false:=by decide)
    (he:starEach (a::es) X.env=(false,eval a X.env)::starEach es X.env:=by rfl) (hpl:(backTo pos (starEach es X.env)).any (·.1)=false:=by rfl):DE X (.Call (.Name x pp) (a::es) [] pos) (callV k fa):=by
  obtain⟨r,hc,hr⟩:=hc
  refine PE.imp (pe_callB hc hg hm hv ha hn hdb he hpl) fun σ H Q h=>?_
  obtain⟨ρ,O,j,h⟩:=h
  exact go j h fun ds xs H1 e1 s1 r1 j1 h1=>hr ρ O σ H1 Q xs ds j1 r1 h1
theorem de_callT (hc:CallD X (.type T) k) (hg:Gl X x) (hm:X.mg x=none) (hv:bootBuiltins x=some (.type T)) (ha:DA X (a::es) fa) (hn:x≠"__name__" :=by decide) (hdb:(x ==("__debug__" :Str))=false:=by decide)
    (he:starEach (a::es) X.env=(false,eval a X.env)::starEach es X.env:=by rfl) (hpl:(backTo pos (starEach es X.env)).any (·.1)=false:=by rfl):DE X (.Call (.Name x pp) (a::es) [] pos) (callV k fa):=by
  obtain⟨r,hc,hr⟩:=hc
  refine PE.imp (pe_callTy hc hg hm hv ha hn hdb he hpl) fun σ H Q h=>?_
  obtain⟨ρ,O,j,h⟩:=h
  exact go j h fun ds xs H1 e1 s1 r1 j1 h1=>hr ρ O σ H1 Q xs ds j1 r1 h1
end
end Pu
namespace Pu
open PySem PySem.Spec L2
open PyProof.Rows hiding St
section
variable {X:Cx} {a b c:Expr} {f g h:Rho→R D} {pos:Pos}
theorem tChain_of {r r':R2} {k l:D→D→R D} {σ:St} {H:Hp} {Q:VK}
    (hr:∀(ρ:Rho) (O:Addr→Prop) (σ:St) (H:Hp) (Q:VK) (x y:V) (dx dy:D),In X O H ρ σ→Rep X.K O H dx x→Rep X.K O H dy y→good X (rD X) O (k dx dy) σ H Q→r x y H Q)
    (hl:∀(ρ:Rho) (O:Addr→Prop) (σ:St) (H:Hp) (Q:VK) (x y:V) (dx dy:D),In X O H ρ σ→Rep X.K O H dx x→Rep X.K O H dy y→good X (rD X) O (l dx dy) σ H Q→r' x y H Q)
    (q:tG X (rD X) (chn f g h k l) σ H Q):tChain r r' (tG X (rD X) f) (tG X (rD X) g) (tG X (rD X) h) σ H Q:=by
  obtain⟨ρ,O,j,q⟩:=q
  refine go j q fun dx x H1 e1 s1 r1 j1 h1=>?_
  refine go j1 h1 fun dy y H2 e2 s2 r2 j2 h2=>?_
  have r1':=r1.same s2
  cases e3:k dx dy with
  |bad=>rw[e3] at h2;exact h2.elim
  |err n=>rw[e3] at h2;exact hr ρ O σ H2 _ x y dx dy j2 r1' r2 (by rw[e3];exact h2)
  | ok z=>
    rw[e3] at h2
    refine hr ρ O σ H2 _ x y dx dy j2 r1' r2 ?_
    rw[e3]
    intro v H3 s3 r3
    have j3:=j2.same s3
    cases z with
    | bl t=>
      refine⟨t,r3.bl,?_⟩
      cases t with
      | true=>
        rw[if_pos rfl]
        exact go j3 (good.same h2 s3) fun dw w H4 e4 s4 r4 j4 h4=>hl ρ O σ H4 Q y w dy dw j4 (r2.same (s3.trans s4)) r4 h4
      | false=>
        rw[if_neg Bool.false_ne_true]
        exact fin (good.same h2 s3) (rep_bl _)
    |_=>exact h2.elim
theorem de_chain {op op':CmpOp} {k l:D→D→R D} (ho:OpD X (compareOp op) k) (ho':OpD X (compareOp op') l) (ha:DE X a f) (hb:DE X b g) (hc:DE X c h)
    (hm:lastMarks [op,op'] [b,c]=false:=by with_unfolding_all rfl):DE X (.Compare a [op,op'] [b,c] pos) (chn f g h k l):=by
  obtain⟨r,ho,hr⟩:=ho
  obtain⟨r',ho',hr'⟩:=ho'
  exact PE.imp (pe_chain ho ho' ha hb hc hm) fun σ H Q q=>tChain_of hr hr' q
theorem dt_chain {op op':CmpOp} {k l:D→D→R D} (ho:OpD X (compareOp op) k) (ho':OpD X (compareOp op') l) (ha:DE X a f) (hb:DE X b g) (hc:DE X c h)
    (hm:lastMarks [op,op'] [b,c]=false:=by with_unfolding_all rfl):DT X (.Compare a [op,op'] [b,c] pos) (tst (chn f g h k l)):=by
  obtain⟨r,ho,hr⟩:=ho
  obtain⟨r',ho',hr'⟩:=ho'
  exact PT.imp (pt_chain ho ho' ha hb hc hm) fun σ H Q q=>tTest_of (fun Q q=>tChain_of hr hr' q) q
end
noncomputable def YAt (K:PySem.W.Frag) (O:Addr→Prop) (J:It) (xs:List D) (H:Hp):Prop:=
  ∀i:Nat,(∀d,xs[i]?=some d→J.go i H∧∀x H',J.yld i H x H'→Same H H'∧Rep K O H' d x)∧(xs.length≤i→J.stop i H)
noncomputable def YR (K:PySem.W.Frag) (O:Addr→Prop) (H:Hp) (J:It) (xs:List D):Prop:=∀O' H',Rch K O H O' H'→YAt K O' J xs H'
noncomputable abbrev rIt (X:Cx):(Addr→Prop)→Hp→List D→It→Prop:=fun O H xs J=>YR X.K O H J xs
noncomputable def DI (X:Cx) (tg iter:Expr) (fi:Rho→R (List D)):Prop:=PI X tg iter (tG X (rIt X) fi)
theorem PI.imp {X:Cx} {tg e:Expr} {t t':TI} (h:PI X tg e t) (w:∀σ H Q,t' σ H Q→t σ H Q):PI X tg e t':=fun pins s σ H Q I q=>h pins s σ H Q I (w σ H Q q)
section
variable {X:Cx} {tg:Expr}
noncomputable def iSeq (K:PySem.W.Frag) (tl:TE):TI:=fun σ H R=>tl σ H fun x H1=>∃a,x= .ref a∧(((∃xs,SqL K H1 a xs)∧R (Itl K a) H1)∨((∃xs,SqT K H1 a xs)∧R (Itt K a) H1))
theorem pi_seq {l:Expr} {tl:TE} (hl:PE X l tl):PI X tg l (iSeq X.K tl):=by
  intro pins s σ H R I h
  refine thn (hl pins s σ H _ I h) fun v s1 hpz1=>?_
  obtain⟨x,H1,I1,r1,q1⟩:=hpz1
  obtain⟨a,e,q⟩:=q1
  subst e
  cases r1
  have fp:∀b∈[s1.heap.objs.size],FpOk X pins H1 b:=fun b hb=>by
    have e:b=s1.heap.objs.size:=by simpa using hb
    subst e
    exact I1.fpOk (Nat.le_refl _) (I1.hok.fresh (Nat.le_refl _))
  rcases q with⟨⟨xs,hq⟩,q⟩ |⟨⟨xs,hq⟩,q⟩
  · obtain⟨its,rv,p,hz⟩:=I1.list hq
    refine wpAny_pyIter_list p.isList ?_
    exact⟨s1.heap.objs.size,[s1.heap.objs.size],_,_,H1,rfl,I1.kept (t':=s1.toks) fun b o e=>Heap.get?_push_of_some _ e,turn_list a _,⟨_,Heap.get?_push_size _ rfl,rfl,rfl⟩,fp,q⟩
  · obtain⟨its,rv,p,hz⟩:=I1.tuple hq
    refine wpAny_pyIter_tuple (show s1.heap.IsTuple a its.toArray from p) ?_
    exact⟨s1.heap.objs.size,[s1.heap.objs.size],_,_,H1,rfl,I1.kept (t':=s1.toks) fun b o e=>Heap.get?_push_of_some _ e,turn_tuple a _,⟨_,Heap.get?_push_size _ rfl,rfl,rfl⟩,fp,q⟩
noncomputable def itemsD:D→R (List D)
  | .tup ds=> .ok ds
  | .lst ds=> .ok ds
  |_=> .bad
theorem YR.lst {K:PySem.W.Frag} {O:Addr→Prop} {H:Hp} {a:Addr} {ds:List D} {xs:List V} (h:SqL K H a xs) (n:¬O a) (r:Reps K O H ds xs):YR K O H (Itl K a) ds:=by
  intro O' H' q
  have h':SqL K H' a xs:=SqL.ext q.ext n h
  have r':=r.go q
  intro i
  refine⟨fun d e=>?_,fun e=>⟨xs,h',by rw[←r.length];exact e⟩⟩
  obtain⟨v,e1,rv⟩:=r'.get e
  refine⟨⟨xs,v,h',e1⟩,fun x H2 y=>?_⟩
  obtain⟨eH,y⟩:=y
  subst eH
  have:=y xs h'
  rw[e1] at this;cases this
  exact⟨Same.refl _,rv⟩
theorem YR.tup {K:PySem.W.Frag} {O:Addr→Prop} {H:Hp} {a:Addr} {ds:List D} {xs:List V} (h:SqT K H a xs) (r:Reps K O H ds xs):YR K O H (Itt K a) ds:=by
  intro O' H' q
  have h':SqT K H' a xs:=SqT.ext q.ext h
  have r':=r.go q
  intro i
  refine⟨fun d e=>?_,fun e=>⟨xs,h',by rw[←r.length];exact e⟩⟩
  obtain⟨v,e1,rv⟩:=r'.get e
  refine⟨⟨xs,v,h',e1⟩,fun x H2 y=>?_⟩
  obtain⟨eH,y⟩:=y
  subst eH
  have:=y xs h'
  rw[e1] at this;cases this
  exact⟨Same.refl _,rv⟩
noncomputable def seqI (f:Rho→R D):Rho→R (List D):=fun ρ=>(f ρ).bind itemsD
theorem di_seq {l:Expr} {f:Rho→R D} (h:DE X l f):DI X tg l (seqI f):=by
  refine PI.imp (pi_seq h) fun σ H Q q=>?_
  obtain⟨ρ,O,j,q⟩:=q
  refine go j q fun d x H1 e1 s1 r1 j1 h1=>?_
  cases d with
  | tup ds=>
    obtain⟨a,xs,rfl,hq,r⟩:=r1.tup
    exact⟨a,rfl,.inr ⟨⟨xs,hq⟩,fin h1 (YR.tup hq r)⟩⟩
  | lst ds=>
    obtain⟨a,xs,rfl,hq,n,r⟩:=r1.lst
    exact⟨a,rfl,.inl ⟨⟨xs,hq⟩,fin h1 (YR.lst hq n r)⟩⟩
  |_=>exact h1.elim
noncomputable def upto (lo:Int) (n:Nat):List D:=(List.range n).map fun (i:Nat)=>D.int (lo+(i:Int))
theorem YR.rng {K:PySem.W.Frag} {O:Addr→Prop} {H:Hp} (lo:Int) (n:Nat):YR K O H (Itr lo n) (upto lo n):=by
  intro O' H' q i
  have hl:(upto lo n).length=n:=by simp[upto]
  refine⟨fun d e=>?_,fun e=>by rw[hl] at e;exact e⟩
  have hi:i < n:=by rw[←hl];exact (List.getElem?_eq_some_iff.mp e).1
  have e2:d=D.int (lo+(i:Int)):=by
    simp only[upto,List.getElem?_map,List.getElem?_range hi] at e
    exact (Option.some.inj e).symm
  subst e2
  refine⟨hi,fun x H2 y=>?_⟩
  obtain⟨eH,y⟩:=y
  subst eH;subst y
  exact⟨Same.refl _,rep_int _⟩
noncomputable def rng1:List D→R (List D)
  |[.int j]=>if -(2 ^ 62)≤j∧j < 2 ^ 62 then .ok (upto 0 j.toNat) else .bad
  |_=> .bad
noncomputable def rng2:List D→R (List D)
  |[.int i,.int j]=>if -(2 ^ 62)≤i∧i < 2 ^ 62∧-(2 ^ 62)≤j∧j < 2 ^ 62 then .ok (upto i (j - i).toNat) else .bad
  |_=> .bad
theorem Reps.one {K:PySem.W.Frag} {O:Addr→Prop} {H:Hp} {d:D} {xs:List V} (r:Reps K O H [d] xs):∃x,xs=[x]∧Rep K O H d x:=by
  obtain⟨x,t,rfl,h1,h2⟩:=r.cons_inv
  rw[h2.nil_inv];exact⟨x,rfl,h1⟩
theorem Reps.two {K:PySem.W.Frag} {O:Addr→Prop} {H:Hp} {d e:D} {xs:List V} (r:Reps K O H [d,e] xs):∃x y,xs=[x,y]∧Rep K O H d x∧Rep K O H e y:=by
  obtain⟨x,t,rfl,h1,h2⟩:=r.cons_inv
  obtain⟨y,rfl,h3⟩:=h2.one
  exact⟨x,y,rfl,h1,h3⟩
variable {a b:Expr} {fa:Rho→R (List D)} {p pos:Pos}
theorem di_range1 (hg:Gl X "range") (hm:X.mg "range" =none) (ha:DA X [a] fa) (hs:starEach [a] X.env=[(false,eval a X.env)]:=by rfl):DI X tg (.Call (.Name "range" p) [a] [] pos) (fun ρ=>(fa ρ).bind rng1):=by
  refine PI.imp (pi_range1 hg hm ha hs) fun σ H Q q=>?_
  obtain⟨ρ,O,j,q⟩:=q
  refine go j q fun ds xs H1 e1 s1 r1 j1 h1=>?_
  unfold rng1 at h1
  split at h1
  · obtain⟨x,rfl,rx⟩:=r1.one
    split at h1
    · rename_i i hi
      exact⟨i,by rw[rx.int],hi.1,hi.2,fin h1 (YR.rng 0 i.toNat)⟩
    · exact h1.elim
  · exact h1.elim
theorem di_range2 (hg:Gl X "range") (hm:X.mg "range" =none) (ha:DA X [a,b] fa) (hs:starEach [a,b] X.env=[(false,eval a X.env),(false,eval b X.env)]:=by rfl) (hs2:starEach [b] X.env=[(false,eval b X.env)]:=by rfl):
    DI X tg (.Call (.Name "range" p) [a,b] [] pos) (fun ρ=>(fa ρ).bind rng2):=by
  refine PI.imp (pi_range2 hg hm ha hs hs2) fun σ H Q q=>?_
  obtain⟨ρ,O,j,q⟩:=q
  refine go j q fun ds xs H1 e1 s1 r1 j1 h1=>?_
  unfold rng2 at h1
  split at h1
  · obtain⟨x,y,rfl,rx,ry⟩:=r1.two
    split at h1
    · rename_i i k hi
      exact⟨i,k,by rw[rx.int,ry.int],hi,fin h1 (YR.rng i (k - i).toNat)⟩
    · exact h1.elim
  · exact h1.elim
end
inductive DGp (X:Cx) (gt:D→Rho→R Rho) (v:V) (σ:St) (H:Hp) (Q:St→Hp→Prop):Prop
  |mk (ρ:Rho) (O:Addr→Prop) (d:D) (ρ':Rho) (j:In X O H ρ σ) (r:Rep X.K O H d v) (e:gt d ρ= .ok ρ') (q:∀σ',In X O H ρ' σ'→Q σ' H):DGp X gt v σ H Q
noncomputable def DG (X:Cx) (tg:Expr) (gt:D→Rho→R Rho):Prop:=PG X tg fun v σ H Q=>DGp X gt v σ H Q
inductive DGps (X:Cx) (gt:List D→Rho→R Rho) (vs:List V) (σ:St) (H:Hp) (Q:St→Hp→Prop):Prop
  |mk (ρ:Rho) (O:Addr→Prop) (ds:List D) (ρ':Rho) (j:In X O H ρ σ) (r:Reps X.K O H ds vs) (e:gt ds ρ= .ok ρ') (q:∀σ',In X O H ρ' σ'→Q σ' H):DGps X gt vs σ H Q
noncomputable def DGs (X:Cx) (ts:List Expr) (gt:List D→Rho→R Rho):Prop:=PGs X ts fun vs σ H Q=>DGps X gt vs σ H Q
section
variable {X:Cx} {pos:Pos}
theorem In.set {O:Addr→Prop} {H:Hp} {ρ:Rho} {σ:St} (j:In X O H ρ σ) {i:Nat} (hi:i < X.N.length) {d:D} {v:V} (r:Rep X.K O H d v):In X O H (ρ.set i (some (.val d))) (σ.set i (some v)):=by
  have h1:i < ρ.length:=by rw[j.lenR];exact hi
  have h2:i < σ.length:=by rw[j.len];exact hi
  refine⟨⟨fun k e q=>?_,fun k l e e' u hkl qk ql ok ol sk sl=>?_⟩,j.al,by rw[List.length_set];exact j.len,by rw[List.length_set];exact j.lenR⟩
  · by_cases hk:k=i
    · subst hk
      rw[List.getElem?_set_self h1] at q
      cases q
      exact⟨v,List.getElem?_set_self h2,r⟩
    · rw[List.getElem?_set_ne (Ne.symm hk)] at q
      obtain⟨u,q1,q2⟩:=j.env.get k e q
      exact⟨u,by rw[List.getElem?_set_ne (Ne.symm hk)];exact q1,q2⟩
  · have hk:k≠i:=fun z=>by subst z;rw[List.getElem?_set_self h1] at qk;cases qk;cases ok
    have hl:l≠i:=fun z=>by subst z;rw[List.getElem?_set_self h1] at ql;cases ql;cases ol
    rw[List.getElem?_set_ne (Ne.symm hk)] at qk sk
    rw[List.getElem?_set_ne (Ne.symm hl)] at ql sl
    exact j.env.sep k l e e' u hkl qk ql ok ol sk sl
noncomputable def setV (i:Nat) (d:D) (ρ:Rho):R Rho:= .ok (ρ.set i (some (.val d)))
theorem dg_name (i:Nat) {x:Str} (hN:X.N.Nodup) (hi:X.N[i]?=some x:=by rfl) (hx:Loc X.env.scope x:=by first |exact Or.inl rfl |exact Or.inr rfl) (hf:X.fn x=true∨X.env.scope.names.lookup x=some .local:=by first |exact .inl rfl |exact .inr rfl):DG X (.Name x pos) (setV i):=by
  intro pins s σ H v u Q I r h
  obtain⟨ρ,O,d,ρ',j,rd,e,q⟩:=h
  cases e
  exact pg_name hN hi hx hf pins s σ H v u Q I r (q _ (j.set (List.getElem?_eq_some_iff.mp hi).1 rd))
noncomputable def nilG:List D→Rho→R Rho
  |[],ρ=> .ok ρ
  |_,_=> .bad
noncomputable def consG (t:D→Rho→R Rho) (u:List D→Rho→R Rho):List D→Rho→R Rho
  |d::ds,ρ=>(t d ρ).bind fun ρ'=>u ds ρ'
  |_,_=> .bad
theorem dgs_nil:DGs X [] nilG:=by
  intro pins s σ H vs us Q I r h
  obtain⟨ρ,O,ds,ρ',j,rd,e,q⟩:=h
  cases ds with
  |nil=>cases e;exact pgs_nil pins s σ H vs us Q I r ⟨rd.nil_inv,q _ j⟩
  |cons d ds=>cases e
theorem dgs_cons {e:Expr} {es:List Expr} {t:D→Rho→R Rho} {u:List D→Rho→R Rho} (h1:DG X e t) (h2:DGs X es u)
    (hs:(assignEach (e::es) X.env).map (·.2)=assign e X.env::(assignEach es X.env).map (·.2):=by rfl):DGs X (e::es) (consG t u):=by
  intro pins s σ H vs us Q I r h
  obtain⟨ρ,O,ds,ρ',j,rd,e,q⟩:=h
  cases ds with
  |nil=>cases e
  | cons d ds=>
    obtain⟨x,xs,rfl,rx,rxs⟩:=rd.cons_inv
    have e':(t d ρ).bind (fun ρ'=>u ds ρ')= .ok ρ':=e
    cases q1:t d ρ with
    |bad=>rw[q1] at e';cases e'
    |err c=>rw[q1] at e';cases e'
    | ok ρ1=>
      rw[q1] at e'
      refine pgs_cons h1 h2 hs pins s σ H _ us Q I r ⟨x,xs,rfl,ρ,O,d,ρ1,j,rx,q1,fun σ1 j1=>?_⟩
      exact⟨ρ1,O,ds,ρ',j1,rxs,e',q⟩
noncomputable def tupG (u:List D→Rho→R Rho):D→Rho→R Rho
  | .tup ds,ρ=>u ds ρ
  |_,_=> .bad
noncomputable def lenG (n:Nat) (u:List D→Rho→R Rho):List D→Rho→R Rho:=fun ds ρ=>if ds.length=n then u ds ρ else .bad
theorem dg_tup {es:List Expr} {k:Nat} {u:List D→Rho→R Rho} {n:Nat} (hc:X.calm=true) (h:DGs X es u)
    (hn:(assignEach es X.env).length=n:=by rfl) (hst:(assignEach es X.env).findIdx? (·.1)=none:=by rfl):DG X (.Tuple es k pos) (tupG (lenG n u)):=by
  intro pins s σ H v w Q I r q
  obtain⟨ρ,O,d,ρ',j,rd,e,q⟩:=q
  cases d with
  | tup ds=>
    obtain⟨a,xs,rfl,hq,rs⟩:=rd.tup
    have e':(if ds.length=n then u ds ρ else .bad)= .ok ρ':=e
    by_cases hl:ds.length=n
    · rw[if_pos hl] at e'
      exact pg_tup hc h hn hst pins s σ H _ w Q I r ⟨a,xs,rfl,hq,by rw[←rs.length];exact hl,ρ,O,ds,ρ',j,rs,e',q⟩
    · rw[if_neg hl] at e';cases e'
  |_=>cases e
end
end Pu
namespace Pu
open PySem PySem.Spec L2
open PyProof.Rows hiding St
noncomputable def ixOf (x:Str):List Str→Nat
  |[]=>0
  |y::r=>if x=y then 0 else ixOf x r+1
theorem ixOf_get {x:Str}:∀{N:List Str},x∈N→N[ixOf x N]?=some x
  |[],h=>by simp at h
  | y ::r,h=>by
    unfold ixOf
    by_cases e:x=y
    · rw[if_pos e,e];rfl
    · rw[if_neg e]
      rcases List.mem_cons.mp h with z |z
      · exact absurd z e
      · simpa using ixOf_get z
noncomputable def pull {α:Type} (N caps:List Str) (n:Nat) (l:List (Option α)):List (Option α):=List.replicate n none++caps.map fun x=>(l[ixOf x N]?).join
theorem pull_len {α:Type} (N caps:List Str) (n:Nat) (l:List (Option α)):(pull N caps n l).length=n+caps.length:=by simp[pull]
theorem join_some {α:Type} {o:Option (Option α)} {a:α} (h:o.join=some a):o=some (some a):=by
  cases o with
  |none=>cases h
  |some o=>exact congrArg some h
theorem pull_get {α:Type} {N caps:List Str} {n:Nat} {l:List (Option α)} {i:Nat} {a:α} (h:(pull N caps n l)[i]?=some (some a)):∃j x,i=n+j∧caps[j]?=some x∧l[ixOf x N]?=some (some a):=by
  unfold pull at h
  by_cases hi:i < n
  · rw[List.getElem?_append_left (by simpa using hi),List.getElem?_replicate,if_pos hi] at h
    cases h
  · rw[List.getElem?_append_right (by simpa using hi),List.length_replicate,List.getElem?_map] at h
    cases e:caps[i - n]? with
    |none=>rw[e] at h;cases h
    | some x=>
      rw[e] at h
      exact⟨i - n,x,by omega,e,join_some (Option.some.inj h)⟩
theorem pull_at {α:Type} {N caps:List Str} {n:Nat} {l:List (Option α)} {j:Nat} {x:Str} (h:caps[j]?=some x):(pull N caps n l)[n+j]?=some (l[ixOf x N]?).join:=by
  unfold pull
  rw[List.getElem?_append_right (by simp),List.length_replicate,List.getElem?_map,show n+j - n=j by omega,h]
  rfl
noncomputable def capt (sc:Scope):List Str:=(sc.names.filter fun x=>decide (x.2= .free)).map (·.1)
noncomputable def blkB (outer sc:Scope) (ts N:List Str):Bool:=
  decide (sc.kind= .function) && sc.names.all (fun x=>(!decide (x.2= .local)) || decide (sc.names.lookup x.1=some .local)) && sc.names.all (fun x=>(!decide (x.2= .cell)) || decide (sc.names.lookup x.1=some .cell)) &&
    (capt sc).all (fun x=>(decide (outer.names.lookup x=some .cell) || decide (outer.names.lookup x=some .free)) && decide (x∈N) && decide (sc.names.lookup x=some .free)) && decide (ts++capt sc).Nodup
structure BlkOk (outer sc:Scope) (ts N:List Str):Prop where
  kind:sc.kind= .function
  loc:∀x∈sc.names,x.2= .local→sc.names.lookup x.1=some .local
  cel:∀x∈sc.names,x.2= .cell→sc.names.lookup x.1=some .cell
  out:∀x∈capt sc,outer.names.lookup x=some .cell∨outer.names.lookup x=some .free
  mem:∀x∈capt sc,x∈N
  fre:∀x∈capt sc,sc.names.lookup x=some .free
  nd:(ts++capt sc).Nodup
theorem blkOk {outer sc:Scope} {ts N:List Str} (h:blkB outer sc ts N=true):BlkOk outer sc ts N:=by
  unfold blkB at h
  simp only[Bool.and_eq_true,List.all_eq_true,decide_eq_true_eq,Bool.or_eq_true,Bool.not_eq_true',decide_eq_false_iff_not] at h
  obtain⟨⟨⟨⟨h1,h2⟩,h3⟩,h4⟩,h5⟩:=h
  exact⟨h1,fun x hx e=>(h2 x hx).resolve_left fun n=>n e,fun x hx e=>(h3 x hx).resolve_left fun n=>n e,fun x hx=>(h4 x hx).1.1,fun x hx=>(h4 x hx).1.2,fun x hx=>(h4 x hx).2,h5⟩
noncomputable def clOf (cs:List (Str×Addr)):List (Str×NameKind)→List (Str×Addr)→List (Str×Addr)
  |[],acc=>acc
  |(n,k)::r,acc=>if k= .free then clOf cs r ((n,(cs.lookup n).getD 0)::acc) else clOf cs r acc
theorem closure_of {scope:Scope} {env:PySem.Env} (h:∀x∈scope.names,x.2= .free→∃c,env.cells.lookup x.1=some c):closureFor scope env=pure (clOf env.cells scope.names []):=by
  unfold closureFor
  have all:∀(l:List (Str×NameKind)) (acc:List (Str×Addr)),(∀x∈l,x.2= .free→∃c,env.cells.lookup x.1=some c)→
      (forIn l acc fun x r=>match x with |(name,kind)=>if (kind ==NameKind.free)=true then do let a ←cellOf env name;pure (ForInStep.yield ((name,a)::r)) else pure (ForInStep.yield r):Sem (List (Str×Addr)))=pure (clOf env.cells l acc):=by
    intro l
    induction l with
    |nil=>intro acc _;rfl
    | cons x r ih=>
      intro acc hx
      obtain⟨n,k⟩:=x
      rw[List.forIn_cons]
      unfold clOf
      by_cases hk:k= .free
      · obtain⟨c,hc⟩:=hx (n,k) List.mem_cons_self hk
        have hc:env.cells.lookup n=some c:=hc
        have e1:cellOf env n=pure c:=by unfold cellOf;rw[hc]
        subst hk
        simp only[e1,hc,Option.getD_some,beq_self_eq_true,if_true,pure_bind]
        exact ih _ fun y hy=>hx y (List.mem_cons_of_mem _ hy)
      · have e2:(k ==NameKind.free)=false:=by simpa using hk
        simp only[e2,Bool.false_eq_true,if_false,pure_bind,hk]
        exact ih _ fun y hy=>hx y (List.mem_cons_of_mem _ hy)
  simpa using all scope.names [] h
theorem clOf_append (cs:List (Str×Addr)):∀(l:List (Str×NameKind)) (acc:List (Str×Addr)),clOf cs l acc=clOf cs l []++acc
  |[],acc=>rfl
  | (n,k)::r,acc=>by
    unfold clOf
    split
    · rw[clOf_append cs r (_::acc),clOf_append cs r [_]];simp
    · exact clOf_append cs r acc
theorem clOf_mem (cs:List (Str×Addr)):∀(l:List (Str×NameKind)) {n:Str} {c:Addr},(n,c)∈clOf cs l []→(n,NameKind.free)∈l∧c=(cs.lookup n).getD 0
  |[],_,_,h=>by simp[clOf] at h
  | (m, k)::r,n,c,h=>by
    unfold clOf at h
    split at h
    · rename_i hk
      rw[clOf_append] at h
      rcases List.mem_append.mp h with h |h
      · obtain⟨h1,h2⟩:=clOf_mem cs r h
        exact⟨List.mem_cons_of_mem _ h1,h2⟩
      · have e:=List.mem_singleton.mp h
        cases e
        subst hk
        exact⟨List.mem_cons_self,rfl⟩
    · obtain⟨h1,h2⟩:=clOf_mem cs r h
      exact⟨List.mem_cons_of_mem _ h1,h2⟩
theorem clOf_has (cs:List (Str×Addr)):∀(l:List (Str×NameKind)) {n:Str},(n,NameKind.free)∈l→((clOf cs l []).lookup n).isSome=true
  |[],_,h=>by simp at h
  | (m, k)::r,n,h=>by
    unfold clOf
    split
    · rename_i hk
      rw[clOf_append,List.lookup_append]
      rcases List.mem_cons.mp h with e |h
      · cases e
        simp[List.lookup_cons]
      · simp[clOf_has cs r h]
    · rename_i hk
      rcases List.mem_cons.mp h with e |h
      · cases e;exact absurd rfl hk
      · exact clOf_has cs r h
theorem cellsFrom_app:∀(l:List (Str×NameKind)) (n:Nat) (acc:List (Str×Addr)),cellsFrom n l acc=cellsFrom n l []++acc
  |[],_,_=>rfl
  | (m,k)::r,n,acc=>by
    unfold cellsFrom
    split
    · rw[cellsFrom_app r _ (_::acc),cellsFrom_app r _ [_]];simp
    · exact cellsFrom_app r n acc
theorem cellsFrom_mem:∀(l:List (Str×NameKind)) (n:Nat) {x:Str} {c:Addr},(x,c)∈cellsFrom n l []→(x,NameKind.cell)∈l∧n≤c
  |[],_,_,_,h=>by simp[cellsFrom] at h
  | (m, k)::r,n,x,c,h=>by
    unfold cellsFrom at h
    split at h
    · rename_i hk
      rw[cellsFrom_app] at h
      rcases List.mem_append.mp h with h |h
      · obtain⟨h1,h2⟩:=cellsFrom_mem r _ h
        exact⟨List.mem_cons_of_mem _ h1,by omega⟩
      · have e:=List.mem_singleton.mp h
        cases e
        have:k= .cell:=by simpa using hk
        subst this
        exact⟨List.mem_cons_self,Nat.le_refl _⟩
    · obtain⟨h1,h2⟩:=cellsFrom_mem r _ h
      exact⟨List.mem_cons_of_mem _ h1,h2⟩
section
variable {M:Model} {A:Around} {E:Value→Shared→Prop} {s:Shared}
theorem new_block {scope:Scope} {globals:Addr} {cl:List (Str×Addr)} {qual:Str} {env:PySem.Env} {Q:PySem.Env→Shared→Prop}
    (hQ:Q (newEnv scope s.heap.objs.size globals (cellsFrom (s.heap.objs.size+1) scope.names cl) qual none .none (some env) builtinsNs) {s with heap:=pushCells (s.heap.push {cls:= .type "dict",data:= .dict #[]}) scope.names}):
    wpAny M A (newFunctionEnv scope globals cl [] qual none .none (some env)) Q E s:=by
  simp only[newFunctionEnv,Option.isSome_some,if_true]
  refine wpAny_bind (wpAny_alloc ?_)
  refine wpAny_bind (wpAny_layCells _ (fun name kind cells=>by cases hkc:kind ==NameKind.cell <;> simp[hkc]) _ _ _ _ ?_)
  rw[show ({s with heap:=s.heap.push {cls:= .type "dict",data:= .dict #[]}}:Shared).heap.objs.size=s.heap.objs.size+1 from Heap.size_push ..]
  exact wpAny_bind (wpAny_pure (wpAny_pure hQ))
end
noncomputable def blkEnv (scope:Scope) (env:PySem.Env) (C:Addr):PySem.Env:=
  {scope:=relabel scope env,locals:=C,globals:=env.globals,cells:=cellsFrom (C+1) scope.names (clOf env.cells scope.names []),qual:=env.qual,func:=none,code:=env.code,frame:=env.frame,builtins:=env.builtins}
noncomputable def blkCx (X:Cx) (scope:Scope) (ts:List Str) (C:Addr) (s:Shared) (H:Hp) (ex:List Addr):Cx where
  prog:=X.prog
  w:=X.w
  K:=X.K
  mg:=X.mg
  base:=X.base
  A:=X.A
  N:=ts++capt scope
  s₀:=s
  H₀:=H
  env:=blkEnv scope X.env C
  outer:=X.stack
  stack:=X.stack
  ex:=ex
  fn:=fun x=>decide (scope.names.lookup x=some .cell)
  calm:=X.calm
  pn:=[]
  xe:=fun _ _=>False
theorem relabel_lookup {scope:Scope} {env:PySem.Env} {x:Str}:∀{names:List (Str×NameKind)},
    (names.map fun (n,k)=>if (k ==NameKind.free && env.scope.kind == .function && env.kindOf n ==some .cell) then (n,NameKind.cell) else (n,k)).lookup x =
      (names.lookup x).map fun k=>if (k ==NameKind.free && env.scope.kind == .function && env.kindOf x ==some .cell) then .cell else k
  |[]=>rfl
  | (n, k)::r=>by
    have ih:= @relabel_lookup scope env x r
    rw[List.map_cons]
    show List.lookup x ((if (k ==NameKind.free && env.scope.kind == .function && env.kindOf n ==some .cell)=true then (n,NameKind.cell) else (n,k))::_)=_
    cases hx:x ==n with
    | true=>
      have e:x=n:=by simpa using hx
      subst e
      by_cases hc:(k ==NameKind.free && env.scope.kind == .function && env.kindOf x ==some .cell)=true
      · rw[if_pos hc]
        simp only[List.lookup_cons,beq_self_eq_true,Option.map_some,hc,if_true]
      · rw[if_neg hc]
        simp only[List.lookup_cons,beq_self_eq_true,Option.map_some,hc,if_false] <;> rfl
    | false=>
      by_cases hc:(k ==NameKind.free && env.scope.kind == .function && env.kindOf n ==some .cell)=true
      · rw[if_pos hc]
        simp only[List.lookup_cons,hx]
        exact ih
      · rw[if_neg hc]
        simp only[List.lookup_cons,hx]
        exact ih
theorem mem_capt {sc:Scope} {x:Str} (h:(x,NameKind.free)∈sc.names):x∈capt sc:=List.mem_map.mpr ⟨(x,.free),List.mem_filter.mpr ⟨h,by simp⟩,rfl⟩
theorem of_capt {sc:Scope} {x:Str} (h:x∈capt sc):(x,NameKind.free)∈sc.names:=by
  obtain⟨⟨n,k⟩,h1,h2⟩:=List.mem_map.mp h
  obtain⟨h3,h4⟩:=List.mem_filter.mp h1
  have h4:k=NameKind.free:=by simpa using h4
  subst h4
  have h2:n=x:=h2
  subst h2
  exact h3
section
variable {X:Cx} {scope:Scope} {ts:List Str} {C:Addr}
theorem blk_cell (B:BlkOk X.env.scope scope ts X.N) (has:∀x,(X.env.kindOf x=some .cell∨X.env.kindOf x=some .free)→∃c,X.env.cells.lookup x=some c) {x:Str} {c:Addr} (h:(blkEnv scope X.env C).cells.lookup x=some c):
    (scope.names.lookup x=some .cell∧@LE.le Nat _ (C+1) c)∨(x∈capt scope∧X.env.cells.lookup x=some c):=by
  have h:(cellsFrom (C+1) scope.names (clOf X.env.cells scope.names [])).lookup x=some c:=h
  rw[cellsFrom_app,List.lookup_append] at h
  cases e:(cellsFrom (C+1) scope.names []).lookup x with
  | some c'=>
    rw[e] at h
    have e2:c'=c:=by simpa using h
    subst e2
    obtain⟨h1,h2⟩:=cellsFrom_mem _ _ (PySem.mem_of_lookup e)
    exact .inl ⟨B.cel _ h1 rfl,h2⟩
  | none=>
    rw[e] at h
    have h:(clOf X.env.cells scope.names []).lookup x=some c:=by simpa using h
    obtain⟨h1,h2⟩:=clOf_mem _ _ (PySem.mem_of_lookup h)
    have hx:=mem_capt h1
    obtain⟨c',hc'⟩:=has x (B.out x hx)
    rw[hc'] at h2
    have h2:c=c':=h2
    subst h2
    exact .inr ⟨hx,hc'⟩
theorem blk_capt (B:BlkOk X.env.scope scope ts X.N) {x:Str} {c:Addr} (hx:x∈capt scope) (hc:X.env.cells.lookup x=some c) (has:∀x,(X.env.kindOf x=some .cell∨X.env.kindOf x=some .free)→∃c,X.env.cells.lookup x=some c):(blkEnv scope X.env C).cells.lookup x=some c:=by
  have hs:=clOf_has X.env.cells scope.names (of_capt hx)
  obtain⟨c',e⟩:=Option.isSome_iff_exists.mp hs
  have hl:∃d,(blkEnv scope X.env C).cells.lookup x=some d:=by
    show ∃d,(cellsFrom (C+1) scope.names (clOf X.env.cells scope.names [])).lookup x=some d
    rw[cellsFrom_app,List.lookup_append,e]
    cases (cellsFrom (C+1) scope.names []).lookup x with
    |none=>exact⟨c',rfl⟩
    |some d=>exact⟨d,rfl⟩
  obtain⟨d,hd⟩:=hl
  rcases blk_cell B has hd with⟨h1,_⟩ |⟨_,h2⟩
  · rw[B.fre x hx] at h1;cases h1
  · rw[hc] at h2;cases h2;exact hd
theorem blk_kind (B:BlkOk X.env.scope scope ts X.N) {x:Str} (hx:x∈capt scope):(blkEnv scope X.env C).kindOf x=some .cell∨(blkEnv scope X.env C).kindOf x=some .free:=by
  show (relabel scope X.env).names.lookup x=some .cell∨(relabel scope X.env).names.lookup x=some .free
  have e:(relabel scope X.env).names.lookup x=(scope.names.lookup x).map fun k=>if (k ==NameKind.free && X.env.scope.kind == .function && X.env.kindOf x ==some .cell) then .cell else k:=relabel_lookup (scope:=scope)
  rw[e,B.fre x hx]
  simp only[Option.map_some]
  split
  · exact .inl rfl
  · exact .inr rfl
end
end Pu
namespace Pu
open PySem PySem.Spec L2
open PyProof.Rows hiding St
noncomputable def noE {α:Type}:R α→R α
  | .err _=> .bad
  | .ok a=> .ok a
  | .bad=> .bad
@[simp] theorem noE_ok {α:Type} (a:α):noE (R.ok a)= .ok a:=rfl
noncomputable def mapO (k:D→R (Option D)):List D→R (List D)
  |[]=> .ok []
  |x::xs=>(noE (k x)).bind fun o=>(mapO k xs).bind fun ds=> .ok (o.toList++ds)
noncomputable def eltV (gt:D→Rho→R Rho) (ft:Rho→R Bool) (fe:Rho→R D) (ρ:Rho) (x:D):R (Option D):=
  (gt x ρ).bind fun ρ1=>(ft ρ1).bind fun b=>if b=true then (fe ρ1).bind fun d=> .ok (some d) else .ok none
noncomputable def vOnly:Option Ent→Option Ent
  |some (.val d)=>some (.val d)
  |_=>none
noncomputable def pullN (n:Nat) (caps:List Nat) (ρ:Rho):Rho:=List.replicate n none++caps.map fun k=>((ρ.map vOnly)[k]?).join
noncomputable def compV (n:Nat) (caps:List Nat) (fi:Rho→R (List D)) (gt:D→Rho→R Rho) (ft:Rho→R Bool) (fe:Rho→R D):Rho→R D:=
  fun ρ=>(fi ρ).bind fun xs=>(mapO (eltV gt ft fe (pullN n caps ρ)) xs).bind (cap .lst)
noncomputable def KeepsG (n:Nat) (gt:D→Rho→R Rho):Prop:=∀d ρ ρ',gt d ρ= .ok ρ'→∀i,n≤i→ρ'[i]?=ρ[i]?
noncomputable def KeepsGs (n:Nat) (gt:List D→Rho→R Rho):Prop:=∀d ρ ρ',gt d ρ= .ok ρ'→∀i,n≤i→ρ'[i]?=ρ[i]?
theorem keeps_set {n i:Nat} (h:i < n):KeepsG n (setV i):=fun d ρ ρ' e j hj=>by
  cases e
  rw[List.getElem?_set_ne (by omega)]
theorem keeps_nil {n:Nat}:KeepsGs n nilG:=fun d ρ ρ' e j hj=>by
  cases d with
  |nil=>cases e;rfl
  |cons _ _=>cases e
theorem keeps_cons {n:Nat} {t:D→Rho→R Rho} {u:List D→Rho→R Rho} (h1:KeepsG n t) (h2:KeepsGs n u):KeepsGs n (consG t u):=fun d ρ ρ' e j hj=>by
  cases d with
  |nil=>cases e
  | cons d ds=>
    have e':(t d ρ).bind (fun ρ'=>u ds ρ')= .ok ρ':=e
    cases q:t d ρ with
    |ok ρ1=>rw[q] at e';rw[h2 ds ρ1 ρ' e' j hj,h1 d ρ ρ1 q j hj]
    |err c=>rw[q] at e';cases e'
    |bad=>rw[q] at e';cases e'
theorem keeps_tup {n m:Nat} {u:List D→Rho→R Rho} (h:KeepsGs n u):KeepsG n (tupG (lenG m u)):=fun d ρ ρ' e j hj=>by
  cases d with
  | tup ds=>
    have e':(if ds.length=m then u ds ρ else .bad)= .ok ρ':=e
    by_cases hl:ds.length=m
    · rw[if_pos hl] at e';exact h ds ρ ρ' e' j hj
    · rw[if_neg hl] at e';cases e'
  |_=>cases e
noncomputable def DTs (Y:Cx) (ifs:List Expr) (ft:Rho→R Bool):Prop:=∀(pins:List (Addr×Obj)) (s:Shared) (σ:St) (H:Hp) (Q:Bool→Hp→Prop),Inv Y pins σ H s→tG Y rB ft σ H Q→
  wpAny (model Y.prog Y.w) Y.A (forIn ifs true fun c r=>if r=true then do let ok ←isTrue c Y.env (eval c Y.env);pure (ForInStep.yield ok) else pure (ForInStep.yield r)) (TP Y pins σ Q) Y.xe s
theorem dts_nil {Y:Cx}:DTs Y [] (fun _=> .ok true):=fun pins s σ H Q I h=>by
  obtain⟨ρ,O,j,h⟩:=h
  exact wpAny_tests_nil ⟨H,I,fin h rfl⟩
theorem dts_one {Y:Cx} {c:Expr} {p:Rho→R Bool} (hc:DT Y c p):DTs Y [c] p:=fun pins s σ H Q I h=>wpAny_tests_one (hc pins s σ H Q I h)
theorem mapO_cons {k:D→R (Option D)} {x:D} {xs:List D} {all:List D} (h:mapO k (x::xs)= .ok all):∃o rest,k x= .ok o∧mapO k xs= .ok rest∧all=o.toList++rest:=by
  have h:(noE (k x)).bind (fun o=>(mapO k xs).bind fun ds=> .ok (o.toList++ds))= .ok all:=h
  cases e:k x with
  |bad=>rw[e] at h;cases h
  |err c=>rw[e] at h;cases h
  | ok o=>
    rw[e] at h
    cases e2:mapO k xs with
    |bad=>rw[e2] at h;cases h
    |err c=>rw[e2] at h;cases h
    | ok rest=>
      rw[e2] at h
      cases h
      exact⟨o,rest,rfl,rfl,rfl⟩
theorem mapO_noerr {k:D→R (Option D)}:∀{xs:List D} {c:Str},mapO k xs≠.err c
  |[],c=>fun h=>by cases h
  | x ::xs,c=>fun h=>by
    have h:(noE (k x)).bind (fun o=>(mapO k xs).bind fun ds=> .ok (o.toList++ds))= .err c:=h
    cases e:k x with
    |bad=>rw[e] at h;cases h
    |err c=>rw[e] at h;cases h
    | ok o=>
      rw[e] at h
      cases e2:mapO k xs with
      |bad=>rw[e2] at h;cases h
      |err c'=>exact mapO_noerr e2
      |ok rest=>rw[e2] at h;cases h
section
variable {X:Cx}
theorem vOnly_some {o:Option Ent} {e:Ent} (h:vOnly o=some e):o=some e∧e.isV=true:=by
  cases o with
  |none=>cases h
  | some e'=>
    cases e' with
    |val d=>cases h;exact⟨rfl,rfl⟩
    |lst _=>cases h
    |dic _=>cases h
    |obj _=>cases h
theorem vals_get {ρ:Rho} {i:Nat} {e:Ent} (h:(ρ.map vOnly)[i]?=some (some e)):ρ[i]?=some (some e)∧e.isV=true:=by
  rw[List.getElem?_map] at h
  cases q:ρ[i]? with
  |none=>rw[q] at h;cases h
  | some o=>
    rw[q] at h
    obtain⟨h1,h2⟩:=vOnly_some (Option.some.inj h)
    rw[h1];exact⟨rfl,h2⟩
theorem In.vals {O:Addr→Prop} {H:Hp} {ρ:Rho} {σ:St} (j:In X O H ρ σ):In X O H (ρ.map vOnly) σ:=
  ⟨⟨fun i e h=>j.env.get i e (vals_get h).1,fun i k e e' v hik hi hk=>j.env.sep i k e e' v hik (vals_get hi).1 (vals_get hk).1⟩,j.al,j.len,by rw[List.length_map];exact j.lenR⟩
theorem pull_pullN {N caps:List Str} {ks:List Nat} {n:Nat} {ρ:Rho} (h:caps.map (fun x=>ixOf x N)=ks):pull N caps n (ρ.map vOnly)=pullN n ks ρ:=by
  unfold pull pullN
  rw[←h,List.map_map]
  rfl
theorem blk_inv {scope:Scope} {ts:List Str} {pins:List (Addr×Obj)} {σ:St} {H:Hp} {s:Shared} {fp:List Addr} (I:Inv X pins σ H s) (B:BlkOk X.env.scope scope ts X.N)
    (hf:∀b∈fp,FpOk X pins H b) (ho:∀b∈fp,b < s.heap.objs.size) {h4:Heap} {C:Nat} (hC:C=s.heap.objs.size+1)
    (e4:h4=pushCells ((s.heap.push {cls:= .type "list",dict:=none,data:= .seq ([]:List Value).toArray}).push {cls:= .type "dict",data:= .dict #[]}) scope.names):
    Inv (blkCx X scope ts C s H fp) [] (pull X.N (capt scope) ts.length σ) (upd H s.heap.objs.size (.lst [])) {s with heap:=h4}:=by
  have hD:H s.heap.objs.size=none:=I.hok.fresh (Nat.le_refl _)
  have keep3:∀b o,(s.heap.push {cls:= .type "list",dict:=none,data:= .seq ([]:List Value).toArray}).get? b=some o→h4.get? b=some o:=fun b o e=>by
    rw[e4];exact pushCells_keeps _ _ b o (Heap.get?_push_of_some _ e)
  have keep:∀b o,s.heap.get? b=some o→h4.get? b=some o:=fun b o e=>keep3 b o (Heap.get?_push_of_some _ e)
  have sz3:(s.heap.push {cls:= .type "list",dict:=none,data:= .seq ([]:List Value).toArray}).objs.size=s.heap.objs.size+1:=Heap.size_push ..
  have hns:h4.Ns C fun _=>none:=by
    rw[e4,hC,←sz3]
    exact (Heap.Ns.new _ (.type "dict")).keeps (pushCells_keeps _ _)
  have ok:=cellsFrom_ok scope.names ((s.heap.push {cls:= .type "list",dict:=none,data:= .seq ([]:List Value).toArray}).push {cls:= .type "dict",data:= .dict #[]}) (C+1) [] ⟨fun _ _ hm=>(nomatch hm),List.Pairwise.nil⟩ (by rw[Heap.size_push,sz3,hC];exact Nat.le_refl _)
  rw[Heap.size_push,sz3,←hC,←e4] at ok
  have newcell:∀x c,(blkEnv scope X.env C).cells.lookup x=some c→scope.names.lookup x=some .cell→h4.IsCell c none:=fun x c h hk=>by
    have h:(cellsFrom (C+1) scope.names (clOf X.env.cells scope.names [])).lookup x=some c:=h
    rw[cellsFrom_app,List.lookup_append] at h
    cases e:(cellsFrom (C+1) scope.names []).lookup x with
    | some c'=>
      rw[e] at h
      have e2:c'=c:=by simpa using h
      subst e2
      exact (ok.empty x c' (PySem.mem_of_lookup e)).1
    | none=>
      rw[e] at h
      have h:(clOf X.env.cells scope.names []).lookup x=some c:=by simpa using h
      have:=B.fre x (mem_capt (clOf_mem _ _ (PySem.mem_of_lookup h)).1)
      rw[hk] at this;cases this
  have oldlt:∀x (c:Nat),X.env.cells.lookup x=some c→c < s.heap.objs.size:=fun x c e=>by
    obtain⟨v,q⟩:=I.cell x c e
    exact q.lt
  have iscell:∀x c,(blkEnv scope X.env C).cells.lookup x=some c→∃v,h4.IsCell c v:=fun x c h=>by
    rcases blk_cell B I.ok.has h with⟨h1,_⟩ |⟨_,h2⟩
    · exact⟨_,newcell x c h h1⟩
    · obtain⟨v,q⟩:=I.cell x c h2
      exact⟨v,q.keeps keep⟩
  refine⟨⟨I.ok.mod,B.kind,I.ok.glob,I.ok.blt,by show @LE.le Nat _ s.heap.objs.size C;omega,?inj,?has,?cab,I.ok.hd,I.ok.frames,.inl rfl,?exf,I.bs,Nat.le_trans I.ok.bsz I.sz,?noex,?exfs,I.stack,I.stkFree⟩,
    rfl,I.bare,Un.laid keep (Nat.le_refl _) hD,⟨_,hns,?loc⟩,iscell,?free,?freeC,fun p hp=>absurd (show p∈([]:List (Addr×Obj)) from hp) (by simp),I.hok.laid keep (Nat.le_refl _) ?new,?len⟩
  case inj=>
    intro x y c h1 h2
    have h1:(blkEnv scope X.env C).cells.lookup x=some c:=h1
    have h2:(blkEnv scope X.env C).cells.lookup y=some c:=h2
    rcases blk_cell B I.ok.has h1 with⟨a1,a2⟩ |⟨a1,a2⟩ <;> rcases blk_cell B I.ok.has h2 with⟨b1,b2⟩ |⟨b1,b2⟩
    · -- both its own
      have look:∀z,(blkEnv scope X.env C).cells.lookup z=some c→scope.names.lookup z=some .cell→(z,c)∈cellsFrom (C+1) scope.names []:=fun z h hk=>by
        have h:(cellsFrom (C+1) scope.names (clOf X.env.cells scope.names [])).lookup z=some c:=h
        rw[cellsFrom_app,List.lookup_append] at h
        cases e:(cellsFrom (C+1) scope.names []).lookup z with
        | some c'=>
          rw[e] at h
          have e2:c'=c:=by simpa using h
          subst e2
          exact PySem.mem_of_lookup e
        | none=>
          rw[e] at h
          have h:(clOf X.env.cells scope.names []).lookup z=some c:=by simpa using h
          have:=B.fre z (mem_capt (clOf_mem _ _ (PySem.mem_of_lookup h)).1)
          rw[hk] at this;cases this
      exact name_of_addr ok.apart (look x h1 a1) (look y h2 b1)
    · have:=oldlt y c b2;omega
    · have:=oldlt x c a2;omega
    · exact I.ok.inj x y c a2 b2
  case has=>
    intro x hx
    have hx:(relabel scope X.env).names.lookup x=some .cell∨(relabel scope X.env).names.lookup x=some .free:=hx
    have hx:(scope.names.map fun (n,k)=>if (k ==NameKind.free && X.env.scope.kind == .function && X.env.kindOf n ==some .cell) then (n,NameKind.cell) else (n,k)).lookup x=some .cell∨(scope.names.map fun (n,k)=>if (k ==NameKind.free && X.env.scope.kind == .function && X.env.kindOf n ==some .cell) then (n,NameKind.cell) else (n,k)).lookup x=some .free:=hx
    rw[relabel_lookup (scope:=scope)] at hx
    cases e:scope.names.lookup x with
    |none=>rw[e] at hx;rcases hx with z |z <;> cases z
    | some k=>
      rw[e] at hx
      by_cases hk:k= .free
      · subst hk
        have hm:=mem_capt (PySem.mem_of_lookup e)
        obtain⟨c,hc⟩:=I.ok.has x (B.out x hm)
        exact⟨c,blk_capt B hm hc I.ok.has⟩
      · have hk':(k ==NameKind.free)=false:=by simpa using hk
        simp only[Option.map_some,hk',Bool.false_and,Bool.false_eq_true,if_false] at hx
        have hc:k= .cell:=by
          rcases hx with z |z
          · exact Option.some.inj z
          · exact absurd (Option.some.inj z) hk
        subst hc
        have q:=PySem.W.cellsFrom_some scope.names (C+1) (clOf X.env.cells scope.names []) (.inl e)
        exact Option.isSome_iff_exists.mp q
  case cab=>
    intro x c hfn h
    have h:(blkEnv scope X.env C).cells.lookup x=some c:=h
    have hfn:scope.names.lookup x=some .cell:=of_decide_eq_true hfn
    rcases blk_cell B I.ok.has h with⟨_,a2⟩ |⟨a1,_⟩
    · show @LE.le Nat _ s.heap.objs.size c;omega
    · rw[B.fre x a1] at hfn;cases hfn
  case exf=>
    intro b hb
    have hb:b∈fp:=hb
    have hl: @LT.lt Nat _ b s.heap.objs.size:=ho b hb
    refine⟨by show @Ne Nat b C;omega,fun x c h=>?_⟩
    rcases blk_cell B I.ok.has h with⟨_,a2⟩ |⟨_,a2⟩
    · show @Ne Nat c b;omega
    · exact (hf b hb).2.2.2.2.1 x c a2
  case noex=>
    intro b o e hb
    have hb:b∈fp:=hb
    rcases (hf b hb).2.2.2.1 with z |z
    · exact I.ok.noex b o e z
    · exact absurd (Nat.lt_of_lt_of_le (Heap.lt_size e) (Nat.le_trans I.ok.bsz z)) (Nat.lt_irrefl _)
  case exfs=>
    intro b hb hz
    have hb:b∈fp:=hb
    have hz:b∈frs X.stack:=hz
    rcases List.mem_cons.mp (I.stkSub b hz) with z |z
    · exact (hf b hb).2.1 z
    · exact (hf b hb).2.2.1 z
  case loc=>
    intro i x v h1 h2 h3
    have h1:(ts++capt scope)[i]?=some x:=h1
    obtain⟨k,y,e1,e2,e3⟩:=pull_get h2
    have hy:x=y:=by
      rw[e1,List.getElem?_append_right (by omega),show ts.length+k - ts.length=k by omega,e2] at h1
      exact (Option.some.inj h1).symm
    subst hy
    have hm:x∈capt scope:=List.mem_of_getElem? e2
    obtain⟨m,_,hl⟩:=I.loc
    have vis:Vis X.env.scope x:=by
      rcases B.out x hm with z |z
      · exact .inr (.inl z)
      · exact .inr (.inr z)
    obtain⟨u,ru,lk⟩:=hl (ixOf x X.N) x v (ixOf_get (B.mem x hm)) e3 vis
    refine⟨u,ru,.inr ⟨blk_kind B hm,?_⟩⟩
    rcases lk with⟨z,_⟩ |⟨_,c,hc,q⟩
    · have z:X.env.scope.names.lookup x=some .local:=z
      rcases B.out x hm with z' |z' <;> rw[z] at z' <;> cases z'
    · exact⟨c,blk_capt B hm hc I.ok.has,q.keeps keep⟩
  case free=>
    show upd H s.heap.objs.size (.lst []) C=none
    rw[upd_ne (show @Ne Nat C s.heap.objs.size by omega)]
    exact I.hok.fresh (show @LE.le Nat _ s.heap.objs.size C by omega)
  case freeC=>
    intro x c h
    rcases blk_cell B I.ok.has h with⟨_,a2⟩ |⟨_,a2⟩
    · rw[upd_ne (show @Ne Nat c s.heap.objs.size by omega)]
      exact I.hok.fresh (show @LE.le Nat _ s.heap.objs.size c by omega)
    · have:=oldlt x c a2
      rw[upd_ne (show @Ne Nat c s.heap.objs.size by omega)]
      exact I.freeC x c a2
  case new=>
    exact⟨Nat.zero_le _,[],0,.nil,keep3 _ _ (Heap.get?_push_size _ rfl)⟩
  case len=>
    show (pull X.N (capt scope) ts.length σ).length=(ts++capt scope).length
    rw[pull_len,List.length_append]
theorem blk_in {scope:Scope} {ts:List Str} {σ:St} {ρ:Rho} {H:Hp} {s:Shared} {fp:List Addr} {O:Addr→Prop} {C:Addr} (B:BlkOk X.env.scope scope ts X.N) (j:In X O H ρ σ):In (blkCx X scope ts C s H fp) O H (pull X.N (capt scope) ts.length ρ) (pull X.N (capt scope) ts.length σ):=by
  refine⟨⟨fun i e h=>?_,fun i k e e' v hik hi hk oi ok si sk=>?_⟩,j.al,?_,?_⟩
  · obtain⟨m,x,rfl,e1,e2⟩:=pull_get h
    obtain⟨v,e3,r⟩:=j.env.get _ e e2
    exact⟨v,by rw[pull_at e1,e3];rfl,r⟩
  · obtain⟨m,x,rfl,e1,e2⟩:=pull_get hi
    obtain⟨m',x',rfl,e1',e2'⟩:=pull_get hk
    have hx:x≠x':=fun z=>by
      subst z
      have nd:=(List.nodup_append.mp B.nd).2.1
      exact hik (by rw[nodup_ix nd e1 e1'])
    have hm:=B.mem x (List.mem_of_getElem? e1)
    have hm':=B.mem x' (List.mem_of_getElem? e1')
    have hne:ixOf x X.N≠ixOf x' X.N:=fun z=>by
      have q1:=ixOf_get hm
      have q2:=ixOf_get hm'
      rw[z,q2] at q1
      exact hx (Option.some.inj q1).symm
    rw[pull_at e1] at si
    rw[pull_at e1'] at sk
    exact j.env.sep _ _ e e' v hne e2 e2' oi ok (join_some (Option.some.inj si)) (join_some (Option.some.inj sk))
  · show (pull X.N (capt scope) ts.length σ).length=(ts++capt scope).length
    rw[pull_len,List.length_append]
  · show (pull X.N (capt scope) ts.length ρ).length=(ts++capt scope).length
    rw[pull_len,List.length_append]
end
end Pu
namespace Pu
open PySem PySem.Spec L2
open PyProof.Rows hiding St
theorem sizeLine_gt:1000000 < sizeLine:=by rw[sizeLine_eq];decide
section
variable {X:Cx}
theorem In.back {Y:Cx} {O:Addr→Prop} {H:Hp} {ρ ρ1:Rho} {σ:St} {n:Nat} (j:In Y O H ρ1 σ) (h0:∀i,i < n→ρ[i]?=some none) (h1:∀i,n≤i→ρ1[i]?=ρ[i]?) (hl:ρ.length=Y.N.length):In Y O H ρ σ:=by
  have sub:∀(i:Nat) e,ρ[i]?=some (some e)→ρ1[i]?=some (some e):=fun i e h=>by
    by_cases hi:i < n
    · rw[h0 i hi] at h;cases h
    · rw[h1 i (by omega)];exact h
  exact⟨⟨fun i e h=>j.env.get i e (sub i e h),fun i k e e' v hik hi hk=>j.env.sep i k e e' v hik (sub i e hi) (sub k e' hk)⟩,j.al,j.len,hl⟩
theorem pull_none {α:Type} {N caps:List Str} {n:Nat} {l:List (Option α)} {i:Nat} (h:i < n):(pull N caps n l)[i]?=some none:=by
  unfold pull
  rw[List.getElem?_append_left (by simpa using h),List.getElem?_replicate,if_pos h]
theorem In.go {Y:Cx} {O O':Addr→Prop} {H H':Hp} {ρ:Rho} {σ:St} (j:In Y O H ρ σ) (hv:∀(i:Nat) e,ρ[i]?=some (some e)→e.isV=true) (r:Rch Y.K O H O' H') (al:∀a,O' a→∃o,H' a=some o):In Y O' H' ρ σ:=by
  refine⟨⟨fun i e h=>?_,fun i k e e' v _ hi _ oi=>?_⟩,al,j.len,j.lenR⟩
  · obtain⟨v,h1,h2⟩:=j.env.get i e h
    refine⟨v,h1,?_⟩
    cases e with
    |val d=>exact Rep.go r h2
    |lst _=>cases hv i _ h
    |dic _=>cases hv i _ h
    |obj _=>cases hv i _ h
  · rw[isV_own (hv i e hi)] at oi;cases oi
theorem pull_vals {N caps:List Str} {n:Nat} {ρ:Rho}:∀(i:Nat) e,(pull N caps n (ρ.map vOnly))[i]?=some (some e)→e.isV=true:=fun i e h=>by
  obtain⟨_,_,_,_,q⟩:=pull_get h
  exact (vals_get q).2
end
end Pu
namespace Pu
open PySem PySem.Spec L2
open PyProof.Rows hiding St
inductive So where
  |bad |nx (ρ:Rho) |rt (d:D) |bk (ρ:Rho) |ct (ρ:Rho) |ex (c:Str) (ρ:Rho)
structure At (X:Cx) (H0:Hp) (O0 O:Addr→Prop) (H:Hp) (ρ:Rho) (σ:St):Prop where
  same:Same H0 H
  rch:Rch X.K O0 H0 O H
  sub:∀a,O0 a→O a
  inn:In X O H ρ σ
  mine:∀(i:Nat) e a,ρ[i]?=some (some e)→e.own=true→σ[i]?=some (some (.ref a))→H0 a=none∧¬O0 a
noncomputable def fol (X:Cx) (H0:Hp) (O0 O:Addr→Prop) (H:Hp) (E:Ends) (o:So):Prop:=match o with
  | .nx ρ'=>∀σ' H' O',At X H0 O0 O' H' ρ' σ'→Rch X.K O H O' H'→E.nx σ' H'
  | .bk ρ'=>∀σ' H' O',At X H0 O0 O' H' ρ' σ'→Rch X.K O H O' H'→E.bk σ' H'
  | .ct ρ'=>∀σ' H' O',At X H0 O0 O' H' ρ' σ'→Rch X.K O H O' H'→E.ct σ' H'
  | .rt d=>∀v H',Same H0 H'→Rep X.K O0 H' d v→E.rt v H'
  | .ex c ρ'=>∀σ' H' O',At X H0 O0 O' H' ρ' σ'→XOk X c σ' H'
  | .bad=>False
theorem fol.go {X:Cx} {H0 H H1:Hp} {O0 O O1:Addr→Prop} {E:Ends} {o:So} (h:fol X H0 O0 O H E o) (r:Rch X.K O H O1 H1):fol X H0 O0 O1 H1 E o:=by
  cases o with
  |bad=>exact h
  |rt d=>exact h
  |bk ρ2=>exact fun σ2 H2 O2 j2 r2=>h σ2 H2 O2 j2 (r.trans r2)
  |ct ρ2=>exact fun σ2 H2 O2 j2 r2=>h σ2 H2 O2 j2 (r.trans r2)
  |nx ρ2=>exact fun σ2 H2 O2 j2 r2=>h σ2 H2 O2 j2 (r.trans r2)
  |ex c ρ2=>exact h
noncomputable def tS (X:Cx) (g:Rho→So):TS:=fun E σ H=>∃H0 O0 O ρ,At X H0 O0 O H ρ σ∧fol X H0 O0 O H E (g ρ)
noncomputable def DS (X:Cx) (st:Stmt) (g:Rho→So):Prop:=PS X st (tS X g)
noncomputable def DSs (X:Cx) (st:List Stmt) (g:Rho→So):Prop:=PSs X st (tS X g)
theorem PS.imp {X:Cx} {e:Stmt} {t t':TS} (h:PS X e t) (w:∀σ H Q,t' Q σ H→t Q σ H):PS X e t':=fun pins s σ H Q I q=>h pins s σ H Q I (w σ H Q q)
theorem PSs.imp {X:Cx} {e:List Stmt} {t t':TS} (h:PSs X e t) (w:∀σ H Q,t' Q σ H→t Q σ H):PSs X e t':=fun pins s σ H Q I q=>h pins s σ H Q I (w σ H Q q)
section
variable {X:Cx} {H0 H H1:Hp} {O0 O:Addr→Prop} {ρ:Rho} {σ:St}
theorem At.grow (j:At X H0 O0 O H ρ σ) (s:Same H H1):At X H0 O0 O H1 ρ σ:=⟨j.same.trans s,j.rch.trans (Same.rch s),j.sub,j.inn.same s,j.mine⟩
theorem At.set (j:At X H0 O0 O H ρ σ) {i:Nat} (hi:i < X.N.length) {d:D} {v:V} (r:Rep X.K O H d v):At X H0 O0 O H (ρ.set i (some (.val d))) (σ.set i (some v)):=by
  refine⟨j.same,j.rch,j.sub,j.inn.set hi r,fun k e a h ho hs=>?_⟩
  have h1:i < ρ.length:=by rw[j.inn.lenR];exact hi
  by_cases hk:k=i
  · subst hk
    rw[List.getElem?_set_self h1] at h
    cases h;cases ho
  · rw[List.getElem?_set_ne (Ne.symm hk)] at h hs
    exact j.mine k e a h ho hs
noncomputable def thawE:Option Ent→Option Ent
  |some (.lst ds)=>some (.val (.lst ds))
  |o=>o
noncomputable def thaw (ρ:Rho):Rho:=ρ.map thawE
noncomputable def thO (ρ:Rho) (σ:St) (O:Addr→Prop):Addr→Prop:=fun a=>O a∧∀(i:Nat) ds,ρ[i]?=some (some (.lst ds))→σ[i]?≠some (some (.ref a))
theorem thaw_get {i:Nat} {e:Ent} (h:(thaw ρ)[i]?=some (some e)):(ρ[i]?=some (some e)∧∀ds,e≠.lst ds)∨∃ds,ρ[i]?=some (some (.lst ds))∧e= .val (.lst ds):=by
  unfold thaw at h
  rw[List.getElem?_map] at h
  cases q:ρ[i]? with
  |none=>rw[q] at h;cases h
  | some o=>
    rw[q] at h
    have h:thawE o=some e:=Option.some.inj h
    cases o with
    |none=>cases h
    | some e'=>
      cases e' with
      |val d=>cases h;exact .inl ⟨rfl,fun _ z=>by cases z⟩
      |lst ds=>cases h;exact .inr ⟨ds,rfl,rfl⟩
      |dic kvs=>cases h;exact .inl ⟨rfl,fun _ z=>by cases z⟩
      |obj t=>cases h;exact .inl ⟨rfl,fun _ z=>by cases z⟩
theorem In.thaw (j:In X O H ρ σ):In X (thO ρ σ O) H (Pu.thaw ρ) σ:=by
  refine⟨⟨fun i e h=>?_,fun i k e e' v hik hi hk oi ok si sk=>?_⟩,fun a z=>j.al a z.1,j.len,by unfold Pu.thaw;rw[List.length_map];exact j.lenR⟩
  · rcases thaw_get h with⟨h1,h2⟩ |⟨ds,h1,rfl⟩
    · obtain⟨v,h3,h4⟩:=j.env.get i e h1
      refine⟨v,h3,?_⟩
      cases e with
      |val d=>exact Rep.fewer (fun a z=>z.1) h4
      |lst ds=>exact absurd rfl (h2 ds)
      |obj t=>exact h4
      | dic kvs=>
        obtain⟨a,ys,e1,o1,e2,k1,r1⟩:=h4
        refine⟨a,ys,e1,⟨o1,fun k ds hk hs=>?_⟩,e2,k1,r1.fewer fun a z=>z.1⟩
        by_cases hik:i=k
        · subst hik;rw[h1] at hk;cases hk
        · exact j.env.sep i k _ _ v hik h1 hk rfl rfl h3 (by rw[e1];exact hs)
    · obtain⟨v,h3,a,xs,e1,o1,e2,r1⟩:=j.env.get i _ h1
      exact⟨v,h3,by rw[e1];exact rep_lst (SqL.of e2) (fun z=>z.2 i ds h1 (by rw[←e1];exact h3)) (r1.fewer fun a z=>z.1)⟩
  · have un:∀{m:Nat} {e:Ent},(Pu.thaw ρ)[m]?=some (some e)→e.own=true→ρ[m]?=some (some e):=fun {m e} h ho=>by
      rcases thaw_get h with⟨h1,_⟩ |⟨ds,_,rfl⟩
      · exact h1
      · cases ho
    exact j.env.sep i k e e' v hik (un hi oi) (un hk ok) oi ok si sk
theorem At.thO0 (j:At X H0 O0 O H ρ σ):∀a,O0 a→thO ρ σ O a:=fun a z=>⟨j.sub a z,fun i ds h hs=>(j.mine i _ a h rfl hs).2 z⟩
end
section
variable {X:Cx} {st:Stmt} {rest:List Stmt} {g k:Rho→So} {f:Rho→R D} {p:Rho→R Bool} {e:Expr} {pos:Pos}
noncomputable def seqS (g k:Rho→So):Rho→So:=fun ρ=>match g ρ with
  | .nx ρ'=>k ρ'
  |o=>o
theorem dss_nil:DSs X [] .nx:=PSs.imp pss_nil fun σ H E h=>by
  obtain⟨H0,O0,O,ρ,j,h⟩:=h
  exact h σ H O j .refl
theorem dss_one (h:DS X st g):DSs X [st] g:=pss_one h
theorem dsc (h1:DS X st g) (h2:DSs X rest k):DSs X (st::rest) (seqS g k):=by
  refine PSs.imp (pss_cons h1 h2) fun σ H E h=>?_
  obtain⟨H0,O0,O,ρ,j,h⟩:=h
  unfold seqS at h
  refine⟨H0,O0,O,ρ,j,?_⟩
  cases e1:g ρ with
  |bad=>rw[e1] at h;exact h
  |rt d=>rw[e1] at h;exact h
  |bk ρ'=>rw[e1] at h;exact h
  |ct ρ'=>rw[e1] at h;exact h
  |ex c ρ'=>rw[e1] at h;exact h
  | nx ρ'=>
    rw[e1] at h
    have h:fol X H0 O0 O H E (k ρ'):=h
    exact fun σ' H' O' j' r'=>⟨H0,O0,O',ρ',j',h.go r'⟩
noncomputable def ofR (r:R D) (ρ:Rho) (k:D→So):So:=match r with
  | .ok d=>k d
  | .err c=> .ex c ρ
  | .bad=> .bad
noncomputable def retS (f:Rho→R D):Rho→So:=fun ρ=>ofR (f (thaw ρ)) ρ .rt
theorem ds_ret (he:DE X e f):DS X (.Return (some e) pos) (retS f):=by
  refine PS.imp (ps_ret he) fun σ H E h=>?_
  obtain⟨H0,O0,O,ρ,j,h⟩:=h
  refine⟨thaw ρ,thO ρ σ O,j.inn.thaw,?_⟩
  unfold retS ofR at h
  cases e1:f (thaw ρ) with
  |bad=>rw[e1] at h;exact h
  |err c=>rw[e1] at h;exact h σ H O j
  |ok d=>rw[e1] at h;exact fun v H' s r=>h v H' (j.same.trans s) (Rep.fewer j.thO0 r)
noncomputable def exprS (f:Rho→R D):Rho→So:=fun ρ=>ofR (f (thaw ρ)) ρ fun _=> .nx ρ
theorem ds_expr (he:DE X e f) (hs:swapsWith e none pos.line X.env=pure false:=by rfl):DS X (.Expr e pos) (exprS f):=by
  refine PS.imp (ps_expr he hs) fun σ H E h=>?_
  obtain⟨H0,O0,O,ρ,j,h⟩:=h
  refine⟨thaw ρ,thO ρ σ O,j.inn.thaw,?_⟩
  unfold exprS ofR at h
  cases e1:f (thaw ρ) with
  |bad=>rw[e1] at h;exact h
  |err c=>rw[e1] at h;exact h σ H O j
  |ok d=>rw[e1] at h;exact fun v H' s r=>h σ H' O (j.grow s) (Same.rch s)
noncomputable def asgS (f:Rho→R D) (gt:D→Rho→R Rho):Rho→So:=fun ρ=>ofR (f ρ) ρ fun d=>match gt d ρ with
  | .ok ρ'=> .nx ρ'
  |_=> .bad
theorem ds_set (i:Nat) {x:Str} {pos':Pos} (hN:X.N.Nodup) (he:DE X e f) (hi:X.N[i]?=some x:=by rfl) (hx:Loc X.env.scope x:=by first |exact Or.inl rfl |exact Or.inr rfl) (hs:swapsWith e (some (.Name x pos')) pos.line X.env=pure false:=by rfl)
    (hf:X.fn x=true∨X.env.scope.names.lookup x=some .local:=by first |exact .inl rfl |exact .inr rfl):DS X (.Assign [.Name x pos'] e pos) (asgS f (setV i)):=by
  refine PS.imp (ps_set hN hi hx he hs hf) fun σ H E h=>?_
  obtain⟨H0,O0,O,ρ,j,h⟩:=h
  refine⟨ρ,O,j.inn,?_⟩
  unfold asgS ofR at h
  cases e1:f ρ with
  |bad=>rw[e1] at h;exact h
  |err c=>rw[e1] at h;exact h σ H O j
  |ok d=>rw[e1] at h;exact fun v H' s r=>h _ H' O ((j.grow s).set (List.getElem?_eq_some_iff.mp hi).1 r) (Same.rch s)
theorem ds_asg2 (i k:Nat) {x y:Str} {px py pt:Pos} {kt} (hc:X.calm=true) (hN:X.N.Nodup) (he:DE X e f) (hi:X.N[i]?=some x:=by rfl) (hk:X.N[k]?=some y:=by rfl)
    (hx:Loc X.env.scope x:=by first |exact Or.inl rfl |exact Or.inr rfl) (hy:Loc X.env.scope y:=by first |exact Or.inl rfl |exact Or.inr rfl)
    (hfx:X.fn x=true∨X.env.scope.names.lookup x=some .local:=by first |exact .inl rfl |exact .inr rfl) (hfy:X.fn y=true∨X.env.scope.names.lookup y=some .local:=by first |exact .inl rfl |exact .inr rfl)
    (hs:swapsWithSole [.Tuple [.Name x px,.Name y py] kt pt] e pos.line X.env=pure false:=by rfl) (hw:swappedStores [.Tuple [.Name x px,.Name y py] kt pt] e X.env=pure none:=by rfl):
    DS X (.Assign [.Tuple [.Name x px,.Name y py] kt pt] e pos) (asgS f (tupG (lenG 2 (consG (setV i) (consG (setV k) nilG))))):=by
  refine PS.imp (ps_asg he (pg_tup hc (pgs_cons (pg_name hN hi hx hfx) (pgs_cons (pg_name hN hk hy hfy) pgs_nil))) hs hw) fun σ H E h=>?_
  obtain⟨H0,O0,O,ρ,j,h⟩:=h
  refine⟨ρ,O,j.inn,?_⟩
  unfold asgS ofR at h
  cases e1:f ρ with
  |bad=>rw[e1] at h;exact h
  |err c=>rw[e1] at h;exact h σ H O j
  | ok d=>
    rw[e1] at h
    intro v H' s r
    cases d with
    | tup ds=>
      match ds,h,r with
      |[],h,_=>exact h.elim
      |[_],h,_=>exact h.elim
      |_::_::_::_,h,_=>exact (show False by simpa[tupG,lenG,fol] using h).elim
      | [d1,d2],h,r=>
        obtain⟨a,xs,rfl,hq,rs⟩:=r.tup
        obtain⟨v1,v2,rfl,r1,r2⟩:=rs.two
        refine⟨a,[v1,v2],rfl,hq,rfl,v1,[v2],rfl,v2,[],rfl,rfl,?_⟩
        exact h _ H' O (((j.grow s).set (List.getElem?_eq_some_iff.mp hi).1 r1).set (List.getElem?_eq_some_iff.mp hk).1 r2) (Same.rch s)
    |_=>exact h.elim
noncomputable def ifS (p:Rho→R Bool) (g k:Rho→So):Rho→So:=fun ρ=>match p (thaw ρ) with
  | .ok true=>g ρ
  | .ok false=>k ρ
  | .err c=> .ex c ρ
  | .bad=> .bad
theorem tS_grow {g:Rho→So} {E:Ends} {H0 H H1:Hp} {O0 O:Addr→Prop} {ρ:Rho} {σ:St} (j:At X H0 O0 O H ρ σ) (s:Same H H1) (h:fol X H0 O0 O H E (g ρ)):tS X g E σ H1:=
  ⟨H0,O0,O,ρ,j.grow s,h.go (Same.rch s)⟩
theorem ds_if {c:Expr} {a b:List Stmt} (hc:DT X c p) (ha:DSs X a g) (hb:DSs X b k):DS X (.If c a b pos) (ifS p g k):=by
  refine PS.imp (ps_if hc ha hb) fun σ H E h=>?_
  obtain⟨H0,O0,O,ρ,j,h⟩:=h
  refine⟨thaw ρ,thO ρ σ O,j.inn.thaw,?_⟩
  unfold ifS at h
  cases e1:p (thaw ρ) with
  |bad=>rw[e1] at h;exact h
  |err c=>rw[e1] at h;exact h σ H O j
  | ok t=>
    rw[e1] at h
    intro b' H' s e
    subst e
    cases t with
    |true=>rw[if_pos rfl];exact tS_grow j s h
    |false=>rw[if_neg Bool.false_ne_true];exact tS_grow j s h
theorem ds_never:DS X st (fun _=> .bad):=fun pins s σ H E I h=>by
  obtain⟨_,_,_,_,_,h⟩:=h
  exact h.elim
noncomputable def forL (gt:D→Rho→R Rho) (b:Rho→So):List D→Rho→So
  |[],ρ=> .nx ρ
  | x ::xs,ρ=>match gt x ρ with
    | .ok ρ1=>match b ρ1 with
      | .nx ρ2=>forL gt b xs ρ2
      | .ct ρ2=>forL gt b xs ρ2
      | .bk ρ2=> .nx ρ2
      |o=>o
    |_=> .bad
noncomputable def forS (fi:Rho→R (List D)) (gt:D→Rho→R Rho) (b:Rho→So):Rho→So:=fun ρ=>match fi ρ with
  | .ok xs=>forL gt b xs ρ
  | .err c=> .ex c ρ
  | .bad=> .bad
inductive DGAp (X:Cx) (gt:D→Rho→R Rho) (v:V) (σ:St) (H:Hp) (Q:St→Hp→Prop):Prop
  |mk (H0:Hp) (O0 O:Addr→Prop) (ρ:Rho) (d:D) (ρ':Rho) (j:At X H0 O0 O H ρ σ) (r:Rep X.K O H d v) (e:gt d ρ= .ok ρ') (q:∀σ',At X H0 O0 O H ρ' σ'→Q σ' H):DGAp X gt v σ H Q
noncomputable def DGA (X:Cx) (tg:Expr) (gt:D→Rho→R Rho):Prop:=PG X tg fun v σ H Q=>DGAp X gt v σ H Q
theorem dga_name (i:Nat) {x:Str} (hN:X.N.Nodup) (hi:X.N[i]?=some x:=by rfl) (hx:Loc X.env.scope x:=by first |exact Or.inl rfl |exact Or.inr rfl) (hf:X.fn x=true∨X.env.scope.names.lookup x=some .local:=by first |exact .inl rfl |exact .inr rfl):DGA X (.Name x pos) (setV i):=by
  intro pins s σ H v u Q I r h
  obtain⟨H0,O0,O,ρ,d,ρ',j,rd,e,q⟩:=h
  cases e
  exact pg_name hN hi hx hf pins s σ H v u Q I r (q _ (j.set (List.getElem?_eq_some_iff.mp hi).1 rd))
theorem dga_two (i k:Nat) {x y:Str} {px py:Pos} {kt} (hc:X.calm=true) (hN:X.N.Nodup) (hi:X.N[i]?=some x:=by rfl) (hk:X.N[k]?=some y:=by rfl)
    (hx:Loc X.env.scope x:=by first |exact Or.inl rfl |exact Or.inr rfl) (hy:Loc X.env.scope y:=by first |exact Or.inl rfl |exact Or.inr rfl)
    (hfx:X.fn x=true∨X.env.scope.names.lookup x=some .local:=by first |exact .inl rfl |exact .inr rfl) (hfy:X.fn y=true∨X.env.scope.names.lookup y=some .local:=by first |exact .inl rfl |exact .inr rfl):
    DGA X (.Tuple [.Name x px,.Name y py] kt pos) (tupG (lenG 2 (consG (setV i) (consG (setV k) nilG)))):=by
  intro pins s σ H v u Q I r h
  obtain⟨H0,O0,O,ρ,d,ρ',j,rd,e,q⟩:=h
  cases d with
  | tup ds=>
    match ds,e,rd with
    |[],e,_=>cases e
    |[_],e,_=>cases e
    |_::_::_::_,e,_=>simp[tupG,lenG] at e
    | [d1,d2],e,rd=>
      obtain⟨a,xs,rfl,hq,rs⟩:=rd.tup
      obtain⟨v1,v2,rfl,r1,r2⟩:=rs.two
      cases e
      refine pg_tup hc (pgs_cons (pg_name hN hi hx hfx) (pgs_cons (pg_name hN hk hy hfy) pgs_nil)) rfl rfl pins s σ H _ u Q I r ⟨a,[v1,v2],rfl,hq,rfl,v1,[v2],rfl,v2,[],rfl,rfl,?_⟩
      exact q _ ((j.set (List.getElem?_eq_some_iff.mp hi).1 r1).set (List.getElem?_eq_some_iff.mp hk).1 r2)
  |_=>cases e
theorem ds_for {tg iter:Expr} {body:List Stmt} {fi:Rho→R (List D)} {gt:D→Rho→R Rho} {b:Rho→So} (hp:PassesOwn (model X.prog X.w) X.A X.env X.xe) (hc:X.calm=true) (hi:DI X tg iter fi) (hg:DGA X tg gt) (hb:DSs X body b)
    (hs:∀x,foldedSetIterable iter X.env x=pure x:=by intro _;rfl):DS X (.For tg iter body [] pos) (forS fi gt b):=by
  refine PS.imp (ps_for hp hc hi hg hb hs) fun σ H E h=>?_
  obtain⟨H0,O0,O,ρ,j,h⟩:=h
  refine⟨ρ,O,j.inn,?_⟩
  unfold forS at h
  cases e1:fi ρ with
  |bad=>rw[e1] at h;exact h
  |err c=>rw[e1] at h;exact h σ H O j
  | ok xs =>
    rw[e1] at h
    have h:fol X H0 O0 O H E (forL gt b xs ρ):=h
    intro J H1 s1 yr
    have j1:=j.grow s1
    have q1:Rch X.K O H O H1:=Same.rch s1
    refine⟨fun i m σ' H'=>∃O' ρ',At X H0 O0 O' H' ρ' σ'∧Rch X.K O H1 O' H'∧i≤xs.length∧m=xs.length - i∧forL gt b (xs.drop i) ρ'=forL gt b xs ρ,⟨_,O,ρ,j1,.refl,Nat.zero_le _,rfl,by simp⟩,?_⟩
    rintro i m σ' H' ⟨O',ρ',j',r',hil,rfl,hf⟩
    have yat:=yr O' H' r' i
    by_cases hlt:i < xs.length
    · have ed:xs.drop i=xs[i]::xs.drop (i+1):=List.drop_eq_getElem_cons hlt
      obtain⟨jgo,jy⟩:=yat.1 xs[i] (by simp[hlt])
      refine .inr ⟨jgo,fun σ2 H2=>∃O2 ρ2,At X H0 O0 O2 H2 ρ2 σ2∧Rch X.K O H1 O2 H2∧forL gt b (xs.drop (i+1)) ρ2=forL gt b xs ρ,?_,fun x H2 y=>?_⟩
      · rintro σ2 H2 ⟨O2,ρ2,j2,r2,hf2⟩
        exact⟨xs.length - (i+1),by omega,O2,ρ2,j2,r2,by omega,rfl,hf2⟩
      · obtain⟨sm,rep⟩:=jy x H2 y
        rw[ed] at hf
        have hf:(match gt xs[i] ρ' with
          | .ok ρ1=>match b ρ1 with
            | .nx ρ2=>forL gt b (xs.drop (i+1)) ρ2
            | .ct ρ2=>forL gt b (xs.drop (i+1)) ρ2
            | .bk ρ2=> .nx ρ2
            |o=>o
          |_=> .bad)=forL gt b xs ρ:=hf
        cases e2:gt xs[i] ρ' with
        |bad=>rw[e2] at hf;rw[←hf] at h;exact h.elim
        |err c=>rw[e2] at hf;rw[←hf] at h;exact h.elim
        | ok ρ1=>
          rw[e2] at hf
          refine⟨H0,O0,O',ρ',xs[i],ρ1,j'.grow sm,rep,e2,fun σ3 j3=>?_⟩
          refine⟨H0,O0,O',ρ1,j3,?_⟩
          have r3:Rch X.K O H1 O' H2:=r'.trans (Same.rch sm)
          have hf:(match b ρ1 with
            | .nx ρ2=>forL gt b (xs.drop (i+1)) ρ2
            | .ct ρ2=>forL gt b (xs.drop (i+1)) ρ2
            | .bk ρ2=> .nx ρ2
            |o=>o)=forL gt b xs ρ:=hf
          cases e3:b ρ1 with
          |bad=>rw[e3] at hf;rw[←hf] at h;exact h
          |rt d=>rw[e3] at hf;rw[←hf] at h;exact h
          |ex c ρ2=>rw[e3] at hf;rw[←hf] at h;exact h
          |bk ρ2=>rw[e3] at hf;rw[←hf] at h;exact fun σ4 H4 O4 j4 r4=>h σ4 H4 O4 j4 (q1.trans (r3.trans r4))
          |nx ρ2=>rw[e3] at hf;exact fun σ4 H4 O4 j4 r4=>⟨O4,ρ2,j4,r3.trans r4,hf⟩
          |ct ρ2=>rw[e3] at hf;exact fun σ4 H4 O4 j4 r4=>⟨O4,ρ2,j4,r3.trans r4,hf⟩
    · have ei:i=xs.length:=by omega
      subst ei
      have hf:forL gt b (xs.drop xs.length) ρ'=forL gt b xs ρ:=hf
      rw[List.drop_length] at hf
      rw[←hf] at h
      exact .inl ⟨yat.2 (Nat.le_refl _),h σ' H' O' j' (q1.trans r')⟩
noncomputable def whS (p:Rho→R Bool) (b:Rho→So):Nat→Rho→So
  |0,_=> .bad
  | n +1,ρ=>match p (thaw ρ) with
    | .ok true=>match b ρ with
      | .nx ρ'=>whS p b n ρ'
      | .ct ρ'=>whS p b n ρ'
      | .bk ρ'=> .nx ρ'
      |o=>o
    | .ok false=> .nx ρ
    | .err c=> .ex c ρ
    | .bad=> .bad
theorem ds_while (n:Nat) {c:Expr} {body:List Stmt} {b:Rho→So} (hp:PassesOwn (model X.prog X.w) X.A X.env X.xe) (hc:DT X c p) (hb:DSs X body b):DS X (.While c body [] pos) (whS p b n):=by
  refine PS.imp (ps_while hp hc hb) fun σ H E h=>?_
  obtain⟨H0,O0,O,ρ,j,h⟩:=h
  have h:fol X H0 O0 O H E (whS p b n ρ):=h
  refine⟨fun m σ' H'=>∃O' ρ',At X H0 O0 O' H' ρ' σ'∧Rch X.K O H O' H'∧whS p b m ρ'=whS p b n ρ,⟨n,O,ρ,j,.refl,rfl⟩,?_⟩
  rintro m σ' H' ⟨O',ρ',j',r',hf⟩
  refine⟨thaw ρ',thO ρ' σ' O',j'.inn.thaw,?_⟩
  cases m with
  |zero=>rw[←hf] at h;exact h.elim
  | succ m =>
    have hf:(match p (thaw ρ') with
      | .ok true=>match b ρ' with
        | .nx ρ'=>whS p b m ρ'
        | .ct ρ'=>whS p b m ρ'
        | .bk ρ'=> .nx ρ'
        |o=>o
      | .ok false=> .nx ρ'
      | .err c=> .ex c ρ'
      | .bad=> .bad)=whS p b n ρ:=hf
    cases e1:p (thaw ρ') with
    |bad=>rw[e1] at hf;rw[←hf] at h;exact h
    |err c=>rw[e1] at hf;rw[←hf] at h;exact h σ' H' O' j'
    | ok t =>
      rw[e1] at hf
      intro t' H1 s1 e
      subst e
      have j1:=j'.grow s1
      have r1:Rch X.K O H O' H1:=r'.trans (Same.rch s1)
      cases t with
      | false=>
        rw[if_neg Bool.false_ne_true]
        rw[←hf] at h
        exact h σ' H1 O' j1 r1
      | true=>
        rw[if_pos rfl]
        refine⟨fun σ2 H2=>∃O2 ρ2,At X H0 O0 O2 H2 ρ2 σ2∧Rch X.K O H O2 H2∧whS p b m ρ2=whS p b n ρ,?_,H0,O0,O',ρ',j1,?_⟩
        · rintro σ2 H2 ⟨O2,ρ2,j2,r2,hf2⟩
          exact⟨m,by omega,O2,ρ2,j2,r2,hf2⟩
        · have hf:(match b ρ' with
            | .nx ρ'=>whS p b m ρ'
            | .ct ρ'=>whS p b m ρ'
            | .bk ρ'=> .nx ρ'
            |o=>o)=whS p b n ρ:=hf
          cases e3:b ρ' with
          |bad=>rw[e3] at hf;rw[←hf] at h;exact h
          |rt d=>rw[e3] at hf;rw[←hf] at h;exact h
          |ex c ρ2=>rw[e3] at hf;rw[←hf] at h;exact h
          |bk ρ2=>rw[e3] at hf;rw[←hf] at h;exact fun σ4 H4 O4 j4 r4=>h σ4 H4 O4 j4 (r1.trans r4)
          |nx ρ2=>rw[e3] at hf;exact fun σ4 H4 O4 j4 r4=>⟨O4,ρ2,j4,r1.trans r4,hf⟩
          |ct ρ2=>rw[e3] at hf;exact fun σ4 H4 O4 j4 r4=>⟨O4,ρ2,j4,r1.trans r4,hf⟩
end
end Pu
namespace Pu
open PySem PySem.Spec L2
open PyProof.Rows hiding St
section
variable {X:Cx} {a b e:Expr} {es:List Expr} {f g:Rho→R D} {fa:Rho→R (List D)} {pos:Pos}
noncomputable def tLstK (K:PySem.W.Frag) (t:TA):TE:=fun σ H Q=>t σ H fun xs H1=>xs.length≤sizeLine∧∀p,H1 p=none→K.lookup p=none→Q (.ref p) (upd H1 p (.lst xs))
theorem Inv.newK {pins:List (Addr×Obj)} {σ:St} {H:Hp} {s:Shared} (I:Inv X pins σ H s):X.K.lookup s.heap.objs.size=none:=by
  cases q:X.K.lookup s.heap.objs.size with
  |none=>rfl
  |some o=>exact absurd (Heap.lt_size (I.kIn _ _ q)) (Nat.lt_irrefl _)
theorem pe_lstK {t:TA} (h:PA X es t):PE X (.List es pos) (tLstK X.K t):=by
  intro pins s σ H Q I hq
  refine wpAny_List_spliced (thn (h pos pins s σ H _ I hq) fun us s1 ⟨xs,H1,I1,r,z,q⟩=>⟨by rw[←r.length];exact z,?_⟩)
  have hf:H1 s1.heap.objs.size=none:=I1.hok.fresh (Nat.le_refl _)
  refine⟨.ref s1.heap.objs.size,upd H1 s1.heap.objs.size (.lst xs),I1.laid (t':=s1.toks) (fun b u e=>Heap.get?_push_of_some _ e) (Nat.le_refl _) ?_,rfl,q _ hf (Inv.newK I1)⟩
  exact⟨z,us,0,r,Heap.get?_push_size _ rfl⟩
noncomputable def newL (fa:Rho→R (List D)) (i:Nat):Rho→So:=fun ρ=>match fa ρ with
  | .ok ds=>if ds.length≤1000000 then .nx (ρ.set i (some (.lst ds))) else .bad
  | .err c=> .ex c ρ
  | .bad=> .bad
theorem At.own {H0 H:Hp} {O0 O:Addr→Prop} {ρ:Rho} {σ:St} (j:At X H0 O0 O H ρ σ) {i:Nat} (hi:i < X.N.length) {p:Addr} {o:HO} {en:Ent} (hp:H p=none) (hk:X.K.lookup p=none) (ho:en.own=true)
    (hr:RepE X.K (fun a=>O a∨a=p) (upd H p o) en (.ref p)):
    At X H0 O0 (fun a=>O a∨a=p) (upd H p o) (ρ.set i (some en)) (σ.set i (some (.ref p)))∧Rch X.K O H (fun a=>O a∨a=p) (upd H p o):=by
  have s1:Same H (upd H p o):=Same.upd hp
  have r1:Rch X.K O H (fun a=>O a∨a=p) (upd H p o):=⟨(Same.rch (K:=X.K) (O:=O) s1).ext,fun a z=>z.elim .inl fun e=> .inr (by rw[e];exact⟨hp,hk⟩),(Same.rch (K:=X.K) (O:=O) s1).dom⟩
  have h1:i < ρ.length:=by rw[j.inn.lenR];exact hi
  have h2:i < σ.length:=by rw[j.inn.len];exact hi
  have nOp:¬O p:=j.inn.notO hp
  have old:∀{e:Ent} {v:V},RepE X.K O H e v→RepE X.K (fun a=>O a∨a=p) (upd H p o) e v∧(e.own=true→v≠.ref p):=fun {e v} h=>by
    cases e with
    |val d=>exact⟨Rep.go r1 h,fun z=>by cases z⟩
    | lst ds=>
      obtain⟨a,xs,e1,o1,e2,r⟩:=h
      exact⟨⟨a,xs,e1,.inl o1,s1 _ _ e2,r.go r1⟩,fun _ z=>by rw[e1] at z;cases z;exact nOp o1⟩
    |obj t=>exact⟨RepO.same s1 h,fun z=>by cases z⟩
    | dic kvs=>
      obtain⟨a,xs,e1,o1,e2,k,r⟩:=h
      exact⟨⟨a,xs,e1,.inl o1,s1 _ _ e2,k,r.go r1⟩,fun _ z=>by rw[e1] at z;cases z;exact nOp o1⟩
  refine⟨⟨j.same.trans s1,j.rch.trans r1,fun a z=> .inl (j.sub a z),⟨⟨fun k e h=>?_,fun k l e e' v hkl hk' hl ok ol sk sl=>?_⟩,fun a z=>?_,by rw[List.length_set];exact j.inn.len,by rw[List.length_set];exact j.inn.lenR⟩,fun k e a h hoo hs=>?_⟩,r1⟩
  · by_cases hki:k=i
    · subst hki
      rw[List.getElem?_set_self h1] at h
      cases h
      exact⟨.ref p,List.getElem?_set_self h2,hr⟩
    · rw[List.getElem?_set_ne (Ne.symm hki)] at h
      obtain⟨v,q1,q2⟩:=j.inn.env.get k e h
      exact⟨v,by rw[List.getElem?_set_ne (Ne.symm hki)];exact q1,(old q2).1⟩
  · by_cases hki:k=i
    · subst hki
      rw[List.getElem?_set_self h2] at sk
      cases sk
      rw[List.getElem?_set_ne hkl] at hl sl
      obtain⟨v,q1,q2⟩:=j.inn.env.get l e' hl
      rw[q1] at sl
      cases sl
      exact (old q2).2 ol rfl
    · rw[List.getElem?_set_ne (Ne.symm hki)] at hk' sk
      by_cases hli:l=i
      · subst hli
        rw[List.getElem?_set_self h2] at sl
        cases sl
        obtain⟨v,q1,q2⟩:=j.inn.env.get k e hk'
        rw[q1] at sk
        cases sk
        exact (old q2).2 ok rfl
      · rw[List.getElem?_set_ne (Ne.symm hli)] at hl sl
        exact j.inn.env.sep k l e e' v hkl hk' hl ok ol sk sl
  · rcases z with z |z
    · obtain⟨u,q⟩:=j.inn.al a z
      exact⟨u,s1 _ _ q⟩
    · rw[z];exact⟨o,upd_same⟩
  · by_cases hki:k=i
    · subst hki
      rw[List.getElem?_set_self h2] at hs
      cases hs
      exact⟨j.same.free hp,fun z=>nOp (j.sub _ z)⟩
    · rw[List.getElem?_set_ne (Ne.symm hki)] at h hs
      exact j.mine k e a h hoo hs
theorem ds_newl (i:Nat) {x:Str} {pos' p2:Pos} (hN:X.N.Nodup) (ha:DA X es fa) (hi:X.N[i]?=some x:=by rfl) (hx:Loc X.env.scope x:=by first |exact Or.inl rfl |exact Or.inr rfl) (hs:swapsWith (.List es p2) (some (.Name x pos')) pos.line X.env=pure false:=by rfl)
    (hf:X.fn x=true∨X.env.scope.names.lookup x=some .local:=by first |exact .inl rfl |exact .inr rfl):DS X (.Assign [.Name x pos'] (.List es p2) pos) (newL fa i):=by
  refine PS.imp (ps_set hN hi hx (pe_lstK ha) hs hf) fun σ H E h=>?_
  obtain⟨H0,O0,O,ρ,j,h⟩:=h
  refine⟨ρ,O,j.inn,?_⟩
  unfold newL at h
  cases e1:fa ρ with
  |bad=>rw[e1] at h;exact h
  |err c=>rw[e1] at h;exact h σ H O j
  | ok ds=>
    rw[e1] at h
    intro vs H1 s1 r1
    by_cases hl:ds.length≤1000000
    · simp only[if_pos hl] at h
      refine⟨by rw[←r1.length];exact Nat.le_trans hl sizeLine_ge,fun p hp hk=>?_⟩
      obtain⟨j2,r2⟩:=(j.grow s1).own (List.getElem?_eq_some_iff.mp hi).1 (o:= .lst vs) (en:= .lst ds) hp hk rfl ⟨p,vs,rfl,.inr rfl,upd_same,r1.go ⟨(Same.rch (K:=X.K) (O:=O) (Same.upd hp)).ext,fun a z=>z.elim .inl fun e=> .inr (by rw[e];exact⟨hp,hk⟩),(Same.rch (K:=X.K) (O:=O) (Same.upd hp)).dom⟩⟩
      exact h _ _ _ j2 ((Same.rch s1).trans r2)
    · simp only[if_neg hl] at h
      exact h.elim
theorem At.chg {H0 H:Hp} {O0 O:Addr→Prop} {ρ:Rho} {σ:St} (j:At X H0 O0 O H ρ σ) {i:Nat} {e0 en:Ent} {p:Addr} {u o:HO} (hi:ρ[i]?=some (some e0)) (h0:e0.own=true) (hp:σ[i]?=some (some (.ref p))) (hO:O p) (hu:H p=some u) (hm:Mut (some u)) (ho:en.own=true)
    (hr:Rch X.K O H O (upd H p o)→RepE X.K O (upd H p o) en (.ref p)):At X H0 O0 O (upd H p o) (ρ.set i (some en)) σ∧Rch X.K O H O (upd H p o):=by
  have nt:∀b xs,Rd H b (.tup xs)→b≠p:=fun b xs h z=>by
    subst z
    rcases h with h |⟨_,h⟩ <;> rw[hu] at h <;> cases h <;> exact hm
  have r1:Rch X.K O H O (upd H p o):=by
    refine⟨⟨fun b xs h=>?_,fun b xs n h=>?_⟩,fun a z=> .inl z,fun a z=>?_⟩
    · have nb:=nt b xs h
      rcases h with h |⟨q,h⟩
      · exact .inl (by rw[upd_ne nb];exact h)
      · exact .inr ⟨q,by rw[upd_ne nb];exact h⟩
    · have nb:b≠p:=fun z=>n (by rw[z];exact hO)
      rcases h with h |⟨q,h⟩
      · exact .inl (by rw[upd_ne nb];exact h)
      · exact .inr ⟨q,by rw[upd_ne nb];exact h⟩
    · by_cases ea:a=p
      · rw[ea,upd_same] at z;cases z
      · rw[upd_ne ea] at z;exact z
  have h1:i < ρ.length:=(List.getElem?_eq_some_iff.mp hi).1
  obtain⟨hH0,hO0⟩:=j.mine i e0 p hi h0 hp
  refine⟨⟨fun b q z=>?_,j.rch.trans r1,j.sub,⟨⟨fun k e h=>?_,fun k l e e' v hkl hk' hl ok ol sk sl=>?_⟩,fun a z=>?_,j.inn.len,by rw[List.length_set];exact j.inn.lenR⟩,fun k e a h hoo hs=>?_⟩,r1⟩
  · rw[upd_ne (ne_of_none z hH0)];exact j.same _ _ z
  · by_cases hki:k=i
    · subst hki
      rw[List.getElem?_set_self h1] at h
      cases h
      exact⟨_,hp,hr r1⟩
    · rw [List.getElem?_set_ne (Ne.symm hki)] at h
      obtain⟨v,q1,q2⟩:=j.inn.env.get k e h
      refine⟨v,q1,?_⟩
      have nv:e.own=true→v≠.ref p:=fun z w=>by
        subst w
        exact j.inn.env.sep k i e e0 _ hki h hi z h0 q1 hp
      cases e with
      |val d=>exact Rep.go r1 q2
      | obj t=>exact RepO.fz (fun b o' u hb=>by
          have nb:b≠p:=fun z=>by rw[z,hu] at hb;cases hb;exact hm
          rw[upd_ne nb];exact hb) q2
      | lst ds=>
        obtain⟨a,xs,e1,o1,e2,r⟩:=q2
        have na:a≠p:=fun z=>nv rfl (by rw[e1,z])
        exact⟨a,xs,e1,o1,by rw[upd_ne na];exact e2,r.go r1⟩
      | dic kvs=>
        obtain⟨a,xs,e1,o1,e2,kk,r⟩:=q2
        have na:a≠p:=fun z=>nv rfl (by rw[e1,z])
        exact⟨a,xs,e1,o1,by rw[upd_ne na];exact e2,kk,r.go r1⟩
  · have un:∀{m:Nat} {x:Ent},(ρ.set i (some en))[m]?=some (some x)→x.own=true→∃y,ρ[m]?=some (some y)∧y.own=true:=fun {m x} h ho'=>by
      by_cases hmi:m=i
      · rw[hmi];exact⟨e0,hi,h0⟩
      · rw[List.getElem?_set_ne (Ne.symm hmi)] at h;exact⟨x,h,ho'⟩
    obtain⟨y,hy,oy⟩:=un hk' ok
    obtain⟨y',hy',oy'⟩:=un hl ol
    exact j.inn.env.sep k l y y' v hkl hy hy' oy oy' sk sl
  · by_cases ea:a=p
    · rw[ea];exact⟨o,upd_same⟩
    · obtain⟨w,q⟩:=j.inn.al a z
      exact⟨w,by rw[upd_ne ea];exact q⟩
  · by_cases hki:k=i
    · subst hki
      rw[hp] at hs;cases hs
      exact⟨hH0,hO0⟩
    · rw[List.getElem?_set_ne (Ne.symm hki)] at h
      exact j.mine k e a h hoo hs
noncomputable def appS (i:Nat) (f:Rho→R D):Rho→So:=fun ρ=>ofR (noE (f ρ)) ρ fun d=>match ρ[i]? with
  |some (some (.lst ds))=>if ds.length < 1000000 then .nx (ρ.set i (some (.lst (ds++[d])))) else .bad
  |_=> .bad
theorem ds_app (i:Nat) {x:Str} {px apos cpos:Pos} (he:DE X e f) (hN:X.N[i]?=some x:=by rfl) (hv:Vis X.env.scope x:=by first |exact Or.inl rfl |exact Or.inr (Or.inl rfl) |exact Or.inr (Or.inr rfl))
    (hd:(x ==("__debug__" :Str))=false:=by decide) (hcd:(x ==("__classdict__" :Str))=false:=by decide)
    (hbase:attributeBase (.Name x px) "append" X.env (eval (.Name x px) X.env)=eval (.Name x px) X.env:=by rfl)
    (hfew:((backTo cpos (starEach [e] X.env)).all (fun x=> !x.1) && (backToKw cpos (keywordEach [] X.env)).all (fun x=>x.1.isSome)
      && decide ([e].length+([]:List Keyword).length+(if ([]:List Keyword).isEmpty then 0 else 1) < 30))=true:=by rfl)
    (hline:(apos.endLine ==cpos.line)=true:=by rfl) (hs1:starEach [e] X.env=(false,eval e X.env)::starEach [] X.env:=by rfl) (hplain:(backTo cpos (starEach [] X.env)).any (·.1)=false:=by rfl)
    (hs:swapsWith (.Call (.Attribute (.Name x px) "append" apos) [e] [] cpos) none pos.line X.env=pure false:=by rfl):
    DS X (.Expr (.Call (.Attribute (.Name x px) "append" apos) [e] [] cpos) pos) (appS i f):=by
  refine PS.imp (ps_expr (pe_bm PySem.F.plainAttrs_list PySem.F.slot_list_append PySem.F.type_list_append mt_append (pe_var hN hv hd hcd) (pa_cons he pa_nil hs1) hbase hfew hline hs1 hplain) hs) fun σ H E h=>?_
  obtain⟨H0,O0,O,ρ,j,h⟩:=h
  unfold appS ofR at h
  cases e1:f ρ with
  |bad=>rw[e1] at h;exact h.elim
  |err c=>rw[e1] at h;exact h.elim
  | ok d =>
    rw[e1] at h
    cases e2:ρ[i]? with
    |none=>simp only[e2] at h;exact h.elim
    | some oe=>
      cases oe with
      |none=>simp only[e2] at h;exact h.elim
      | some en=>
        cases en with
        |val _=>simp only[e2] at h;exact h.elim
        |dic _=>simp only[e2] at h;exact h.elim
        |obj _=>simp only[e2] at h;exact h.elim
        | lst ds=>
          simp only[e2] at h
          by_cases hl:ds.length < 1000000
          · simp only[if_pos hl] at h
            obtain⟨v,hv1,a,xs,rfl,hO,hH,rs⟩:=j.inn.env.get i _ e2
            refine⟨.ref a,hv1,.inl ⟨rfl,xs,SqL.of hH⟩,?_⟩
            refine⟨ρ,O,j.inn,?_⟩
            rw[e1]
            intro w H1 s1 rw1
            have j1:=j.grow s1
            obtain⟨_,hv2,a2,xs2,e3,hO2,hH2,rs2⟩:=j1.inn.env.get i _ e2
            rw[hv1] at hv2
            cases hv2
            cases e3
            have hlen:=rs2.length
            refine⟨a,xs2,w,rfl,rfl,hH2,by have:=sizeLine_gt;omega,?_⟩
            obtain⟨j2,r2⟩:=j1.chg (o:= .lst (xs2++[w])) (en:= .lst (ds++[d])) e2 rfl hv1 hO2 hH2 trivial rfl fun r=>⟨a,xs2++[w],rfl,hO2,upd_same,(rs2.append (.cons rw1 .nil)).go r⟩
            exact h _ _ _ j2 ((Same.rch s1).trans r2)
          · simp only[if_neg hl] at h;exact h.elim
end
inductive SpD (K:PySem.W.Frag) (n:Nat) (F:List D→R D) (vs:List V) (H:Hp) (Q:VK):Prop
  | mk (O:Addr→Prop) (ds:List D) (r:Reps K O H ds vs) (hl:ds.length=n) (al:∀a,O a→∃o,H a=some o) (h:match F ds with
    | .ok d=>∀v H',Same H H'→Rep K O H' d v→Q v H'
    |_=>False):SpD K n F vs H Q
noncomputable def spD (K:PySem.W.Frag) (n:Nat) (F:List D→R D):Sp:=fun vs H Q _=>SpD K n F vs H Q
noncomputable def runB (n:Nat) (g:Rho→So) (ds:List D):R D:=match g (ds.map (fun d=>some (.val d))++List.replicate n none) with
  | .rt d=> .ok d
  | .nx _=> .ok .non
  | .ex c _=> .err c
  |_=> .bad
section
variable {P:Program} {w:World} {K:PySem.W.Frag} {mg:Str→Option Value} {base:Heap}
theorem map_rep {K:PySem.W.Frag} {O:Addr→Prop} {H:Hp} {ds:List D} {vs:List V} (r:Reps K O H ds vs) (m:Nat) (i:Nat) (e:Ent) (h:(ds.map (fun d=>some (Ent.val d))++List.replicate m none)[i]?=some (some e)):∃v,(vs.map some++List.replicate m none)[i]?=some (some v)∧RepE K O H e v∧e.own=false:=by
  by_cases hi:i < ds.length
  · rw[List.getElem?_append_left (by simpa using hi),List.getElem?_map] at h
    cases q:ds[i]? with
    |none=>rw[q] at h;cases h
    | some d=>
      rw[q] at h
      cases h
      obtain⟨v,e1,rv⟩:=r.get q
      exact⟨v,by rw[List.getElem?_append_left (by rw[List.length_map,←r.length];exact hi),List.getElem?_map,e1];rfl,rv,rfl⟩
  · rw[List.getElem?_append_right (by simpa using hi),List.getElem?_replicate] at h
    split at h <;> cases h
theorem fnD {x qual:Str} {st:Stmt} {f:Addr} {fd:FuncData} {N ps:List Str} {k n m:Nat} {g:Rho→So} {F:List D→R D} (Fn:Fun K x qual st f fd) (S:FnScope N ps (defScope st)) (hn:ps.length=n) (hm:N.length=n+m)
    (hb:∀(cdv:Value) (A:Around) (outer:List PySem.Env) (s:Shared) (H:Hp) (E:XK),Room k (A.deeper (envOfC qual (defScope st) s.heap.objs.size f cdv))→DSs (cxOf CX0 P w K mg base N qual (defScope st) f cdv A outer s H E).nox (defBody st) g)
    (hF:∀ds d,ds.length=n→F ds= .ok d→runB m g ds= .ok d):FnOk P w K mg base CX0 (k+1) f fd ps (spD K n F):=by
  refine Fn.ok S (fun vs H Q E h=>?_) (fun cdv A outer s H vs Q E hr h=>?_)
  · obtain⟨O,ds,r,hl,_⟩:=h
    rw[hn,←hl,r.length]
  · obtain⟨O,ds,r,hl,al,h⟩:=h
    refine⟨_,hb cdv A outer s H E hr,H,O,O,ds.map (fun d=>some (.val d))++List.replicate m none,?_,?_⟩
    · have hst:L2.start N vs=vs.map some++List.replicate m none:=by
        unfold L2.start
        rw[show N.length - vs.length=m by rw[←r.length];omega]
      refine⟨Same.refl _,.refl,fun _ z=>z,⟨⟨fun i e q=>?_,fun i k e e' v _ hi _ oi=>?_⟩,al,?_,?_⟩,fun i e a q ho=>?_⟩
      · obtain⟨v,h1,h2,_⟩:=map_rep r m i e q
        exact⟨v,by rw[hst];exact h1,h2⟩
      · obtain⟨_,_,_,h3⟩:=map_rep r m i e hi
        rw[h3] at oi;cases oi
      · show (L2.start N vs).length=N.length
        rw[hst,List.length_append,List.length_map,List.length_replicate,←r.length];omega
      · show (ds.map (fun d=>some (Ent.val d))++List.replicate m none).length=N.length
        rw[List.length_append,List.length_map,List.length_replicate];omega
      · obtain⟨_,_,_,h3⟩:=map_rep r m i e q
        rw[h3] at ho;cases ho
    · cases e:F ds with
      |bad=>rw[e] at h;exact h.elim
      |err c=>rw[e] at h;exact h.elim
      | ok d=>
        rw[e] at h
        have q:=hF ds d hl e
        unfold runB at q
        cases e2:g (ds.map (fun d=>some (.val d))++List.replicate m none) with
        | rt d'=>
          rw[e2] at q
          cases q
          exact fun v H' s' r'=>h v H' s' r'
        | nx ρ'=>
          rw[e2] at q
          cases q
          exact fun σ' H' O' j' _=>h .non H' j'.same rep_non
        |bk _=>rw[e2] at q;cases q
        |ct _=>rw[e2] at q;cases q
        |ex _ _=>rw[e2] at q;cases q
        |bad=>rw[e2] at q;cases q
end
section
variable {X:Cx} {k n:Nat} {f:Addr} {fd:FuncData} {ps:List Str} {F:List D→R D} {x:Str} {p pos:Pos} {e:Expr} {es:List Expr} {fa:Rho→R (List D)}
noncomputable def noErr (F:List D→R D) (n:Nat) (ds:List D):R D:=if ds.length=n then noE (F ds) else .bad
theorem de_call (G:FnOk X.prog X.w X.K X.mg X.base CX0 k f fd ps (spD X.K n F)) (hr:Room k X.A) (hg:Gl X x) (hm:X.mg x=some (.ref f)) (hk:PySem.W.keepIn X.K (.ref f)=true) (hb:Binds X.K fd ps [])
    (ha:DA X (e::es) fa) (hdb:(x ==("__debug__" :Str))=false:=by decide) (he:starEach (e::es) X.env=(false,eval e X.env)::starEach es X.env:=by rfl) (hpl:(backTo pos (starEach es X.env)).any (·.1)=false:=by rfl):
    DE X (.Call (.Name x p) (e::es) [] pos) (callV (noErr F n) fa):=by
  refine PE.imp (pe_call (dvs:=[]) G hr hg hm hk hb .nil pass0 ha hdb he hpl) fun σ H Q h=>?_
  obtain⟨ρ,O,j,h⟩:=h
  refine go j h fun ds vs H1 e1 s1 r1 j1 h1=>?_
  unfold noErr at h1
  by_cases hl:ds.length=n
  · rw[if_pos hl] at h1
    rw[List.append_nil]
    refine⟨O,ds,r1,hl,j1.al,?_⟩
    cases q:F ds with
    |ok d=>rw[q] at h1;exact h1
    |err c=>rw[q] at h1;exact h1
    |bad=>rw[q] at h1;exact h1
  · rw[if_neg hl] at h1;exact h1.elim
end
end Pu
namespace Pu
open PySem PySem.Spec L2
open PyProof.Rows hiding St
section
variable {X:Cx}
noncomputable def lenD:List D→R D
  |[.tup ds]=> .ok (.int ds.length)
  |[.lst ds]=> .ok (.int ds.length)
  |_=> .bad
theorem cd_len:CallD X (.builtin "len") lenD:=by
  refine⟨_,call_len_seq,fun ρ O σ H Q xs ds j r h=>?_⟩
  unfold lenD at h
  split at h
  · obtain⟨x,rfl,rx⟩:=r.one
    obtain⟨a,ys,rfl,hq,rs⟩:=rx.tup
    exact⟨a,ys,rfl,.inr hq,by rw[←rs.length];exact fin h (rep_int _)⟩
  · obtain⟨x,rfl,rx⟩:=r.one
    obtain⟨a,ys,rfl,hq,_,rs⟩:=rx.lst
    exact⟨a,ys,rfl,.inl hq,by rw[←rs.length];exact fin h (rep_int _)⟩
  · exact h.elim
noncomputable def tupD:List D→R D
  |[.tup ds]=> .ok (.tup ds)
  |[.lst ds]=> .ok (.tup ds)
  |_=> .bad
theorem cd_tuple:CallD X (.type "tuple") tupD:=by
  refine⟨_,call_tuple_of,fun ρ O σ H Q xs ds j r h=>?_⟩
  unfold tupD at h
  split at h
  · obtain⟨x,rfl,rx⟩:=r.one
    obtain⟨a,ys,rfl,hq,rs⟩:=rx.tup
    exact⟨a,ys,rfl,.inr ⟨hq,fin h (rep_tup hq rs)⟩⟩
  · obtain⟨x,rfl,rx⟩:=r.one
    obtain⟨a,ys,rfl,hq,_,rs⟩:=rx.lst
    exact⟨a,ys,rfl,.inl ⟨hq,fun l hl=>h _ _ (Same.upd hl) (Rep.new_tup hl rs)⟩⟩
  · exact h.elim
noncomputable def boolsOf:List D→Option (List Bool)
  |[]=>some []
  | .bl b::r=>(boolsOf r).map (b:: ·)
  |_=>none
noncomputable def intsOf:List D→Option (List Int)
  |[]=>some []
  | .int i::r=>(intsOf r).map (i:: ·)
  |_=>none
theorem bools_V {K:PySem.W.Frag} {O:Addr→Prop} {H:Hp}:∀{ds:List D} {bs:List Bool} {vs:List V},boolsOf ds=some bs→Reps K O H ds vs→vs=bs.map V.bl
  |[],bs,vs,e,r=>by cases e;exact r.nil_inv
  | d ::ds,bs,vs,e,r=>by
    cases d with
    | bl b=>
      have e:(boolsOf ds).map (b:: ·)=some bs:=e
      cases q:boolsOf ds with
      |none=>rw[q] at e;cases e
      | some l=>
        rw[q] at e
        cases e
        obtain⟨x,t,rfl,rx,rt⟩:=r.cons_inv
        rw[rx.bl,bools_V q rt];rfl
    |_=>cases e
theorem ints_V {K:PySem.W.Frag} {O:Addr→Prop} {H:Hp}:∀{ds:List D} {bs:List Int} {vs:List V},intsOf ds=some bs→Reps K O H ds vs→vs=bs.map V.int
  |[],bs,vs,e,r=>by cases e;exact r.nil_inv
  | d ::ds,bs,vs,e,r=>by
    cases d with
    | int b=>
      have e:(intsOf ds).map (b:: ·)=some bs:=e
      cases q:intsOf ds with
      |none=>rw[q] at e;cases e
      | some l=>
        rw[q] at e
        cases e
        obtain⟨x,t,rfl,rx,rt⟩:=r.cons_inv
        rw[rx.int,ints_V q rt];rfl
    |_=>cases e
theorem boolsAre:∀{bs:List Bool} {us:List Value},Vals (bs.map V.bl) us→LSm.BoolsAre us bs
  |[],_,.nil=> .nil
  |b::bs,_,.cons r t=>by cases r;exact .cons b (boolsAre t)
theorem call_allB (hc:X.calm=true):CallR X (.builtin "all") (fun xs H Q=>∃p,∃bs:List Bool,xs=[.ref p]∧SqL X.K H p (bs.map V.bl)∧Q (.bl (bs.all id)) H):=by
  intro pins s σ H xs us Q I r h
  obtain⟨p,bs,rfl,hq,q⟩:=h
  obtain⟨u,rfl,rx⟩:=vals1 r
  cases rx
  obtain⟨its,r',pl,hz⟩:=I.list hq
  have hb:=boolsAre r'
  have hl:=pl.isList
  have hlt:p < s.heap.objs.size:=by obtain⟨_,e,_⟩:=hl;exact Heap.lt_size e
  refine call_all_walk (wpAny_pyIter_list hl ?_)
  refine⟨s.heap.objs.size,[s.heap.objs.size,p],[s.heap.objs.size],its.toArray.size,_,_,fun i=>(bs[i]?).getD true,rfl,Walks.list (A:=X.A.in1) (I.ok.hd hc) _ p (Nat.ne_of_lt hlt) its.toArray,
    ⟨⟨_,Heap.get?_push_size _ rfl,rfl,rfl⟩,hl.push _⟩,fun i v s' Q' E' hP hQ=>?_,fun h' tk hk=>?_⟩
  · obtain⟨b,e,rfl⟩:=hb.get i v (by simpa using hP)
    simp only[e,Option.getD_some] at hQ
    exact wpAny_truthy_bool hQ
  · have e:((List.range its.toArray.size).all fun i=>(bs[i]?).getD true)=bs.all id:=by
      rw[List.size_toArray,hb.length];exact LSm.range_all bs
    rw[e]
    exact⟨.bl _,H,I.kept (LSm.kept_iter hk),rfl,q⟩
noncomputable def allD:List D→R D
  | [.lst ds]=>match boolsOf ds with
    |some bs=> .ok (.bl (bs.all id))
    |none=> .bad
  |_=> .bad
theorem cd_all (hc:X.calm=true):CallD X (.builtin "all") allD:=by
  refine⟨_,call_allB hc,fun ρ O σ H Q xs ds j r h=>?_⟩
  unfold allD at h
  split at h
  · rename_i ds
    obtain⟨x,rfl,rx⟩:=r.one
    obtain⟨a,ys,rfl,hq,_,rs⟩:=rx.lst
    cases e:boolsOf ds with
    |none=>rw[e] at h;exact h.elim
    | some bs=>
      rw[e] at h
      have ey:=bools_V e rs
      subst ey
      exact⟨a,bs,rfl,hq,fin h (rep_bl _)⟩
  · exact h.elim
theorem call_sumI (hc:X.calm=true):CallR X (.builtin "sum") (fun xs H Q=>∃p,∃ns:List Int,xs=[.ref p]∧(SqL X.K H p (ns.map V.int)∨SqT X.K H p (ns.map V.int))∧Q (.int ns.sum) H):=by
  intro pins s σ H xs us Q I r h
  obtain⟨p,ns,rfl,hq,q⟩:=h
  obtain⟨u,rfl,rx⟩:=vals1 r
  cases rx
  have key:∀(its:List Value),Vals (ns.map V.int) its→∃zs:Array (Int×Tok),its.toArray=intItems zs∧preSum (numAt zs) zs.size=ns.sum:=fun its r'=>by
    have hi:=intsAre_of r'
    obtain⟨zs,hx⟩:=hi.allInts.items
    refine⟨zs,hx,?_⟩
    have e1:ns=zs.toList.map (·.1):=by
      rw[←nums_intItems,←hx]
      exact (show numsOf its.toArray.toList=ns from hi.numsOf).symm
    rw[preSum_eq,List.take_of_length_le (by simp),e1]
  rcases hq with hq |hq
  · obtain⟨its,r',pl,hz⟩:=I.list hq
    obtain⟨zs,e1,e2⟩:=key its r'
    refine sum_intListG (I.ok.hd hc) (e1▸pl.isList) fun h' tk t' hk=>?_
    rw[e2]
    exact⟨.int _,H,I.kept hk,⟨t',rfl⟩,q⟩
  · obtain⟨its,r',pl,hz⟩:=I.tuple hq
    obtain⟨zs,e1,e2⟩:=key its r'
    refine PySem.W.ktm_sumG (I.ok.hd hc) (show s.heap.IsTuple p (intItems zs) from e1▸pl) fun h' tk t' hk=>?_
    rw[e2]
    exact⟨.int _,H,I.kept hk,⟨t',rfl⟩,q⟩
noncomputable def sumD:List D→R D
  | [.lst ds]=>match intsOf ds with
    |some bs=> .ok (.int bs.sum)
    |none=> .bad
  | [.tup ds]=>match intsOf ds with
    |some bs=> .ok (.int bs.sum)
    |none=> .bad
  |_=> .bad
theorem cd_sum (hc:X.calm=true):CallD X (.builtin "sum") sumD:=by
  refine⟨_,call_sumI hc,fun ρ O σ H Q xs ds j r h=>?_⟩
  unfold sumD at h
  split at h
  · rename_i ds
    obtain⟨x,rfl,rx⟩:=r.one
    obtain⟨a,ys,rfl,hq,_,rs⟩:=rx.lst
    cases e:intsOf ds with
    |none=>rw[e] at h;exact h.elim
    | some bs=>
      rw[e] at h
      have ey:=ints_V e rs
      subst ey
      exact⟨a,bs,rfl,.inl hq,fin h (rep_int _)⟩
  · rename_i ds
    obtain⟨x,rfl,rx⟩:=r.one
    obtain⟨a,ys,rfl,hq,rs⟩:=rx.tup
    cases e:intsOf ds with
    |none=>rw[e] at h;exact h.elim
    | some bs=>
      rw[e] at h
      have ey:=ints_V e rs
      subst ey
      exact⟨a,bs,rfl,.inr hq,fin h (rep_int _)⟩
  · exact h.elim
noncomputable def tyD:D→String
  | .non=> "NoneType"
  | .bl _=> "bool"
  | .int _=> "int"
  | .str _=> "str"
  | .tup _=> "tuple"
  | .lst _=> "list"
theorem call_inst (T:String) (ans:String→Bool) (hk:∀d:D,PySem.W.kitOne X.K (.type (tyD d)) (.type T)=some (ans (tyD d))):
    CallR X (.builtin "isinstance") (fun xs H Q=>∃x O d,xs=[x,.ty T]∧Rep X.K O H d x∧Q (.bl (ans (tyD d))) H):=by
  intro pins s σ H xs us Q I r h
  obtain⟨x,O,d,rfl,rd,q⟩:=h
  obtain⟨u,u2,rfl,rx,r2⟩:=vals2 r
  cases r2
  have e:=hk d
  have fin':∀tk,EP X pins σ Q (.bool (ans (tyD d))) {s with toks:=tk}:=fun tk=>⟨.bl _,H,I.tok _,rfl,q⟩
  cases d with
  | non=>
    cases rd.non
    cases (show u=Value.none from rx)
    exact PySem.W.kia_one PySem.W.kitx_none I.kIn True.intro e (fun z=>nomatch z) fin'
  | bl b=>
    cases rd.bl
    cases (show u=Value.bool b from rx)
    exact PySem.W.kia_one PySem.W.kitx_bool I.kIn True.intro e (fun z=>nomatch z) fin'
  | int i=>
    cases rd.int
    obtain⟨t,z⟩:=(show ∃t,u=Value.int i t from rx)
    cases z
    exact PySem.W.kia_one PySem.W.kitx_int I.kIn True.intro e (fun z=>nomatch z) fin'
  | str y=>
    cases rd.str
    obtain⟨t,z⟩:=(show ∃t,u=Value.str y t from rx)
    cases z
    exact PySem.W.kia_one PySem.W.kitx_str I.kIn True.intro e (fun z=>nomatch z) fin'
  | tup ds=>
    obtain⟨a,ys,rfl,hq,_⟩:=rd.tup
    cases (show u=Value.ref a from rx)
    obtain⟨its,_,pl,_⟩:=I.tuple hq
    obtain⟨o,h1,h2,_⟩:=pl
    exact PySem.W.kia_one PySem.W.kitx_tuple I.kIn ⟨o,h1,h2⟩ e (fun z=>nomatch z) fin'
  | lst ds=>
    obtain⟨a,ys,rfl,hq,_,_⟩:=rd.lst
    cases (show u=Value.ref a from rx)
    obtain⟨its,_,pl,_⟩:=I.list hq
    obtain⟨o,n,h1,h2,_⟩:=pl
    exact PySem.W.kia_one PySem.W.kitx_list I.kIn ⟨o,h1,h2⟩ e (fun z=>nomatch z) fin'
noncomputable def instV (ans:String→Bool) (f:Rho→R D):Rho→R D:=fun ρ=>(f ρ).bind fun d=> .ok (.bl (ans (tyD d)))
theorem de_inst {T:String} {ans:String→Bool} {x y:Str} {e:Expr} {f:Rho→R D} {p p2 pos:Pos} (hk:∀d:D,PySem.W.kitOne X.K (.type (tyD d)) (.type T)=some (ans (tyD d))) (he:DE X e f)
    (hg:Gl X x) (hm:X.mg x=none) (hv:bootBuiltins x=some (.builtin "isinstance")) (hgy:Gl X y) (hmy:X.mg y=none) (hvy:bootBuiltins y=some (.type T)) (hn:x≠"__name__" :=by decide) (hdb:(x ==("__debug__" :Str))=false:=by decide)
    (hny:y≠"__name__" :=by decide) (hdy:(y ==("__debug__" :Str))=false:=by decide)
    (hs:starEach [e,.Name y p2] X.env=(false,eval e X.env)::starEach [.Name y p2] X.env:=by rfl) (hs2:starEach [.Name y p2] X.env=(false,eval (.Name y p2) X.env)::starEach [] X.env:=by rfl) (hpl:(backTo pos (starEach [.Name y p2] X.env)).any (·.1)=false:=by rfl):
    DE X (.Call (.Name x p) [e,.Name y p2] [] pos) (instV ans f):=by
  refine PE.imp (pe_callB (call_inst T ans hk) hg hm hv (pa_cons he (pa_cons (pe_bltn (v:= .ty T) hgy hmy hvy rfl hny hdy) pa_nil hs2) hs) hn hdb hs hpl) fun σ H Q h=>?_
  obtain⟨ρ,O,j,h⟩:=h
  refine go j h fun d v H1 e1 s1 r1 j1 h1=>?_
  exact⟨v,O,d,rfl,r1,fin h1 (rep_bl _)⟩
end
mutual
noncomputable def eqD:D→D→Bool
  | .non,.non=>true
  | .bl a,.bl b=>a ==b
  | .bl a,.int b=>(if a then 1 else 0) ==b
  | .int a,.bl b=>a ==(if b then 1 else 0)
  | .int a,.int b=>a ==b
  | .str a,.str b=>a ==b
  | .tup a,.tup b=>eqDs a b
  | .lst a,.lst b=>eqDs a b
  |_,_=>false
noncomputable def eqDs:List D→List D→Bool
  |[],[]=>true
  |x::xs,y::ys=>eqD x y && eqDs xs ys
  |_,_=>false
end
mutual
noncomputable def dep:D→Nat
  | .tup a=>deps a+1
  | .lst a=>deps a+1
  |_=>0
noncomputable def deps:List D→Nat
  |[]=>0
  |x::xs=>max (dep x) (deps xs)
end
theorem deps_le:∀{ds:List D} {d:D},d∈ds→dep d≤deps ds
  |[],_,h=>by simp at h
  | x::xs,d,h=>by
    rw[deps]
    rcases List.mem_cons.mp h with e |h
    · subst e;exact Nat.le_max_left _ _
    · exact Nat.le_trans (deps_le h) (Nat.le_max_right _ _)
theorem eqD_bb (a b:Bool):eqD (.bl a) (.bl b)=(a ==b):=rfl
theorem eqD_bi (a:Bool) (b:Int):eqD (.bl a) (.int b)=((if a then 1 else 0) ==b):=rfl
theorem eqD_ib (a:Int) (b:Bool):eqD (.int a) (.bl b)=(a ==(if b then 1 else 0)):=rfl
theorem eqD_ii (a b:Int):eqD (.int a) (.int b)=(a ==b):=rfl
theorem eqD_ss (a b:Str):eqD (.str a) (.str b)=(a ==b):=rfl
theorem eqD_tt (a b:List D):eqD (.tup a) (.tup b)=eqDs a b:=rfl
theorem eqD_ll (a b:List D):eqD (.lst a) (.lst b)=eqDs a b:=rfl
mutual
theorem eqD_refl:∀d:D,eqD d d=true
  | .non=>rfl
  | .bl a=>by simp[eqD_bb,eqD_bi,eqD_ib,eqD_ii,eqD_ss,eqD_tt,eqD_ll]
  | .int a=>by simp[eqD_bb,eqD_bi,eqD_ib,eqD_ii,eqD_ss,eqD_tt,eqD_ll]
  | .str a=>by simp[eqD_bb,eqD_bi,eqD_ib,eqD_ii,eqD_ss,eqD_tt,eqD_ll]
  | .tup a=>by rw[eqD_tt];exact eqDs_refl a
  | .lst a=>by rw[eqD_ll];exact eqDs_refl a
theorem eqDs_refl:∀d:List D,eqDs d d=true
  |[]=>rfl
  |x::xs=>by rw[eqDs,eqD_refl x,eqDs_refl xs];rfl
end
theorem eqDs_len:∀{xs ys:List D},xs.length≠ys.length→eqDs xs ys=false
  |[],[],h=>absurd rfl h
  |[],_::_,_=>rfl
  |_::_,[],_=>rfl
  | x::xs,y::ys,h=>by
    rw[eqDs,eqDs_len (xs:=xs) (ys:=ys) (fun e=>h (by simp[e])),Bool.and_false]
theorem eqDs_all:∀{xs ys:List D},xs.length=ys.length→eqDs xs ys=(List.range xs.length).all fun i=>eqD (xs.getD i .non) (ys.getD i .non)
  |[],[],_=>rfl
  |[],_::_,h=>by simp at h
  |_::_,[],h=>by simp at h
  | x::xs,y::ys,h=>by
    rw[eqDs,eqDs_all (xs:=xs) (ys:=ys) (by simpa using h),List.length_cons,List.range_succ_eq_map,List.all_cons,List.all_map]
    rfl
end Pu
namespace Pu
open PySem PySem.Spec L2
open PyProof.Rows hiding St
open PySem.SeqAt
inductive LkT (X:Cx) (O:Addr→Prop) (H:Hp) (s:Shared) (ds:List D) (u:Value):Prop
  |mk (a:Addr) (xs:List V) (its:List Value) (e:u=Value.ref a) (q:SqT X.K H a xs) (v:Vals xs its) (p:s.heap.IsTuple a its.toArray) (r:Reps X.K O H ds xs):LkT X O H s ds u
inductive LkL (X:Cx) (O:Addr→Prop) (H:Hp) (s:Shared) (ds:List D) (u:Value):Prop
  |mk (a:Addr) (xs:List V) (its:List Value) (e:u=Value.ref a) (q:SqL X.K H a xs) (v:Vals xs its) (p:s.heap.IsList a its.toArray) (r:Reps X.K O H ds xs):LkL X O H s ds u
noncomputable def Lk (X:Cx) (O:Addr→Prop) (H:Hp) (s:Shared):D→Value→Prop
  | .non,u=>u=Value.none
  | .bl b,u=>u=Value.bool b
  | .int i,u=>∃t,u=Value.int i t
  | .str x,u=>∃t,u=Value.str x t
  | .tup ds,u=>LkT X O H s ds u
  | .lst ds,u=>LkL X O H s ds u
section
variable {X:Cx} {pins:List (Addr×Obj)} {σ:St} {H:Hp} {s:Shared} {O O':Addr→Prop}
theorem lk_of (I:Inv X pins σ H s) {d:D} {v:V} {u:Value} (r:Rep X.K O H d v) (q:RelV v u):Lk X O H s d u:=by
  cases d with
  |non=>cases r.non;exact q
  |bl b=>cases r.bl;exact q
  |int i=>cases r.int;exact q
  |str x=>cases r.str;exact q
  | tup ds=>
    obtain⟨a,xs,rfl,hq,rs⟩:=r.tup
    cases (show u=Value.ref a from q)
    obtain⟨its,rv,p,_⟩:=I.tuple hq
    exact⟨a,xs,its,rfl,hq,rv,p,rs⟩
  | lst ds=>
    obtain⟨a,xs,rfl,hq,_,rs⟩:=r.lst
    cases (show u=Value.ref a from q)
    obtain⟨its,rv,p,_⟩:=I.list hq
    exact⟨a,xs,its,rfl,hq,rv,p.isList,rs⟩
theorem isTuple_list {a:Addr} {p q:Array Value} (h1:s.heap.IsTuple a p) (h2:s.heap.IsList a q):False:=ne_of_list_tuple h2 h1 rfl
mutual
theorem Rep.inj (I:Inv X pins σ H s):∀(d e:D) (v:V),Rep X.K O H d v→Rep X.K O' H e v→d=e
  | .non,e,v,r,q=>by
    cases r.non
    cases e with
    |non=>rfl
    |bl _=>cases q.bl
    |int _=>cases q.int
    |str _=>cases q.str
    |tup _=>obtain⟨_,_,z,_⟩:=q.tup;cases z
    |lst _=>obtain⟨_,_,z,_⟩:=q.lst;cases z
  | .bl b,e,v,r,q=>by
    cases r.bl
    cases e with
    |non=>cases q.non
    |bl _=>cases q.bl;rfl
    |int _=>cases q.int
    |str _=>cases q.str
    |tup _=>obtain⟨_,_,z,_⟩:=q.tup;cases z
    |lst _=>obtain⟨_,_,z,_⟩:=q.lst;cases z
  | .int b,e,v,r,q=>by
    cases r.int
    cases e with
    |non=>cases q.non
    |bl _=>cases q.bl
    |int _=>cases q.int;rfl
    |str _=>cases q.str
    |tup _=>obtain⟨_,_,z,_⟩:=q.tup;cases z
    |lst _=>obtain⟨_,_,z,_⟩:=q.lst;cases z
  | .str b,e,v,r,q=>by
    cases r.str
    cases e with
    |non=>cases q.non
    |bl _=>cases q.bl
    |int _=>cases q.int
    |str _=>cases q.str;rfl
    |tup _=>obtain⟨_,_,z,_⟩:=q.tup;cases z
    |lst _=>obtain⟨_,_,z,_⟩:=q.lst;cases z
  | .tup ds,e,v,r,q=>by
    obtain⟨a,xs,rfl,hq,rs⟩:=r.tup
    cases e with
    |non=>cases q.non
    |bl _=>cases q.bl
    |int _=>cases q.int
    |str _=>cases q.str
    | tup es=>
      obtain⟨b,ys,z,hq',rs'⟩:=q.tup
      cases z
      cases I.tuple_inj hq hq'
      rw[Reps.inj I ds es xs rs rs']
    | lst es=>
      obtain⟨b,ys,z,hq',_,rs'⟩:=q.lst
      cases z
      obtain⟨_,_,p1,_⟩:=I.tuple hq
      obtain⟨_,_,p2,_⟩:=I.list hq'
      exact (isTuple_list p1 p2.isList).elim
  | .lst ds,e,v,r,q=>by
    obtain⟨a,xs,rfl,hq,_,rs⟩:=r.lst
    cases e with
    |non=>cases q.non
    |bl _=>cases q.bl
    |int _=>cases q.int
    |str _=>cases q.str
    | tup es=>
      obtain⟨b,ys,z,hq',rs'⟩:=q.tup
      cases z
      obtain⟨_,_,p1,_⟩:=I.tuple hq'
      obtain⟨_,_,p2,_⟩:=I.list hq
      exact (isTuple_list p1 p2.isList).elim
    | lst es=>
      obtain⟨b,ys,z,hq',_,rs'⟩:=q.lst
      cases z
      cases I.list_inj hq hq'
      rw[Reps.inj I ds es xs rs rs']
theorem Reps.inj (I:Inv X pins σ H s):∀(ds es:List D) (vs:List V),Reps X.K O H ds vs→Reps X.K O' H es vs→ds=es
  | [],es,vs,r,q=>by
    rw[r.nil_inv] at q
    cases es with
    |nil=>rfl
    |cons e es=>obtain⟨_,_,z,_⟩:=q.cons_inv;cases z
  | d ::ds,es,vs,r,q=>by
    obtain⟨x,t,rfl,rx,rt⟩:=r.cons_inv
    cases es with
    |nil=>cases q.nil_inv
    | cons e es=>
      obtain⟨_,_,z,qx,qt⟩:=q.cons_inv
      cases z
      rw[Rep.inj I d e x rx qx,Reps.inj I ds es t rt qt]
end
theorem items_eq {A:Around} {ds es:List D} {xs ys:List V} {its jts:List Value} (r1:Reps X.K O H ds xs) (r2:Reps X.K O' H es ys) (v1:Vals xs its) (v2:Vals ys jts)
    (ih:∀d∈ds,∀(e:D) (v w:V) (u u':Value),Rep X.K O H d v→Rep X.K O' H e w→RelV v u→RelV w u'→EqAt A s u u' (eqD d e)):
    ∀j (h1:j < its.toArray.size) (h2:j < jts.toArray.size),EqAt A s its.toArray[j] jts.toArray[j] (eqD (ds.getD j .non) (es.getD j .non)):=by
  intro j h1 h2
  have e1:its[j]?=some its.toArray[j]:=by simp
  have e2:jts[j]?=some jts.toArray[j]:=by simp
  have l1:=v1.length
  have l2:=v2.length
  have k1:=r1.length
  have k2:=r2.length
  simp only[List.size_toArray] at h1 h2
  obtain⟨v,ev,rv⟩:∃v,xs[j]?=some v∧RelV v its.toArray[j]:=by
    have hj:j < xs.length:=by omega
    obtain⟨u,eu,ru⟩:=v1.get (i:=j) (x:=xs[j]) (by simp[hj])
    rw[e1] at eu;cases eu
    exact⟨_,by simp[hj],ru⟩
  obtain⟨w,ew,rw'⟩:∃v,ys[j]?=some v∧RelV v jts.toArray[j]:=by
    have hj:j < ys.length:=by omega
    obtain⟨u,eu,ru⟩:=v2.get (i:=j) (x:=ys[j]) (by simp[hj])
    rw[e2] at eu;cases eu
    exact⟨_,by simp[hj],ru⟩
  obtain⟨d,ed,rd⟩:=r1.getV ev
  obtain⟨e,ee,re⟩:=r2.getV ew
  have g1:ds.getD j .non=d:=by simp[List.getD,ed]
  have g2:es.getD j .non=e:=by simp[List.getD,ee]
  rw[g1,g2]
  exact ih d (List.mem_of_getElem? ed) e v w _ _ rd re rv rw'
theorem tup_word {ds es:List D} {n m:Nat} (hn:ds.length=n) (hm:es.length=m):((List.range (min n m)).all (fun j=>eqD (ds.getD j .non) (es.getD j .non)) && n ==m)=eqDs ds es:=by
  by_cases h:n=m
  · subst h
    rw[Nat.min_self,beq_self_eq_true,Bool.and_true,eqDs_all (by rw[hn,hm]),hn]
  · rw[eqDs_len (by rw[hn,hm];exact h),show (n ==m)=false by simpa using h,Bool.and_false]
theorem eqAt_ind (I:Inv X pins σ H s) {A:Around} (hu:A.units < cLine) {d e:D} {u u':Value} (h1:Lk X O H s d u) (h2:Lk X O' H s e u')
    (ih:∀c∈(match d with | .tup ds=>ds | .lst ds=>ds |_=>[]),∀(e:D) (v w:V) (u u':Value),Rep X.K O H c v→Rep X.K O' H e w→RelV v u→RelV w u'→EqAt A.in1 s u u' (eqD c e)):EqAt A s u u' (eqD d e):=by
  cases d with
  | non =>
    cases h1
    cases e with
    | non=>
      cases h2
      exact EqAt.same _
    | bl b=>
      cases h2
      first
        |exact EqAt.none_bool _
        |(have q:=EqAt.none_bool (A:=A) (s:=s) _;simpa[eqD_bb,eqD_bi,eqD_ib,eqD_ii,eqD_ss,eqD_tt,eqD_ll] using q)
    | int b=>
      obtain⟨t2,rfl⟩:=h2
      first
        |exact EqAt.none_int _ _
        |(have q:=EqAt.none_int (A:=A) (s:=s) _ _;simpa[eqD_bb,eqD_bi,eqD_ib,eqD_ii,eqD_ss,eqD_tt,eqD_ll] using q)
    | str b=>
      obtain⟨t2,rfl⟩:=h2
      first
        |exact EqAt.none_str _ _
        |(have q:=EqAt.none_str (A:=A) (s:=s) _ _;simpa[eqD_bb,eqD_bi,eqD_ib,eqD_ii,eqD_ss,eqD_tt,eqD_ll] using q)
    | tup es=>
      obtain⟨p2,ys,jts,rfl,hq2,v2,hp2,r2⟩:=h2
      first
        |exact EqAt.none_tuple hp2 hu
        |(have q:=EqAt.none_tuple (A:=A) (s:=s) hp2 hu;simpa[eqD_bb,eqD_bi,eqD_ib,eqD_ii,eqD_ss,eqD_tt,eqD_ll] using q)
    | lst es=>
      obtain⟨p2,ys,jts,rfl,hq2,v2,hp2,r2⟩:=h2
      first
        |exact EqAt.none_list hp2 hu
        |(have q:=EqAt.none_list (A:=A) (s:=s) hp2 hu;simpa[eqD_bb,eqD_bi,eqD_ib,eqD_ii,eqD_ss,eqD_tt,eqD_ll] using q)
  | bl a=>
    cases h1
    cases e with
    | non=>
      cases h2
      first
        |exact EqAt.bool_none _
        |(have q:=EqAt.bool_none (A:=A) (s:=s) _;simpa[eqD_bb,eqD_bi,eqD_ib,eqD_ii,eqD_ss,eqD_tt,eqD_ll] using q)
    | bl b=>
      cases h2
      first
        |exact EqAt.bool_bool _ _
        |(have q:=EqAt.bool_bool (A:=A) (s:=s) _ _;simpa[eqD_bb,eqD_bi,eqD_ib,eqD_ii,eqD_ss,eqD_tt,eqD_ll] using q)
    | int b=>
      obtain⟨t2,rfl⟩:=h2
      first
        |exact EqAt.bool_int _ _ _
        |(have q:=EqAt.bool_int (A:=A) (s:=s) _ _ _;simpa[eqD_bb,eqD_bi,eqD_ib,eqD_ii,eqD_ss,eqD_tt,eqD_ll] using q)
    | str b=>
      obtain⟨t2,rfl⟩:=h2
      first
        |exact EqAt.bool_str _ _ _
        |(have q:=EqAt.bool_str (A:=A) (s:=s) _ _ _;simpa[eqD_bb,eqD_bi,eqD_ib,eqD_ii,eqD_ss,eqD_tt,eqD_ll] using q)
    | tup es=>
      obtain⟨p2,ys,jts,rfl,hq2,v2,hp2,r2⟩:=h2
      first
        |exact EqAt.bool_tuple _ hp2 hu
        |(have q:=EqAt.bool_tuple (A:=A) (s:=s) _ hp2 hu;simpa[eqD_bb,eqD_bi,eqD_ib,eqD_ii,eqD_ss,eqD_tt,eqD_ll] using q)
    | lst es=>
      obtain⟨p2,ys,jts,rfl,hq2,v2,hp2,r2⟩:=h2
      first
        |exact EqAt.bool_list _ hp2 hu
        |(have q:=EqAt.bool_list (A:=A) (s:=s) _ hp2 hu;simpa[eqD_bb,eqD_bi,eqD_ib,eqD_ii,eqD_ss,eqD_tt,eqD_ll] using q)
  | int a=>
    obtain⟨t1,rfl⟩:=h1
    cases e with
    | non=>
      cases h2
      first
        |exact EqAt.int_none _ _
        |(have q:=EqAt.int_none (A:=A) (s:=s) _ _;simpa[eqD_bb,eqD_bi,eqD_ib,eqD_ii,eqD_ss,eqD_tt,eqD_ll] using q)
    | bl b=>
      cases h2
      first
        |exact EqAt.int_bool _ _ _
        |(have q:=EqAt.int_bool (A:=A) (s:=s) _ _ _;simpa[eqD_bb,eqD_bi,eqD_ib,eqD_ii,eqD_ss,eqD_tt,eqD_ll] using q)
    | int b=>
      obtain⟨t2,rfl⟩:=h2
      first
        |exact EqAt.int_int _ _ _ _
        |(have q:=EqAt.int_int (A:=A) (s:=s) _ _ _ _;simpa[eqD_bb,eqD_bi,eqD_ib,eqD_ii,eqD_ss,eqD_tt,eqD_ll] using q)
    | str b=>
      obtain⟨t2,rfl⟩:=h2
      first
        |exact EqAt.int_str _ _ _ _
        |(have q:=EqAt.int_str (A:=A) (s:=s) _ _ _ _;simpa[eqD_bb,eqD_bi,eqD_ib,eqD_ii,eqD_ss,eqD_tt,eqD_ll] using q)
    | tup es=>
      obtain⟨p2,ys,jts,rfl,hq2,v2,hp2,r2⟩:=h2
      first
        |exact EqAt.int_tuple _ _ hp2 hu
        |(have q:=EqAt.int_tuple (A:=A) (s:=s) _ _ hp2 hu;simpa[eqD_bb,eqD_bi,eqD_ib,eqD_ii,eqD_ss,eqD_tt,eqD_ll] using q)
    | lst es=>
      obtain⟨p2,ys,jts,rfl,hq2,v2,hp2,r2⟩:=h2
      first
        |exact EqAt.int_list _ _ hp2 hu
        |(have q:=EqAt.int_list (A:=A) (s:=s) _ _ hp2 hu;simpa[eqD_bb,eqD_bi,eqD_ib,eqD_ii,eqD_ss,eqD_tt,eqD_ll] using q)
  | str a=>
    obtain⟨t1,rfl⟩:=h1
    cases e with
    | non=>
      cases h2
      first
        |exact EqAt.str_none _ _
        |(have q:=EqAt.str_none (A:=A) (s:=s) _ _;simpa[eqD_bb,eqD_bi,eqD_ib,eqD_ii,eqD_ss,eqD_tt,eqD_ll] using q)
    | bl b=>
      cases h2
      first
        |exact EqAt.str_bool _ _ _
        |(have q:=EqAt.str_bool (A:=A) (s:=s) _ _ _;simpa[eqD_bb,eqD_bi,eqD_ib,eqD_ii,eqD_ss,eqD_tt,eqD_ll] using q)
    | int b=>
      obtain⟨t2,rfl⟩:=h2
      first
        |exact EqAt.str_int _ _ _ _
        |(have q:=EqAt.str_int (A:=A) (s:=s) _ _ _ _;simpa[eqD_bb,eqD_bi,eqD_ib,eqD_ii,eqD_ss,eqD_tt,eqD_ll] using q)
    | str b=>
      obtain⟨t2,rfl⟩:=h2
      first
        |exact EqAt.str_str _ _ _ _
        |(have q:=EqAt.str_str (A:=A) (s:=s) _ _ _ _;simpa[eqD_bb,eqD_bi,eqD_ib,eqD_ii,eqD_ss,eqD_tt,eqD_ll] using q)
    | tup es=>
      obtain⟨p2,ys,jts,rfl,hq2,v2,hp2,r2⟩:=h2
      first
        |exact EqAt.str_tuple _ _ hp2 hu
        |(have q:=EqAt.str_tuple (A:=A) (s:=s) _ _ hp2 hu;simpa[eqD_bb,eqD_bi,eqD_ib,eqD_ii,eqD_ss,eqD_tt,eqD_ll] using q)
    | lst es=>
      obtain⟨p2,ys,jts,rfl,hq2,v2,hp2,r2⟩:=h2
      first
        |exact EqAt.str_list _ _ hp2 hu
        |(have q:=EqAt.str_list (A:=A) (s:=s) _ _ hp2 hu;simpa[eqD_bb,eqD_bi,eqD_ib,eqD_ii,eqD_ss,eqD_tt,eqD_ll] using q)
  | tup ds=>
    obtain⟨p1,xs,its,rfl,hq1,v1,hp1,r1⟩:=h1
    cases e with
    | non=>
      cases h2
      first
        |exact EqAt.tuple_none hp1 hu
        |(have q:=EqAt.tuple_none (A:=A) (s:=s) hp1 hu;simpa[eqD_bb,eqD_bi,eqD_ib,eqD_ii,eqD_ss,eqD_tt,eqD_ll] using q)
    | bl b=>
      cases h2
      first
        |exact EqAt.tuple_bool _ hp1 hu
        |(have q:=EqAt.tuple_bool (A:=A) (s:=s) _ hp1 hu;simpa[eqD_bb,eqD_bi,eqD_ib,eqD_ii,eqD_ss,eqD_tt,eqD_ll] using q)
    | int b=>
      obtain⟨t2,rfl⟩:=h2
      first
        |exact EqAt.tuple_int _ _ hp1 hu
        |(have q:=EqAt.tuple_int (A:=A) (s:=s) _ _ hp1 hu;simpa[eqD_bb,eqD_bi,eqD_ib,eqD_ii,eqD_ss,eqD_tt,eqD_ll] using q)
    | str b=>
      obtain⟨t2,rfl⟩:=h2
      first
        |exact EqAt.tuple_str _ _ hp1 hu
        |(have q:=EqAt.tuple_str (A:=A) (s:=s) _ _ hp1 hu;simpa[eqD_bb,eqD_bi,eqD_ib,eqD_ii,eqD_ss,eqD_tt,eqD_ll] using q)
    | tup es=>
      obtain⟨p2,ys,jts,rfl,hq2,v2,hp2,r2⟩:=h2
      by_cases hne:p1=p2
      · subst hne
        cases I.tuple_inj hq1 hq2
        rw[eqD_tt,Reps.inj I ds es xs r1 r2,eqDs_refl]
        exact EqAt.same _
      · have q:=EqAt.of_refs hne (RcAt.tuples hp1 hp2 hu (items_eq r1 r2 v1 v2 ih))
        simp only[List.size_toArray] at q
        rw[tup_word (r1.length.trans v1.length) (r2.length.trans v2.length)] at q
        rw[eqD_tt];exact q
    | lst es=>
      obtain⟨p2,ys,jts,rfl,hq2,v2,hp2,r2⟩:=h2
      first
        |exact EqAt.tuple_list hp1 hp2 hu
        |(have q:=EqAt.tuple_list (A:=A) (s:=s) hp1 hp2 hu;simpa[eqD_bb,eqD_bi,eqD_ib,eqD_ii,eqD_ss,eqD_tt,eqD_ll] using q)
  | lst ds=>
    obtain⟨p1,xs,its,rfl,hq1,v1,hp1,r1⟩:=h1
    cases e with
    | non=>
      cases h2
      first
        |exact EqAt.list_none hp1 hu
        |(have q:=EqAt.list_none (A:=A) (s:=s) hp1 hu;simpa[eqD_bb,eqD_bi,eqD_ib,eqD_ii,eqD_ss,eqD_tt,eqD_ll] using q)
    | bl b=>
      cases h2
      first
        |exact EqAt.list_bool _ hp1 hu
        |(have q:=EqAt.list_bool (A:=A) (s:=s) _ hp1 hu;simpa[eqD_bb,eqD_bi,eqD_ib,eqD_ii,eqD_ss,eqD_tt,eqD_ll] using q)
    | int b=>
      obtain⟨t2,rfl⟩:=h2
      first
        |exact EqAt.list_int _ _ hp1 hu
        |(have q:=EqAt.list_int (A:=A) (s:=s) _ _ hp1 hu;simpa[eqD_bb,eqD_bi,eqD_ib,eqD_ii,eqD_ss,eqD_tt,eqD_ll] using q)
    | str b=>
      obtain⟨t2,rfl⟩:=h2
      first
        |exact EqAt.list_str _ _ hp1 hu
        |(have q:=EqAt.list_str (A:=A) (s:=s) _ _ hp1 hu;simpa[eqD_bb,eqD_bi,eqD_ib,eqD_ii,eqD_ss,eqD_tt,eqD_ll] using q)
    | tup es=>
      obtain⟨p2,ys,jts,rfl,hq2,v2,hp2,r2⟩:=h2
      first
        |exact EqAt.list_tuple hp1 hp2 hu
        |(have q:=EqAt.list_tuple (A:=A) (s:=s) hp1 hp2 hu;simpa[eqD_bb,eqD_bi,eqD_ib,eqD_ii,eqD_ss,eqD_tt,eqD_ll] using q)
    | lst es=>
      obtain⟨p2,ys,jts,rfl,hq2,v2,hp2,r2⟩:=h2
      by_cases hne:p1=p2
      · subst hne
        cases I.list_inj hq1 hq2
        rw[eqD_ll,Reps.inj I ds es xs r1 r2,eqDs_refl]
        exact EqAt.same _
      · by_cases hz:ds.length=es.length
        · have q:=EqAt.of_refs hne (RcAt.lists hp1 hp2 (by simp only[List.size_toArray];rw[←v1.length,←v2.length,←r1.length,←r2.length];exact hz) hu (items_eq r1 r2 v1 v2 ih))
          rw[List.size_toArray,←v1.length,←r1.length,←eqDs_all hz] at q
          rw[eqD_ll];exact q
        · rw[eqD_ll,eqDs_len hz]
          exact EqAt.of_refs hne (RcAt.lists_lengths hp1 hp2 (by simp only[List.size_toArray];rw[←v1.length,←v2.length,←r1.length,←r2.length];simpa using hz) hu)
theorem rcAt_ind (I:Inv X pins σ H s) {A:Around} (hu:A.units < cLine) {d e:D} {u u':Value} (h1:Lk X O H s d u) (h2:Lk X O' H s e u')
    (ih:∀c∈(match d with | .tup ds=>ds | .lst ds=>ds |_=>[]),∀(e:D) (v w:V) (u u':Value),Rep X.K O H c v→Rep X.K O' H e w→RelV v u→RelV w u'→EqAt A.in1 s u u' (eqD c e)):RcAt A s u u' (eqD d e):=by
  cases d with
  | non =>
    cases h1
    cases e with
    | non=>
      cases h2
      exact RcAt.none_none
    | bl b=>
      cases h2
      first
        |exact RcAt.none_bool _
        |(have q:=RcAt.none_bool (A:=A) (s:=s) _;simpa[eqD_bb,eqD_bi,eqD_ib,eqD_ii,eqD_ss,eqD_tt,eqD_ll] using q)
    | int b=>
      obtain⟨t2,rfl⟩:=h2
      first
        |exact RcAt.none_int _ _
        |(have q:=RcAt.none_int (A:=A) (s:=s) _ _;simpa[eqD_bb,eqD_bi,eqD_ib,eqD_ii,eqD_ss,eqD_tt,eqD_ll] using q)
    | str b=>
      obtain⟨t2,rfl⟩:=h2
      first
        |exact RcAt.none_str _ _
        |(have q:=RcAt.none_str (A:=A) (s:=s) _ _;simpa[eqD_bb,eqD_bi,eqD_ib,eqD_ii,eqD_ss,eqD_tt,eqD_ll] using q)
    | tup es=>
      obtain⟨p2,ys,jts,rfl,hq2,v2,hp2,r2⟩:=h2
      first
        |exact RcAt.none_tuple hp2 hu
        |(have q:=RcAt.none_tuple (A:=A) (s:=s) hp2 hu;simpa[eqD_bb,eqD_bi,eqD_ib,eqD_ii,eqD_ss,eqD_tt,eqD_ll] using q)
    | lst es=>
      obtain⟨p2,ys,jts,rfl,hq2,v2,hp2,r2⟩:=h2
      first
        |exact RcAt.none_list hp2 hu
        |(have q:=RcAt.none_list (A:=A) (s:=s) hp2 hu;simpa[eqD_bb,eqD_bi,eqD_ib,eqD_ii,eqD_ss,eqD_tt,eqD_ll] using q)
  | bl a=>
    cases h1
    cases e with
    | non=>
      cases h2
      first
        |exact RcAt.bool_none _
        |(have q:=RcAt.bool_none (A:=A) (s:=s) _;simpa[eqD_bb,eqD_bi,eqD_ib,eqD_ii,eqD_ss,eqD_tt,eqD_ll] using q)
    | bl b=>
      cases h2
      first
        |exact RcAt.bool_bool _ _
        |(have q:=RcAt.bool_bool (A:=A) (s:=s) _ _;simpa[eqD_bb,eqD_bi,eqD_ib,eqD_ii,eqD_ss,eqD_tt,eqD_ll] using q)
    | int b=>
      obtain⟨t2,rfl⟩:=h2
      first
        |exact RcAt.bool_int _ _ _
        |(have q:=RcAt.bool_int (A:=A) (s:=s) _ _ _;simpa[eqD_bb,eqD_bi,eqD_ib,eqD_ii,eqD_ss,eqD_tt,eqD_ll] using q)
    | str b=>
      obtain⟨t2,rfl⟩:=h2
      first
        |exact RcAt.bool_str _ _ _
        |(have q:=RcAt.bool_str (A:=A) (s:=s) _ _ _;simpa[eqD_bb,eqD_bi,eqD_ib,eqD_ii,eqD_ss,eqD_tt,eqD_ll] using q)
    | tup es=>
      obtain⟨p2,ys,jts,rfl,hq2,v2,hp2,r2⟩:=h2
      first
        |exact RcAt.bool_tuple _ hp2 hu
        |(have q:=RcAt.bool_tuple (A:=A) (s:=s) _ hp2 hu;simpa[eqD_bb,eqD_bi,eqD_ib,eqD_ii,eqD_ss,eqD_tt,eqD_ll] using q)
    | lst es=>
      obtain⟨p2,ys,jts,rfl,hq2,v2,hp2,r2⟩:=h2
      first
        |exact RcAt.bool_list _ hp2 hu
        |(have q:=RcAt.bool_list (A:=A) (s:=s) _ hp2 hu;simpa[eqD_bb,eqD_bi,eqD_ib,eqD_ii,eqD_ss,eqD_tt,eqD_ll] using q)
  | int a=>
    obtain⟨t1,rfl⟩:=h1
    cases e with
    | non=>
      cases h2
      first
        |exact RcAt.int_none _ _
        |(have q:=RcAt.int_none (A:=A) (s:=s) _ _;simpa[eqD_bb,eqD_bi,eqD_ib,eqD_ii,eqD_ss,eqD_tt,eqD_ll] using q)
    | bl b=>
      cases h2
      first
        |exact RcAt.int_bool _ _ _
        |(have q:=RcAt.int_bool (A:=A) (s:=s) _ _ _;simpa[eqD_bb,eqD_bi,eqD_ib,eqD_ii,eqD_ss,eqD_tt,eqD_ll] using q)
    | int b=>
      obtain⟨t2,rfl⟩:=h2
      first
        |exact RcAt.int_int _ _ _ _
        |(have q:=RcAt.int_int (A:=A) (s:=s) _ _ _ _;simpa[eqD_bb,eqD_bi,eqD_ib,eqD_ii,eqD_ss,eqD_tt,eqD_ll] using q)
    | str b=>
      obtain⟨t2,rfl⟩:=h2
      first
        |exact RcAt.int_str _ _ _ _
        |(have q:=RcAt.int_str (A:=A) (s:=s) _ _ _ _;simpa[eqD_bb,eqD_bi,eqD_ib,eqD_ii,eqD_ss,eqD_tt,eqD_ll] using q)
    | tup es=>
      obtain⟨p2,ys,jts,rfl,hq2,v2,hp2,r2⟩:=h2
      first
        |exact RcAt.int_tuple _ _ hp2 hu
        |(have q:=RcAt.int_tuple (A:=A) (s:=s) _ _ hp2 hu;simpa[eqD_bb,eqD_bi,eqD_ib,eqD_ii,eqD_ss,eqD_tt,eqD_ll] using q)
    | lst es=>
      obtain⟨p2,ys,jts,rfl,hq2,v2,hp2,r2⟩:=h2
      first
        |exact RcAt.int_list _ _ hp2 hu
        |(have q:=RcAt.int_list (A:=A) (s:=s) _ _ hp2 hu;simpa[eqD_bb,eqD_bi,eqD_ib,eqD_ii,eqD_ss,eqD_tt,eqD_ll] using q)
  | str a=>
    obtain⟨t1,rfl⟩:=h1
    cases e with
    | non=>
      cases h2
      first
        |exact RcAt.str_none _ _
        |(have q:=RcAt.str_none (A:=A) (s:=s) _ _;simpa[eqD_bb,eqD_bi,eqD_ib,eqD_ii,eqD_ss,eqD_tt,eqD_ll] using q)
    | bl b=>
      cases h2
      first
        |exact RcAt.str_bool _ _ _
        |(have q:=RcAt.str_bool (A:=A) (s:=s) _ _ _;simpa[eqD_bb,eqD_bi,eqD_ib,eqD_ii,eqD_ss,eqD_tt,eqD_ll] using q)
    | int b=>
      obtain⟨t2,rfl⟩:=h2
      first
        |exact RcAt.str_int _ _ _ _
        |(have q:=RcAt.str_int (A:=A) (s:=s) _ _ _ _;simpa[eqD_bb,eqD_bi,eqD_ib,eqD_ii,eqD_ss,eqD_tt,eqD_ll] using q)
    | str b=>
      obtain⟨t2,rfl⟩:=h2
      first
        |exact RcAt.str_str _ _ _ _
        |(have q:=RcAt.str_str (A:=A) (s:=s) _ _ _ _;simpa[eqD_bb,eqD_bi,eqD_ib,eqD_ii,eqD_ss,eqD_tt,eqD_ll] using q)
    | tup es=>
      obtain⟨p2,ys,jts,rfl,hq2,v2,hp2,r2⟩:=h2
      first
        |exact RcAt.str_tuple _ _ hp2 hu
        |(have q:=RcAt.str_tuple (A:=A) (s:=s) _ _ hp2 hu;simpa[eqD_bb,eqD_bi,eqD_ib,eqD_ii,eqD_ss,eqD_tt,eqD_ll] using q)
    | lst es=>
      obtain⟨p2,ys,jts,rfl,hq2,v2,hp2,r2⟩:=h2
      first
        |exact RcAt.str_list _ _ hp2 hu
        |(have q:=RcAt.str_list (A:=A) (s:=s) _ _ hp2 hu;simpa[eqD_bb,eqD_bi,eqD_ib,eqD_ii,eqD_ss,eqD_tt,eqD_ll] using q)
  | tup ds=>
    obtain⟨p1,xs,its,rfl,hq1,v1,hp1,r1⟩:=h1
    cases e with
    | non=>
      cases h2
      first
        |exact RcAt.tuple_none hp1 hu
        |(have q:=RcAt.tuple_none (A:=A) (s:=s) hp1 hu;simpa[eqD_bb,eqD_bi,eqD_ib,eqD_ii,eqD_ss,eqD_tt,eqD_ll] using q)
    | bl b=>
      cases h2
      first
        |exact RcAt.tuple_bool _ hp1 hu
        |(have q:=RcAt.tuple_bool (A:=A) (s:=s) _ hp1 hu;simpa[eqD_bb,eqD_bi,eqD_ib,eqD_ii,eqD_ss,eqD_tt,eqD_ll] using q)
    | int b=>
      obtain⟨t2,rfl⟩:=h2
      first
        |exact RcAt.tuple_int _ _ hp1 hu
        |(have q:=RcAt.tuple_int (A:=A) (s:=s) _ _ hp1 hu;simpa[eqD_bb,eqD_bi,eqD_ib,eqD_ii,eqD_ss,eqD_tt,eqD_ll] using q)
    | str b=>
      obtain⟨t2,rfl⟩:=h2
      first
        |exact RcAt.tuple_str _ _ hp1 hu
        |(have q:=RcAt.tuple_str (A:=A) (s:=s) _ _ hp1 hu;simpa[eqD_bb,eqD_bi,eqD_ib,eqD_ii,eqD_ss,eqD_tt,eqD_ll] using q)
    | tup es=>
      obtain⟨p2,ys,jts,rfl,hq2,v2,hp2,r2⟩:=h2
      have q:=RcAt.tuples hp1 hp2 hu (items_eq r1 r2 v1 v2 ih)
      simp only[List.size_toArray] at q
      rw[tup_word (r1.length.trans v1.length) (r2.length.trans v2.length)] at q
      rw[eqD_tt];exact q
    | lst es=>
      obtain⟨p2,ys,jts,rfl,hq2,v2,hp2,r2⟩:=h2
      first
        |exact RcAt.tuple_list hp1 hp2 hu
        |(have q:=RcAt.tuple_list (A:=A) (s:=s) hp1 hp2 hu;simpa[eqD_bb,eqD_bi,eqD_ib,eqD_ii,eqD_ss,eqD_tt,eqD_ll] using q)
  | lst ds=>
    obtain⟨p1,xs,its,rfl,hq1,v1,hp1,r1⟩:=h1
    cases e with
    | non=>
      cases h2
      first
        |exact RcAt.list_none hp1 hu
        |(have q:=RcAt.list_none (A:=A) (s:=s) hp1 hu;simpa[eqD_bb,eqD_bi,eqD_ib,eqD_ii,eqD_ss,eqD_tt,eqD_ll] using q)
    | bl b=>
      cases h2
      first
        |exact RcAt.list_bool _ hp1 hu
        |(have q:=RcAt.list_bool (A:=A) (s:=s) _ hp1 hu;simpa[eqD_bb,eqD_bi,eqD_ib,eqD_ii,eqD_ss,eqD_tt,eqD_ll] using q)
    | int b=>
      obtain⟨t2,rfl⟩:=h2
      first
        |exact RcAt.list_int _ _ hp1 hu
        |(have q:=RcAt.list_int (A:=A) (s:=s) _ _ hp1 hu;simpa[eqD_bb,eqD_bi,eqD_ib,eqD_ii,eqD_ss,eqD_tt,eqD_ll] using q)
    | str b=>
      obtain⟨t2,rfl⟩:=h2
      first
        |exact RcAt.list_str _ _ hp1 hu
        |(have q:=RcAt.list_str (A:=A) (s:=s) _ _ hp1 hu;simpa[eqD_bb,eqD_bi,eqD_ib,eqD_ii,eqD_ss,eqD_tt,eqD_ll] using q)
    | tup es=>
      obtain⟨p2,ys,jts,rfl,hq2,v2,hp2,r2⟩:=h2
      first
        |exact RcAt.list_tuple hp1 hp2 hu
        |(have q:=RcAt.list_tuple (A:=A) (s:=s) hp1 hp2 hu;simpa[eqD_bb,eqD_bi,eqD_ib,eqD_ii,eqD_ss,eqD_tt,eqD_ll] using q)
    | lst es=>
      obtain⟨p2,ys,jts,rfl,hq2,v2,hp2,r2⟩:=h2
      by_cases hz:ds.length=es.length
      · have q:=RcAt.lists hp1 hp2 (by simp only[List.size_toArray];rw[←v1.length,←v2.length,←r1.length,←r2.length];exact hz) hu (items_eq r1 r2 v1 v2 ih)
        rw[List.size_toArray,←v1.length,←r1.length,←eqDs_all hz] at q
        rw[eqD_ll];exact q
      · rw[eqD_ll,eqDs_len hz]
        exact RcAt.lists_lengths hp1 hp2 (by simp only[List.size_toArray];rw[←v1.length,←v2.length,←r1.length,←r2.length];simpa using hz) hu
theorem rnAt_ind (I:Inv X pins σ H s) {A:Around} (hu:A.units < cLine) {d e:D} {u u':Value} (h1:Lk X O H s d u) (h2:Lk X O' H s e u')
    (ih:∀c∈(match d with | .tup ds=>ds | .lst ds=>ds |_=>[]),∀(e:D) (v w:V) (u u':Value),Rep X.K O H c v→Rep X.K O' H e w→RelV v u→RelV w u'→EqAt A.in1 s u u' (eqD c e)):RcNeAt A s u u' (!eqD d e):=by
  cases d with
  | non =>
    cases h1
    cases e with
    | non=>
      cases h2
      exact RcNeAt.none_none
    | bl b=>
      cases h2
      first
        |exact RcNeAt.none_bool _
        |(have q:=RcNeAt.none_bool (A:=A) (s:=s) _;simpa[eqD_bb,eqD_bi,eqD_ib,eqD_ii,eqD_ss,eqD_tt,eqD_ll] using q)
    | int b=>
      obtain⟨t2,rfl⟩:=h2
      first
        |exact RcNeAt.none_int _ _
        |(have q:=RcNeAt.none_int (A:=A) (s:=s) _ _;simpa[eqD_bb,eqD_bi,eqD_ib,eqD_ii,eqD_ss,eqD_tt,eqD_ll] using q)
    | str b=>
      obtain⟨t2,rfl⟩:=h2
      first
        |exact RcNeAt.none_str _ _
        |(have q:=RcNeAt.none_str (A:=A) (s:=s) _ _;simpa[eqD_bb,eqD_bi,eqD_ib,eqD_ii,eqD_ss,eqD_tt,eqD_ll] using q)
    | tup es=>
      obtain⟨p2,ys,jts,rfl,hq2,v2,hp2,r2⟩:=h2
      first
        |exact RcNeAt.none_tuple hp2 hu
        |(have q:=RcNeAt.none_tuple (A:=A) (s:=s) hp2 hu;simpa[eqD_bb,eqD_bi,eqD_ib,eqD_ii,eqD_ss,eqD_tt,eqD_ll] using q)
    | lst es=>
      obtain⟨p2,ys,jts,rfl,hq2,v2,hp2,r2⟩:=h2
      first
        |exact RcNeAt.none_list hp2 hu
        |(have q:=RcNeAt.none_list (A:=A) (s:=s) hp2 hu;simpa[eqD_bb,eqD_bi,eqD_ib,eqD_ii,eqD_ss,eqD_tt,eqD_ll] using q)
  | bl a=>
    cases h1
    cases e with
    | non=>
      cases h2
      first
        |exact RcNeAt.bool_none _
        |(have q:=RcNeAt.bool_none (A:=A) (s:=s) _;simpa[eqD_bb,eqD_bi,eqD_ib,eqD_ii,eqD_ss,eqD_tt,eqD_ll] using q)
    | bl b=>
      cases h2
      first
        |exact RcNeAt.bool_bool _ _
        |(have q:=RcNeAt.bool_bool (A:=A) (s:=s) _ _;simpa[eqD_bb,eqD_bi,eqD_ib,eqD_ii,eqD_ss,eqD_tt,eqD_ll] using q)
    | int b=>
      obtain⟨t2,rfl⟩:=h2
      first
        |exact RcNeAt.bool_int _ _ _
        |(have q:=RcNeAt.bool_int (A:=A) (s:=s) _ _ _;simpa[eqD_bb,eqD_bi,eqD_ib,eqD_ii,eqD_ss,eqD_tt,eqD_ll] using q)
    | str b=>
      obtain⟨t2,rfl⟩:=h2
      first
        |exact RcNeAt.bool_str _ _ _
        |(have q:=RcNeAt.bool_str (A:=A) (s:=s) _ _ _;simpa[eqD_bb,eqD_bi,eqD_ib,eqD_ii,eqD_ss,eqD_tt,eqD_ll] using q)
    | tup es=>
      obtain⟨p2,ys,jts,rfl,hq2,v2,hp2,r2⟩:=h2
      first
        |exact RcNeAt.bool_tuple _ hp2 hu
        |(have q:=RcNeAt.bool_tuple (A:=A) (s:=s) _ hp2 hu;simpa[eqD_bb,eqD_bi,eqD_ib,eqD_ii,eqD_ss,eqD_tt,eqD_ll] using q)
    | lst es=>
      obtain⟨p2,ys,jts,rfl,hq2,v2,hp2,r2⟩:=h2
      first
        |exact RcNeAt.bool_list _ hp2 hu
        |(have q:=RcNeAt.bool_list (A:=A) (s:=s) _ hp2 hu;simpa[eqD_bb,eqD_bi,eqD_ib,eqD_ii,eqD_ss,eqD_tt,eqD_ll] using q)
  | int a=>
    obtain⟨t1,rfl⟩:=h1
    cases e with
    | non=>
      cases h2
      first
        |exact RcNeAt.int_none _ _
        |(have q:=RcNeAt.int_none (A:=A) (s:=s) _ _;simpa[eqD_bb,eqD_bi,eqD_ib,eqD_ii,eqD_ss,eqD_tt,eqD_ll] using q)
    | bl b=>
      cases h2
      first
        |exact RcNeAt.int_bool _ _ _
        |(have q:=RcNeAt.int_bool (A:=A) (s:=s) _ _ _;simpa[eqD_bb,eqD_bi,eqD_ib,eqD_ii,eqD_ss,eqD_tt,eqD_ll] using q)
    | int b=>
      obtain⟨t2,rfl⟩:=h2
      first
        |exact RcNeAt.int_int _ _ _ _
        |(have q:=RcNeAt.int_int (A:=A) (s:=s) _ _ _ _;simpa[eqD_bb,eqD_bi,eqD_ib,eqD_ii,eqD_ss,eqD_tt,eqD_ll] using q)
    | str b=>
      obtain⟨t2,rfl⟩:=h2
      first
        |exact RcNeAt.int_str _ _ _ _
        |(have q:=RcNeAt.int_str (A:=A) (s:=s) _ _ _ _;simpa[eqD_bb,eqD_bi,eqD_ib,eqD_ii,eqD_ss,eqD_tt,eqD_ll] using q)
    | tup es=>
      obtain⟨p2,ys,jts,rfl,hq2,v2,hp2,r2⟩:=h2
      first
        |exact RcNeAt.int_tuple _ _ hp2 hu
        |(have q:=RcNeAt.int_tuple (A:=A) (s:=s) _ _ hp2 hu;simpa[eqD_bb,eqD_bi,eqD_ib,eqD_ii,eqD_ss,eqD_tt,eqD_ll] using q)
    | lst es=>
      obtain⟨p2,ys,jts,rfl,hq2,v2,hp2,r2⟩:=h2
      first
        |exact RcNeAt.int_list _ _ hp2 hu
        |(have q:=RcNeAt.int_list (A:=A) (s:=s) _ _ hp2 hu;simpa[eqD_bb,eqD_bi,eqD_ib,eqD_ii,eqD_ss,eqD_tt,eqD_ll] using q)
  | str a=>
    obtain⟨t1,rfl⟩:=h1
    cases e with
    | non=>
      cases h2
      first
        |exact RcNeAt.str_none _ _
        |(have q:=RcNeAt.str_none (A:=A) (s:=s) _ _;simpa[eqD_bb,eqD_bi,eqD_ib,eqD_ii,eqD_ss,eqD_tt,eqD_ll] using q)
    | bl b=>
      cases h2
      first
        |exact RcNeAt.str_bool _ _ _
        |(have q:=RcNeAt.str_bool (A:=A) (s:=s) _ _ _;simpa[eqD_bb,eqD_bi,eqD_ib,eqD_ii,eqD_ss,eqD_tt,eqD_ll] using q)
    | int b=>
      obtain⟨t2,rfl⟩:=h2
      first
        |exact RcNeAt.str_int _ _ _ _
        |(have q:=RcNeAt.str_int (A:=A) (s:=s) _ _ _ _;simpa[eqD_bb,eqD_bi,eqD_ib,eqD_ii,eqD_ss,eqD_tt,eqD_ll] using q)
    | str b=>
      obtain⟨t2,rfl⟩:=h2
      first
        |exact RcNeAt.str_str _ _ _ _
        |(have q:=RcNeAt.str_str (A:=A) (s:=s) _ _ _ _;simpa[eqD_bb,eqD_bi,eqD_ib,eqD_ii,eqD_ss,eqD_tt,eqD_ll] using q)
    | tup es=>
      obtain⟨p2,ys,jts,rfl,hq2,v2,hp2,r2⟩:=h2
      first
        |exact RcNeAt.str_tuple _ _ hp2 hu
        |(have q:=RcNeAt.str_tuple (A:=A) (s:=s) _ _ hp2 hu;simpa[eqD_bb,eqD_bi,eqD_ib,eqD_ii,eqD_ss,eqD_tt,eqD_ll] using q)
    | lst es=>
      obtain⟨p2,ys,jts,rfl,hq2,v2,hp2,r2⟩:=h2
      first
        |exact RcNeAt.str_list _ _ hp2 hu
        |(have q:=RcNeAt.str_list (A:=A) (s:=s) _ _ hp2 hu;simpa[eqD_bb,eqD_bi,eqD_ib,eqD_ii,eqD_ss,eqD_tt,eqD_ll] using q)
  | tup ds=>
    obtain⟨p1,xs,its,rfl,hq1,v1,hp1,r1⟩:=h1
    cases e with
    | non=>
      cases h2
      first
        |exact RcNeAt.tuple_none hp1 hu
        |(have q:=RcNeAt.tuple_none (A:=A) (s:=s) hp1 hu;simpa[eqD_bb,eqD_bi,eqD_ib,eqD_ii,eqD_ss,eqD_tt,eqD_ll] using q)
    | bl b=>
      cases h2
      first
        |exact RcNeAt.tuple_bool _ hp1 hu
        |(have q:=RcNeAt.tuple_bool (A:=A) (s:=s) _ hp1 hu;simpa[eqD_bb,eqD_bi,eqD_ib,eqD_ii,eqD_ss,eqD_tt,eqD_ll] using q)
    | int b=>
      obtain⟨t2,rfl⟩:=h2
      first
        |exact RcNeAt.tuple_int _ _ hp1 hu
        |(have q:=RcNeAt.tuple_int (A:=A) (s:=s) _ _ hp1 hu;simpa[eqD_bb,eqD_bi,eqD_ib,eqD_ii,eqD_ss,eqD_tt,eqD_ll] using q)
    | str b=>
      obtain⟨t2,rfl⟩:=h2
      first
        |exact RcNeAt.tuple_str _ _ hp1 hu
        |(have q:=RcNeAt.tuple_str (A:=A) (s:=s) _ _ hp1 hu;simpa[eqD_bb,eqD_bi,eqD_ib,eqD_ii,eqD_ss,eqD_tt,eqD_ll] using q)
    | tup es=>
      obtain⟨p2,ys,jts,rfl,hq2,v2,hp2,r2⟩:=h2
      have q:=RcNeAt.tuples hp1 hp2 hu (items_eq r1 r2 v1 v2 ih)
      simp only[List.size_toArray] at q
      rw[tup_word (r1.length.trans v1.length) (r2.length.trans v2.length)] at q
      rw[eqD_tt];exact q
    | lst es=>
      obtain⟨p2,ys,jts,rfl,hq2,v2,hp2,r2⟩:=h2
      first
        |exact RcNeAt.tuple_list hp1 hp2 hu
        |(have q:=RcNeAt.tuple_list (A:=A) (s:=s) hp1 hp2 hu;simpa[eqD_bb,eqD_bi,eqD_ib,eqD_ii,eqD_ss,eqD_tt,eqD_ll] using q)
  | lst ds=>
    obtain⟨p1,xs,its,rfl,hq1,v1,hp1,r1⟩:=h1
    cases e with
    | non=>
      cases h2
      first
        |exact RcNeAt.list_none hp1 hu
        |(have q:=RcNeAt.list_none (A:=A) (s:=s) hp1 hu;simpa[eqD_bb,eqD_bi,eqD_ib,eqD_ii,eqD_ss,eqD_tt,eqD_ll] using q)
    | bl b=>
      cases h2
      first
        |exact RcNeAt.list_bool _ hp1 hu
        |(have q:=RcNeAt.list_bool (A:=A) (s:=s) _ hp1 hu;simpa[eqD_bb,eqD_bi,eqD_ib,eqD_ii,eqD_ss,eqD_tt,eqD_ll] using q)
    | int b=>
      obtain⟨t2,rfl⟩:=h2
      first
        |exact RcNeAt.list_int _ _ hp1 hu
        |(have q:=RcNeAt.list_int (A:=A) (s:=s) _ _ hp1 hu;simpa[eqD_bb,eqD_bi,eqD_ib,eqD_ii,eqD_ss,eqD_tt,eqD_ll] using q)
    | str b=>
      obtain⟨t2,rfl⟩:=h2
      first
        |exact RcNeAt.list_str _ _ hp1 hu
        |(have q:=RcNeAt.list_str (A:=A) (s:=s) _ _ hp1 hu;simpa[eqD_bb,eqD_bi,eqD_ib,eqD_ii,eqD_ss,eqD_tt,eqD_ll] using q)
    | tup es=>
      obtain⟨p2,ys,jts,rfl,hq2,v2,hp2,r2⟩:=h2
      first
        |exact RcNeAt.list_tuple hp1 hp2 hu
        |(have q:=RcNeAt.list_tuple (A:=A) (s:=s) hp1 hp2 hu;simpa[eqD_bb,eqD_bi,eqD_ib,eqD_ii,eqD_ss,eqD_tt,eqD_ll] using q)
    | lst es=>
      obtain⟨p2,ys,jts,rfl,hq2,v2,hp2,r2⟩:=h2
      by_cases hz:ds.length=es.length
      · have q:=RcNeAt.lists hp1 hp2 (by simp only[List.size_toArray];rw[←v1.length,←v2.length,←r1.length,←r2.length];exact hz) hu (items_eq r1 r2 v1 v2 ih)
        rw[List.size_toArray,←v1.length,←r1.length,←eqDs_all hz] at q
        rw[eqD_ll];exact q
      · rw[eqD_ll,eqDs_len hz]
        exact RcNeAt.lists_lengths hp1 hp2 (by simp only[List.size_toArray];rw[←v1.length,←v2.length,←r1.length,←r2.length];simpa using hz) hu
theorem eqAt_all (I:Inv X pins σ H s):∀(n:Nat) (A:Around) (d:D),dep d≤n→A.units+n < cLine→∀(e:D) (v w:V) (u u':Value),Rep X.K O H d v→Rep X.K O' H e w→RelV v u→RelV w u'→EqAt A s u u' (eqD d e):=by
  intro n
  induction n with
  | zero=>
    intro A d hd hu e v w u u' r1 r2 q1 q2
    refine eqAt_ind I (by omega) (lk_of I r1 q1) (lk_of I r2 q2) fun c hc=>?_
    cases d with
    |tup ds=>rw[dep] at hd;omega
    |lst ds=>rw[dep] at hd;omega
    |_=>simp at hc
  | succ n ihn=>
    intro A d hd hu e v w u u' r1 r2 q1 q2
    refine eqAt_ind I (by omega) (lk_of I r1 q1) (lk_of I r2 q2) fun c hc=>?_
    have hc':dep c≤n:=by
      cases d with
      |tup ds=>rw[dep] at hd;have:=deps_le (ds:=ds) hc;omega
      |lst ds=>rw[dep] at hd;have:=deps_le (ds:=ds) hc;omega
      |_=>simp at hc
    exact ihn A.in1 c hc' (by show A.units+1+n < cLine;omega)
end
noncomputable def eqK (d e:D):R D:=if dep d≤40 then .ok (.bl (eqD d e)) else .bad
noncomputable def neK (d e:D):R D:=if dep d≤40 then .ok (.bl (!eqD d e)) else .bad
section
variable {X:Cx}
theorem op_eqD (hu:X.A.units+60 < cLine):OpR X (compareOp .Eq) (fun x y H Q=>∃O O' d e,Rep X.K O H d x∧Rep X.K O' H e y∧dep d≤40∧Q (.bl (eqD d e)) H):=by
  intro pins s σ H x y v u Q I rx ry h
  obtain⟨O,O',d,e,r1,r2,hd,q⟩:=h
  refine rcAt_ind I (show X.A.units < cLine by omega) (lk_of I r1 rx) (lk_of I r2 ry) (fun c hc=>?_) X.prog X.w X.xe _ ⟨.bl _,H,I,rfl,q⟩
  have hc':dep c≤40:=by
    cases d with
    |tup ds=>rw[dep] at hd;have:=deps_le (ds:=ds) hc;omega
    |lst ds=>rw[dep] at hd;have:=deps_le (ds:=ds) hc;omega
    |_=>simp at hc
  exact eqAt_all I 40 X.A.in1 c hc' (by show X.A.units+1+40 < cLine;omega)
theorem op_neD (hu:X.A.units+60 < cLine):OpR X (compareOp .NotEq) (fun x y H Q=>∃O O' d e,Rep X.K O H d x∧Rep X.K O' H e y∧dep d≤40∧Q (.bl (!eqD d e)) H):=by
  intro pins s σ H x y v u Q I rx ry h
  obtain⟨O,O',d,e,r1,r2,hd,q⟩:=h
  refine rnAt_ind I (show X.A.units < cLine by omega) (lk_of I r1 rx) (lk_of I r2 ry) (fun c hc=>?_) X.prog X.w X.xe _ ⟨.bl _,H,I,rfl,q⟩
  have hc':dep c≤40:=by
    cases d with
    |tup ds=>rw[dep] at hd;have:=deps_le (ds:=ds) hc;omega
    |lst ds=>rw[dep] at hd;have:=deps_le (ds:=ds) hc;omega
    |_=>simp at hc
  exact eqAt_all I 40 X.A.in1 c hc' (by show X.A.units+1+40 < cLine;omega)
theorem od_eq (hu:X.A.units+60 < cLine):OpD X (compareOp .Eq) eqK:=by
  refine⟨_,op_eqD hu,fun ρ O σ H Q x y dx dy j rx ry h=>?_⟩
  unfold eqK at h
  by_cases hd:dep dx≤40
  · rw[if_pos hd] at h;exact⟨O,O,dx,dy,rx,ry,hd,fin h (rep_bl _)⟩
  · rw[if_neg hd] at h;exact h.elim
theorem od_ne (hu:X.A.units+60 < cLine):OpD X (compareOp .NotEq) neK:=by
  refine⟨_,op_neD hu,fun ρ O σ H Q x y dx dy j rx ry h=>?_⟩
  unfold neK at h
  by_cases hd:dep dx≤40
  · rw[if_pos hd] at h;exact⟨O,O,dx,dy,rx,ry,hd,fin h (rep_bl _)⟩
  · rw[if_neg hd] at h;exact h.elim
end
end Pu
namespace Pu
open PySem PySem.Spec L2
open PyProof.Rows hiding St
section
variable {prog:Program} {w:World} {A:Around} {E:Value→Shared→Prop} {s:Shared}
end
section
variable {X:Cx} {e:Expr} {te:TE} {pos p2 p3 p4:Pos} {j:Nat} {f:Rho→R D}
theorem Vals.rev {xs:List V} {us:List Value} (h:Vals xs us):Vals xs.reverse us.reverse:=by
  induction h with
  |nil=>exact .nil
  | cons r _ ih=>
    simp only[List.reverse_cons]
    exact ih.append (.cons r .nil)
noncomputable def revD:D→R D
  | .tup ds=> .ok (.tup ds.reverse)
  |_=> .bad
noncomputable def catD:D→D→R D
  | .int i,.int j=> .ok (.int (i+j))
  | .tup xs,.tup ys=>if 0 < xs.length∧xs.length+ys.length≤1000000 then .ok (.tup (xs++ys)) else .bad
  |_,_=> .bad
theorem od_cat:OpD X (binaryOp .Add) catD:=by
  refine⟨_,OpR.or op_add op_catT,fun ρ O σ H Q x y dx dy j0 rx ry h=>?_⟩
  cases dx <;> cases dy <;> first
    |exact h.elim
    |skip
  · rename_i i j
    exact .inl ⟨i,j,rx.int,ry.int,fin h (rep_int _)⟩
  · rename_i xs ys
    have h:good X (rD X) O (if 0 < xs.length∧xs.length+ys.length≤1000000 then .ok (.tup (xs++ys)) else .bad) σ H Q:=h
    by_cases hc:0 < xs.length∧xs.length+ys.length≤1000000
    · rw[if_pos hc] at h
      obtain⟨a,us,rfl,ha,r1⟩:=rx.tup
      obtain⟨b,ws,rfl,hb,r2⟩:=ry.tup
      refine .inr ⟨a,b,us,ws,rfl,rfl,ha,hb,fun z=>?_,?_,fun z=>?_,fun z l hl=>?_⟩
      · have h1:=r1.length
        have h2:=hc.1
        rw[z] at h1
        rw[h1] at h2
        exact Nat.lt_irrefl _ h2
      · rw[←r1.length,←r2.length];exact Nat.le_trans hc.2 sizeLine_ge
      · subst z
        have:ys=[]:=List.eq_nil_of_length_eq_zero r2.length
        subst this
        rw[List.append_nil] at h
        exact fin h (rep_tup ha r1)
      · exact h _ _ (Same.upd hl) (Rep.new_tup hl (r1.append r2))
    · rw[if_neg hc] at h;exact h.elim
end
end Pu
namespace Pu
open PySem PySem.Spec L2
open PyProof.Rows hiding St
section
variable {K:PySem.W.Frag} {O:Addr→Prop} {H:Hp}
end
section
variable {X:Cx} {e e1 e2:Expr} {f g:Rho→R D} {pos:Pos}
end
end Pu
namespace Pu
open PySem PySem.W PyProof.Rows
section
variable {n:Nat} {lt:Nat→Nat→Bool}
noncomputable def S (lt:Nat→Nat→Bool) (p:Array Nat) (k:Nat):Prop:=∀i j,i < j→j < k→lt (p.getD i 0) (p.getD j 0)=true
end
end Pu
namespace Pu
open PySem PySem.Spec PySem.W L2
open PyProof.Rows hiding St
section
variable {prog:Program} {w:World} {A:Around} {E:Value→Shared→Prop} {s:Shared}
end
end Pu
namespace Pu
open PySem PySem.Spec PySem.W L2
open PyProof.Rows hiding St
section
variable {prog:Program} {w:World} {A:Around} {E:Value→Shared→Prop} {s:Shared}
end
end Pu
namespace Pu
open PySem PySem.Spec PySem.W L2
open PyProof.Rows hiding St
section
variable {X:Cx} {pins:List (Addr×Obj)} {σ:St} {H:Hp} {s:Shared}
end
section
variable {X:Cx}
end
end Pu
namespace Pu
open PySem PySem.Spec PySem.W L2
open PyProof.Rows hiding St
section
variable {X:Cx}
end
end Pu
namespace Pu
open PySem PySem.Spec L2
open PyProof.Rows hiding St
section
variable {X:Cx} {a b:Expr} {es:List Expr} {f g:Rho→R D} {fa:Rho→R (List D)} {pos:Pos}
noncomputable def parS (i k:Nat) (f g:Rho→R D):Rho→So:=fun ρ=>ofR (f ρ) ρ fun d=>ofR (g ρ) ρ fun e=> .nx ((ρ.set i (some (.val d))).set k (some (.val e)))
theorem ds_par (i k:Nat) {x y:Str} {px py pt:Pos} {kt k2 pt2} (hc:X.calm=true) (hN:X.N.Nodup) (ha:DE X a f) (hb:DE X b g) (hi:X.N[i]?=some x:=by rfl) (hk:X.N[k]?=some y:=by rfl) (hik:i≠k:=by decide)
    (hx:X.env.scope.names.lookup x=some .local:=by rfl) (hy:X.env.scope.names.lookup y=some .local:=by rfl)
    (h1:starEach [a,b] X.env=(false,eval a X.env)::starEach [b] X.env:=by rfl) (h2:starEach [b] X.env=(false,eval b X.env)::starEach [] X.env:=by rfl)
    (hw:swappedStores [.Tuple [.Name x px,.Name y py] kt pt] (.Tuple [a,b] k2 pt2) X.env=pure (some [x,y]):=by rfl)
    (hs:swapsWithSole [.Tuple [.Name x px,.Name y py] kt pt] (.Tuple [a,b] k2 pt2) pos.line X.env=pure false:=by rfl):
    DS X (.Assign [.Tuple [.Name x px,.Name y py] kt pt] (.Tuple [a,b] k2 pt2) pos) (parS i k f g):=by
  refine PS.imp (ps_par hc hN hi hk hik hx hy (pa_cons ha (pa_cons hb pa_nil h2) h1) hw hs) fun σ H E h=>?_
  obtain⟨H0,O0,O,ρ,j,h⟩:=h
  refine⟨ρ,O,j.inn,?_⟩
  unfold parS ofR at h
  cases e1:f ρ with
  |bad=>rw[e1] at h;exact h
  |err c=>rw[e1] at h;exact h σ H O j
  | ok d=>
    rw[e1] at h
    intro v H1 s1 rv
    have j1:=j.grow s1
    refine⟨ρ,O,j1.inn,?_⟩
    cases e2:g ρ with
    |bad=>simp only[e2] at h;exact h
    |err c=>simp only[e2] at h;exact XOk.same (h σ H O j) s1
    | ok e=>
      simp only[e2] at h
      intro w H2 s2 rw2
      refine⟨v,w,rfl,?_⟩
      exact h _ H2 O (((j1.grow s2).set (List.getElem?_eq_some_iff.mp hi).1 (rv.same s2)).set (List.getElem?_eq_some_iff.mp hk).1 rw2) ((Same.rch s1).trans (Same.rch s2))
noncomputable def parO (i k:Nat) (f:Rho→R D) (fa:Rho→R (List D)):Rho→So:=fun ρ=>ofR (f ρ) ρ fun d=>match fa ρ with
  | .ok ds=>if ds.length≤1000000 then .nx ((ρ.set i (some (.val d))).set k (some (.lst ds))) else .bad
  |_=> .bad
theorem ds_parO (i k:Nat) {x y:Str} {px py pt p3:Pos} {kt k2 pt2} (hc:X.calm=true) (hN:X.N.Nodup) (ha:DE X a f) (hb:DA X es fa) (hi:X.N[i]?=some x:=by rfl) (hk:X.N[k]?=some y:=by rfl)
    (hx:Loc X.env.scope x:=by first |exact Or.inl rfl |exact Or.inr rfl) (hy:Loc X.env.scope y:=by first |exact Or.inl rfl |exact Or.inr rfl)
    (hfx:X.fn x=true∨X.env.scope.names.lookup x=some .local:=by first |exact .inl rfl |exact .inr rfl) (hfy:X.fn y=true∨X.env.scope.names.lookup y=some .local:=by first |exact .inl rfl |exact .inr rfl)
    (h1:starEach [a,.List es p3] X.env=(false,eval a X.env)::starEach [.List es p3] X.env:=by rfl) (h2:starEach [.List es p3] X.env=(false,eval (.List es p3) X.env)::starEach [] X.env:=by rfl)
    (hs:swapsWithSole [.Tuple [.Name x px,.Name y py] kt pt] (.Tuple [a,.List es p3] k2 pt2) pos.line X.env=pure false:=by rfl) (hw:swappedStores [.Tuple [.Name x px,.Name y py] kt pt] (.Tuple [a,.List es p3] k2 pt2) X.env=pure none:=by rfl):
    DS X (.Assign [.Tuple [.Name x px,.Name y py] kt pt] (.Tuple [a,.List es p3] k2 pt2) pos) (parO i k f fa):=by
  refine PS.imp (ps_asg (pe_tup (pa_cons ha (pa_cons (pe_lstK hb) pa_nil h2) h1)) (pg_tup hc (pgs_cons (pg_name hN hi hx hfx) (pgs_cons (pg_name hN hk hy hfy) pgs_nil))) hs hw) fun σ H E h=>?_
  obtain⟨H0,O0,O,ρ,j,h⟩:=h
  refine⟨ρ,O,j.inn,?_⟩
  unfold parO ofR at h
  cases e1:f ρ with
  |bad=>rw[e1] at h;exact h
  |err c=>rw[e1] at h;exact h σ H O j
  | ok d=>
    rw[e1] at h
    intro v H1 s1 rv
    have j1:=j.grow s1
    refine⟨ρ,O,j1.inn,?_⟩
    cases e2:fa ρ with
    |bad=>simp only[e2] at h;exact h
    |err c=>simp only[e2] at h;exact h.elim
    | ok ds=>
      simp only[e2] at h
      by_cases hl:ds.length≤1000000
      · simp only[if_pos hl] at h
        intro vs H2 s2 rvs
        refine⟨by rw[←rvs.length];exact Nat.le_trans hl sizeLine_ge,fun p hp hpk=>?_⟩
        refine⟨by show 2≤sizeLine;decide,fun t ht=>?_⟩
        refine⟨t,[v,.ref p],rfl,SqT.of upd_same,rfl,v,[.ref p],rfl,.ref p,[],rfl,rfl,?_⟩
        have j2:=(j1.grow s2).set (List.getElem?_eq_some_iff.mp hi).1 (rv.same s2)
        obtain⟨j3,r3⟩:=j2.own (List.getElem?_eq_some_iff.mp hk).1 (o:= .lst vs) (en:= .lst ds) hp hpk rfl ⟨p,vs,rfl,.inr rfl,upd_same,rvs.go ⟨(Same.rch (K:=X.K) (O:=O) (Same.upd hp)).ext,fun a z=>z.elim .inl fun e=> .inr (by rw[e];exact⟨hp,hpk⟩),(Same.rch (K:=X.K) (O:=O) (Same.upd hp)).dom⟩⟩
        have s4:Same (upd H2 p (.lst vs)) (upd (upd H2 p (.lst vs)) t (.tup [v,.ref p])):=Same.upd ht
        exact h _ _ _ (j3.grow s4) ((((Same.rch s1).trans (Same.rch s2)).trans r3).trans (Same.rch s4))
      · simp only[if_neg hl] at h;exact h.elim
end
noncomputable def ans_int (s:String):Bool:=s == "int" || s == "bool"
noncomputable def ans_bool (s:String):Bool:=s == "bool"
noncomputable def ans_tuple (s:String):Bool:=s == "tuple"
noncomputable def ans_list (s:String):Bool:=s == "list"
noncomputable def FnD (P:Program) (w:World) (K:PySem.W.Frag) (mg:Str→Option Value) (base:Heap) (k:Nat) (x:Str) (n:Nat) (F:List D→R D):Prop:=
  ∃f fd ps,FnOk P w K mg base CX0 k f fd ps (spD K n F)∧mg x=some (.ref f)∧PySem.W.keepIn K (.ref f)=true∧Binds K fd ps []
theorem de_fn {X:Cx} {k n m:Nat} {F:List D→R D} {x:Str} {p pos:Pos} {e:Expr} {es:List Expr} {fa:Rho→R (List D)} (G:FnD X.prog X.w X.K X.mg X.base k x n F) (hr:Room m X.A) (hkm:k≤m) (ha:DA X (e::es) fa) (hg:Gl X x:=by rfl)
    (hdb:(x ==("__debug__" :Str))=false:=by decide) (he:starEach (e::es) X.env=(false,eval e X.env)::starEach es X.env:=by rfl) (hpl:(backTo pos (starEach es X.env)).any (·.1)=false:=by rfl):
    DE X (.Call (.Name x p) (e::es) [] pos) (callV (noErr F n) fa):=by
  obtain⟨f,fd,ps,ok,hm,hk,hb⟩:=G
  exact de_call ok (hr.mono hkm) hg hm hk hb ha hdb he hpl
theorem room_u {A:Around} {k:Nat} (hr:Room k A):A.units+60 < cLine:=by have:=hr.un;omega
theorem fnD_of {P:Program} {w:World} {K:PySem.W.Frag} {mg:Str→Option Value} {base:Heap} {x qual:Str} {st:Stmt} {f:Addr} {fd:FuncData} {N ps:List Str} {k n m:Nat} {g:Rho→So} (Fn:Fun K x qual st f fd) (hmg:mg x=some (.ref f)) (hb:Binds K fd ps []) (S:FnScope N ps (defScope st)) (hn:ps.length=n) (hm:N.length=n+m)
    (hbody:∀(cdv:Value) (A:Around) (outer:List PySem.Env) (s:Shared) (H:Hp) (E:XK),Room k (A.deeper (envOfC qual (defScope st) s.heap.objs.size f cdv))→DSs (cxOf CX0 P w K mg base N qual (defScope st) f cdv A outer s H E).nox (defBody st) g):
    FnD P w K mg base (k+1) x n (runB m g):=⟨f,fd,ps,fnD Fn S hn hm hbody fun ds d _ e=>e,hmg,Fn.kp,hb⟩
theorem sp_law {K:PySem.W.Frag} {F:List D→R D} {H:Hp} {a:Addr} {ns:List Int} {E:XK} (hS:SqL K H a (ns.map V.int)) (hF:F [.lst (ns.map D.int)]= .ok (.bl true)):spD K 1 F [.ref a] H (fun v _=>v= .bl true) E:=by
  refine⟨fun _=>False,[.lst (ns.map D.int)],.cons (rep_lst hS (fun z=>z) ?_) .nil,rfl,fun a z=>z.elim,?_⟩
  · have:∀l:List Int,Reps K (fun _=>False) H (l.map D.int) (l.map V.int):=by
      intro l
      induction l with
      |nil=>exact .nil
      |cons i l ih=>exact .cons (rep_int i) ih
    exact this ns
  · rw[hF]
    exact fun v H' _ r=>r.bl
end Pu
namespace Pu
open PySem PySem.Spec L2
theorem mapO_on {α:Type} {k:D→R (Option D)} {c h:α→D}:∀{l:List α},(∀a∈l,k (c a)= .ok (some (h a)))→mapO k (l.map c)= .ok (l.map h)
  |[],_=>rfl
  | a::l,q=>by
    rw[List.map_cons,mapO,q a (by simp),noE_ok,R.bind_ok,mapO_on fun b hb=>q b (by simp[hb])]
    rfl
theorem boolsOf_on {α:Type} {c:α→Bool}:∀{l:List α},boolsOf (l.map fun a=> .bl (c a))=some (l.map c)
  |[]=>rfl
  | a::l=>by
    rw[List.map_cons,boolsOf,boolsOf_on]
    rfl
theorem intsOf_on {α:Type} {c:α→Int}:∀{l:List α},intsOf (l.map fun a=> .int (c a))=some (l.map c)
  |[]=>rfl
  | a::l=>by
    rw[List.map_cons,intsOf,intsOf_on]
    rfl
theorem deps_on {α:Type} {c:α→D} {n:Nat}:∀{l:List α},(∀a∈l,dep (c a)≤n)→deps (l.map c)≤n
  |[],_=>by rw[List.map_nil,deps];omega
  | a::l,h=>by
    rw[List.map_cons,deps]
    have:=h a (by simp)
    have:=deps_on (l:=l) fun b hb=>h b (by simp[hb])
    omega
theorem neK_same {d e:D} (h:d=e) (hd:dep d≤40):neK d e= .ok (.bl false):=by
  subst h
  rw[neK,if_pos hd,eqD_refl];rfl
theorem eqK_same {d e:D} (h:d=e) (hd:dep d≤40):eqK d e= .ok (.bl true):=by
  subst h
  rw[eqK,if_pos hd,eqD_refl]
theorem all_true {l:List α}:(l.map fun _=>true).all id=true:=by
  induction l with
  |nil=>rfl
  |cons a l ih=>rw[List.map_cons,List.all_cons,ih];rfl
theorem atI_nat {α:Type} {xs:List α} {j:Nat} (h:j < xs.length):atI xs (j:Int)=some xs[j]:=by
  unfold atI ixN
  rw[if_pos (by omega),if_pos (by omega),Int.toNat_natCast,Option.bind_some,List.getElem?_eq_getElem h]
theorem atI_int {α:Type} {xs:List α} {i:Int} (h0:0≤i) (h1:i < xs.length):∃x∈xs,atI xs i=some x:=by
  obtain⟨j,rfl⟩:=Int.eq_ofNat_of_zero_le h0
  have hj:j < xs.length:=by omega
  exact⟨xs[j],List.getElem_mem hj,atI_nat hj⟩
theorem comp_on {α:Type} {n:Nat} {caps:List Nat} {fi:Rho→R (List D)} {gt:D→Rho→R Rho} {ft:Rho→R Bool} {fe:Rho→R D} {ρ:Rho} {c h:α→D} {l:List α} (e1:fi ρ= .ok (l.map c)) (hl:l.length≤1000000)
    (e2:∀a∈l,eltV gt ft fe (pullN n caps ρ) (c a)= .ok (some (h a))):compV n caps fi gt ft fe ρ= .ok (.lst (l.map h)):=by
  rw[compV,e1,R.bind_ok,mapO_on e2,R.bind_ok,cap,if_pos (by rw[List.length_map];exact hl)]
noncomputable def look:List (Int×Int)→Int→Int
  |[],_=>0
  |(k,v)::r,c=>if k=c then v else look r c
noncomputable abbrev keys (ps:List (Int×Int)):List Int:=ps.map (·.1)
theorem perm_nd {α:Type} [BEq α] [LawfulBEq α] {a b:List α} (ha:a.Nodup) (hb:b.Nodup) (h:∀x,x∈a↔x∈b):a.Perm b:=by
  refine List.perm_iff_count.mpr fun x=>?_
  have h1:=List.nodup_iff_count.mp ha x
  have h2:=List.nodup_iff_count.mp hb x
  by_cases hx:x∈a
  · have:=List.count_pos_iff.mpr hx
    have:=List.count_pos_iff.mpr ((h x).mp hx)
    omega
  · have:=List.count_eq_zero.mpr hx
    have:=List.count_eq_zero.mpr fun z=>hx ((h x).mpr z)
    omega
end Pu
namespace Pu
open PySem PySem.Spec L2
section
variable {ρ ρ':Rho} {f g:Rho→R D} {fa:Rho→R (List D)} {p q:Rho→R Bool} {x y d:D} {xs ds:List D} {r:R D} {k:D→D→R D} {c:List D→R D} {n:Nat} {F:List D→R D} {o:So} {s t:Rho→So} {gt:D→Rho→R Rho} {b:Bool}
theorem ev_call (e:fa ρ= .ok ds) (h:c ds=r):callV c fa ρ=r:=by rw[callV,e];exact h
theorem ev_fn (e:fa ρ= .ok ds) (h:F ds= .ok d) (hl:ds.length=n:=by rfl):callV (noErr F n) fa ρ= .ok d:=by rw[callV,e,R.bind_ok,noErr,if_pos hl,h];rfl
theorem evc (e1:f ρ= .ok x) (e2:fa ρ= .ok xs):consA f fa ρ= .ok (x::xs):=by rw[consA,e1,R.bind_ok,e2];rfl
theorem evo (e:f ρ= .ok x):consA f (fun _=> .ok []) ρ= .ok [x]:=evc e rfl
theorem ev_bin (e1:f ρ= .ok x) (e2:g ρ= .ok y) (h:k x y=r):bin f g k ρ=r:=by rw[bin,e1,R.bind_ok,e2];exact h
theorem ev_and (e1:f ρ= .ok (.bl true)) (e2:g ρ=r):andV f g ρ=r:=by rw[andV,e1];exact e2
theorem ev_chn {h:Rho→R D} {l:D→D→R D} {z:D} (e1:f ρ= .ok x) (e2:g ρ= .ok y) (e3:k x y= .ok (.bl true)) (e4:h ρ= .ok z) (e5:l y z=r):chn f g h k l ρ=r:=by
  rw[chn,e1,R.bind_ok,e2,R.bind_ok,e3,R.bind_ok]
  show (h ρ).bind _=_
  rw[e4];exact e5
theorem ev_tup (e:fa ρ= .ok ds) (h:ds.length≤1000000:=by exact Nat.le_of_ble_eq_true rfl):tupV fa ρ= .ok (.tup ds):=by rw[tupV,e,R.bind_ok,cap,if_pos h]
theorem ev_lst (e:fa ρ= .ok ds) (h:ds.length≤1000000:=by exact Nat.le_of_ble_eq_true rfl):lstV fa ρ= .ok (.lst ds):=by rw[lstV,e,R.bind_ok,cap,if_pos h]
theorem ev_seqT (e:f ρ= .ok (.tup ds)):seqI f ρ= .ok ds:=by rw[seqI,e];rfl
theorem ev_seqL (e:f ρ= .ok (.lst ds)):seqI f ρ= .ok ds:=by rw[seqI,e];rfl
theorem ev_rng {m:Nat} (e:fa ρ= .ok [.int (m:Int)]) (h:m < 2 ^ 62):(fun ρ=>(fa ρ).bind rng1) ρ= .ok ((List.range m).map fun (i:Nat)=>D.int (i:Int)):=by
  show (fa ρ).bind rng1=_
  rw[e,R.bind_ok,rng1,if_pos ⟨by have:(0:Int)≤m:=Int.natCast_nonneg m;omega,by omega⟩]
  simp[upto]
theorem ev_elt {ρ1:Rho} (e1:gt x ρ= .ok ρ1) (e2:f ρ1= .ok d):eltV gt (fun _=> .ok true) f ρ x= .ok (some d):=by
  rw[eltV,e1,R.bind_ok,R.bind_ok,if_pos rfl,e2];rfl
theorem ev_tst (e:f ρ= .ok (.bl b)):tst f ρ= .ok b:=by rw[tst,e];rfl
theorem ev_not (e:p ρ= .ok b):notT p ρ= .ok (!b):=by rw[notT,e];rfl
theorem ev_orF (e1:p ρ= .ok false) (e2:q ρ= .ok b):orT p q ρ= .ok b:=by rw[orT,e1,R.bind_ok,if_neg (by decide)];exact e2
theorem ev_andT (e1:p ρ= .ok true) (e2:q ρ= .ok b):andT p q ρ= .ok b:=by rw[andT,e1,R.bind_ok,if_pos rfl];exact e2
theorem ev_andF (e1:p ρ= .ok false):andT p q ρ= .ok false:=by rw[andT,e1,R.bind_ok,if_neg (by decide)]
theorem ev_ix {i:Nat} (h:xs[i]?=some d):ixD (.tup xs) (.int (i:Int))= .ok d:=by
  obtain⟨hi,e⟩:=List.getElem?_eq_some_iff.mp h
  rw[ixD,atI_nat hi,e]
theorem ev_ixL {i:Nat} (h:xs[i]?=some d):ixD (.lst xs) (.int (i:Int))= .ok d:=by
  obtain⟨hi,e⟩:=List.getElem?_eq_some_iff.mp h
  rw[ixD,atI_nat hi,e]
theorem ev_seq (e1:s ρ= .nx ρ') (e2:t ρ'=o):seqS s t ρ=o:=by rw[seqS,e1];exact e2
theorem ev_ret (e:f (thaw ρ)= .ok d):retS f ρ= .rt d:=by rw[retS,e];rfl
theorem ev_asg (e:f ρ= .ok d) (e2:gt d ρ= .ok ρ'):asgS f gt ρ= .nx ρ':=by rw[asgS,e];show (match gt d ρ with | .ok ρ'=>So.nx ρ' |_=> .bad)=_;rw[e2]
theorem ev_expr (e:f (thaw ρ)= .ok d):exprS f ρ= .nx ρ:=by rw[exprS,e];rfl
theorem ev_ifT (e:p (thaw ρ)= .ok true) (e2:s ρ=o):ifS p s t ρ=o:=by rw[ifS,e];exact e2
theorem ev_ifF (e:p (thaw ρ)= .ok false) (e2:t ρ=o):ifS p s t ρ=o:=by rw[ifS,e];exact e2
theorem ev_rt {m:Nat} (e:s (ds.map (fun d=>some (.val d))++List.replicate m none)= .rt d):runB m s ds= .ok d:=by rw[runB,e]
theorem ev_nx {m:Nat} (e:s (ds.map (fun d=>some (.val d))++List.replicate m none)= .nx ρ):runB m s ds= .ok .non:=by rw[runB,e]
theorem ev_mul {i j:Int} (h:(-(2 ^ 64) < i∧i < 2 ^ 64)∨(-(2 ^ 64) < j∧j < 2 ^ 64)):mulI (.int i) (.int j)= .ok (.int (i*j)):=by
  show (if _ then _ else _)=_
  rw[if_pos h]
theorem ev_div {i j:Int} (h:0 < j∧j < 2 ^ 64):divI (.int i) (.int j)= .ok (.int (i / j)):=by
  show (if _ then _ else _)=_
  rw[if_pos h]
theorem ev_mod {i j:Int} (h:0 < j):modI (.int i) (.int j)= .ok (.int (i % j)):=by
  show (if _ then _ else _)=_
  rw[if_pos h]
theorem ev_allL {α:Type} {l:List α}:allD [.lst (l.map fun _=> .bl true)]= .ok (.bl true):=by
  have:=boolsOf_on (c:=fun _:α=>true) (l:=l)
  rw[allD,this]
  show R.ok (D.bl _)=_
  rw[all_true]
theorem ev_sumL {α:Type} {c:α→Int} {l:List α}:sumD [.lst (l.map fun a=> .int (c a))]= .ok (.int (l.map c).sum):=by rw[sumD,intsOf_on]
end
end Pu
namespace Pu
open PySem PySem.Spec L2
noncomputable def g_drawn:Rho→So:=(seqS (asgS (bin (fun _=> .ok (.int 7)) (fun ρ=>getV ρ 1) mulI) (setV 3)) (seqS (ifS (tst (bin (fun ρ=>getV ρ 0) (lstV (fun _=> .ok [])) neK)) (seqS (asgS (bin (fun ρ=>getV ρ 0) (bin (fun ρ=>getV ρ 1) (callV lenD (consA (fun ρ=>getV ρ 0) (fun _=> .ok []))) modI) ixD) (setV 3)) (seqS (asgS (bin (fun ρ=>getV ρ 1) (callV lenD (consA (fun ρ=>getV ρ 0) (fun _=> .ok []))) divI) (setV 4)) (seqS (ifS (andT (tst (bin (fun ρ=>getV ρ 3) (bin (fun _=> .ok (.int 10)) (fun _=> .ok (.int 18)) powI) geI)) (tst (bin (fun ρ=>getV ρ 4) (fun _=> .ok (.int 60)) ltI))) (seqS (asgS (bin (fun ρ=>getV ρ 3) (bin (fun _=> .ok (.int 10)) (fun _=> .ok (.int 18)) powI) divI) (setV 5)) (seqS (whS (andT (tst (bin (fun ρ=>getV ρ 5) (fun _=> .ok (.int 0)) gtI)) (tst (bin (fun ρ=>getV ρ 4) (fun _=> .ok (.int 0)) gtI))) (seqS (asgS (bin (fun ρ=>getV ρ 5) (fun _=> .ok (.int 1000000)) divI) (setV 5)) (asgS (bin (fun ρ=>getV ρ 4) (fun _=> .ok (.int 1)) subI) (setV 4))) 64) (ifS (tst (bin (fun ρ=>getV ρ 5) (fun _=> .ok (.int 0)) gtI)) (retS (bin (bin (fun ρ=>getV ρ 5) (fun _=> .ok (.int 1000000)) modI) (fun ρ=>getV ρ 2) modI)) So.nx))) So.nx) (asgS (bin (fun ρ=>getV ρ 3) (bin (fun _=> .ok (.int 6553)) (bin (fun ρ=>getV ρ 1) (callV lenD (consA (fun ρ=>getV ρ 0) (fun _=> .ok []))) divI) mulI) catD) (setV 3))))) So.nx) (seqS (asgS (bin (bin (bin (bin (fun ρ=>getV ρ 3) (fun _=> .ok (.int 2147483563)) modI) (fun _=> .ok (.int 69069)) mulI) (bin (fun _=> .ok (.int 104723)) (bin (fun ρ=>getV ρ 1) (fun _=> .ok (.int 1)) catD) mulI) catD) (fun _=> .ok (.int 2147483563)) modI) (setV 3)) (seqS (asgS (bin (bin (bin (fun ρ=>getV ρ 3) (fun ρ=>getV ρ 3) mulI) (bin (fun ρ=>getV ρ 3) (fun _=> .ok (.int 3)) divI) catD) (fun _=> .ok (.int 2147483399)) modI) (setV 3)) (retS (bin (bin (bin (bin (bin (fun ρ=>getV ρ 3) (fun ρ=>getV ρ 3) mulI) (bin (fun ρ=>getV ρ 3) (fun _=> .ok (.int 7)) divI) catD) (fun _=> .ok (.int 2147483647)) modI) (fun _=> .ok (.int 11)) divI) (fun ρ=>getV ρ 2) modI))))))
noncomputable def tailD:Rho→So:=(seqS (asgS (bin (bin (bin (bin (fun ρ=>getV ρ 3) (fun _=> .ok (.int 2147483563)) modI) (fun _=> .ok (.int 69069)) mulI) (bin (fun _=> .ok (.int 104723)) (bin (fun ρ=>getV ρ 1) (fun _=> .ok (.int 1)) catD) mulI) catD) (fun _=> .ok (.int 2147483563)) modI) (setV 3)) (seqS (asgS (bin (bin (bin (fun ρ=>getV ρ 3) (fun ρ=>getV ρ 3) mulI) (bin (fun ρ=>getV ρ 3) (fun _=> .ok (.int 3)) divI) catD) (fun _=> .ok (.int 2147483399)) modI) (setV 3)) (retS (bin (bin (bin (bin (bin (fun ρ=>getV ρ 3) (fun ρ=>getV ρ 3) mulI) (bin (fun ρ=>getV ρ 3) (fun _=> .ok (.int 7)) divI) catD) (fun _=> .ok (.int 2147483647)) modI) (fun _=> .ok (.int 11)) divI) (fun ρ=>getV ρ 2) modI))))
noncomputable def blkD:Rho→So:=(ifS (andT (tst (bin (fun ρ=>getV ρ 3) (bin (fun _=> .ok (.int 10)) (fun _=> .ok (.int 18)) powI) geI)) (tst (bin (fun ρ=>getV ρ 4) (fun _=> .ok (.int 60)) ltI))) (seqS (asgS (bin (fun ρ=>getV ρ 3) (bin (fun _=> .ok (.int 10)) (fun _=> .ok (.int 18)) powI) divI) (setV 5)) (seqS (whS (andT (tst (bin (fun ρ=>getV ρ 5) (fun _=> .ok (.int 0)) gtI)) (tst (bin (fun ρ=>getV ρ 4) (fun _=> .ok (.int 0)) gtI))) (seqS (asgS (bin (fun ρ=>getV ρ 5) (fun _=> .ok (.int 1000000)) divI) (setV 5)) (asgS (bin (fun ρ=>getV ρ 4) (fun _=> .ok (.int 1)) subI) (setV 4))) 64) (ifS (tst (bin (fun ρ=>getV ρ 5) (fun _=> .ok (.int 0)) gtI)) (retS (bin (bin (fun ρ=>getV ρ 5) (fun _=> .ok (.int 1000000)) modI) (fun ρ=>getV ρ 2) modI)) So.nx))) So.nx)
noncomputable def wcD:Rho→R Bool:=(andT (tst (bin (fun ρ=>getV ρ 5) (fun _=> .ok (.int 0)) gtI)) (tst (bin (fun ρ=>getV ρ 4) (fun _=> .ok (.int 0)) gtI)))
noncomputable def wbD:Rho→So:=(seqS (asgS (bin (fun ρ=>getV ρ 5) (fun _=> .ok (.int 1000000)) divI) (setV 5)) (asgS (bin (fun ρ=>getV ρ 4) (fun _=> .ok (.int 1)) subI) (setV 4)))
section
variable {S s0 s1 s2 s3 x y:Option Ent} {k m c:Int}
theorem tail_eq (hm:0 < m):∃v,tailD [S,some (.val (.int k)),some (.val (.int m)),some (.val (.int c)),x,y]= .rt (.int v)∧0≤v∧v < m:=by
  refine⟨_,ev_seq (ev_asg (ev_bin (ev_bin (ev_bin (ev_bin rfl rfl (ev_mod (by omega))) rfl (ev_mul (.inr ⟨by omega,by omega⟩))) (ev_bin rfl (ev_bin rfl rfl rfl) (ev_mul (.inl ⟨by omega,by omega⟩))) rfl) rfl (ev_mod (by omega))) rfl)
    (ev_seq (ev_asg (ev_bin (ev_bin (ev_bin rfl rfl (ev_mul (.inl ?b1))) (ev_bin rfl rfl (ev_div ⟨by omega,by omega⟩)) rfl) rfl (ev_mod (by omega))) rfl)
    (ev_ret (ev_bin (ev_bin (ev_bin (ev_bin (ev_bin rfl rfl (ev_mul (.inl ?b2))) (ev_bin rfl rfl (ev_div ⟨by omega,by omega⟩)) rfl) rfl (ev_mod (by omega))) rfl (ev_div ⟨by omega,by omega⟩)) rfl (ev_mod hm)))),Int.emod_nonneg _ (by omega),Int.emod_lt_of_pos _ hm⟩
  case b1=>
    have h1:=Int.emod_nonneg (c % 2147483563*69069+104723*(k+1)) (b:=2147483563) (by omega)
    have h2:=Int.emod_lt_of_pos (c % 2147483563*69069+104723*(k+1)) (b:=2147483563) (by omega)
    constructor <;> omega
  case b2=>
    generalize (c % 2147483563*69069+104723*(k+1)) % 2147483563=z
    have h1:=Int.emod_nonneg (z*z+z / 3) (b:=2147483399) (by omega)
    have h2:=Int.emod_lt_of_pos (z*z+z / 3) (b:=2147483399) (by omega)
    constructor <;> omega
theorem ev_gt {i j:Int}:gtI (.int i) (.int j)= .ok (.bl (decide (j < i))):=rfl
theorem while_eq:∀{n:Nat} {t r:Int},0≤t→t < n→∃t' r',whS wcD wbD n [s0,s1,s2,s3,some (.val (.int t)),some (.val (.int r))]= .nx [s0,s1,s2,s3,some (.val (.int t')),some (.val (.int r'))]
  |0,t,r,h0,h1=>by omega
  | n + 1,t,r,h0,h1=>by
    rw[whS]
    by_cases hr:0 < r
    · by_cases ht:0 < t
      · obtain⟨t',r',e⟩:=while_eq (n:=n) (t:=t - 1) (r:=r / 1000000) (by omega) (by omega)
        refine⟨t',r',?_⟩
        have e1:wcD (thaw [s0,s1,s2,s3,some (.val (.int t)),some (.val (.int r))])= .ok true:=ev_andT (ev_tst (ev_bin rfl rfl (by rw[ev_gt,decide_eq_true hr]))) (ev_tst (ev_bin rfl rfl (by rw[ev_gt,decide_eq_true ht])))
        have e2:wbD [s0,s1,s2,s3,some (.val (.int t)),some (.val (.int r))]= .nx [s0,s1,s2,s3,some (.val (.int (t - 1))),some (.val (.int (r / 1000000)))]:=ev_seq (ev_asg (ev_bin rfl rfl (ev_div ⟨by omega,by omega⟩)) rfl) (ev_asg (ev_bin rfl rfl rfl) rfl)
        simp only[e1,e2]
        exact e
      · refine⟨t,r,?_⟩
        have e1:wcD (thaw [s0,s1,s2,s3,some (.val (.int t)),some (.val (.int r))])= .ok false:=ev_andT (ev_tst (ev_bin rfl rfl (by rw[ev_gt,decide_eq_true hr]))) (ev_tst (ev_bin rfl rfl (by rw[ev_gt,decide_eq_false ht])))
        simp only[e1]
    · refine⟨t,r,?_⟩
      have e1:wcD (thaw [s0,s1,s2,s3,some (.val (.int t)),some (.val (.int r))])= .ok false:=ev_andF (ev_tst (ev_bin rfl rfl (by rw[ev_gt,decide_eq_false hr])))
      simp only[e1]
theorem pow18:powI (.int 10) (.int 18)= .ok (.int 1000000000000000000):=by
  unfold powI iD
  simp only[]
  rw[if_pos ⟨by decide,by decide,by decide⟩];rfl
theorem blk_eq {t:Int} (hm:0 < m) (ht:0≤t):(∃t' x',blkD [S,some (.val (.int k)),some (.val (.int m)),some (.val (.int c)),some (.val (.int t)),x]= .nx [S,some (.val (.int k)),some (.val (.int m)),some (.val (.int c)),some (.val (.int t')),x'])∨
    ∃v,blkD [S,some (.val (.int k)),some (.val (.int m)),some (.val (.int c)),some (.val (.int t)),x]= .rt (.int v)∧0≤v∧v < m:=by
  by_cases h1:1000000000000000000≤c
  · by_cases h2:t < 60
    · have e:(andT (tst (bin (fun ρ=>getV ρ 3) (bin (fun _=> .ok (.int 10)) (fun _=> .ok (.int 18)) powI) geI)) (tst (bin (fun ρ=>getV ρ 4) (fun _=> .ok (.int 60)) ltI))) (thaw [S,some (.val (.int k)),some (.val (.int m)),some (.val (.int c)),some (.val (.int t)),x])= .ok true:=
        ev_andT (ev_tst (ev_bin rfl (ev_bin rfl rfl pow18) (by show R.ok (D.bl (decide _))=_;rw[decide_eq_true h1]))) (ev_tst (ev_bin rfl rfl (by show R.ok (D.bl (decide _))=_;rw[decide_eq_true h2])))
      obtain⟨t',r',ew⟩:=while_eq (s0:=S) (s1:=some (.val (.int k))) (s2:=some (.val (.int m))) (s3:=some (.val (.int c))) (n:=64) (t:=t) (r:=c / 1000000000000000000) ht (by omega)
      by_cases h3:0 < r'
      · exact .inr ⟨_,ev_ifT e (ev_seq (ev_asg (ev_bin rfl (ev_bin rfl rfl pow18) (ev_div ⟨by omega,by omega⟩)) rfl) (ev_seq ew (ev_ifT (ev_tst (ev_bin rfl rfl (by rw[ev_gt,decide_eq_true h3]))) (ev_ret (ev_bin (ev_bin rfl rfl (ev_mod (by omega))) rfl (ev_mod hm)))))),Int.emod_nonneg _ (by omega),Int.emod_lt_of_pos _ hm⟩
      · exact .inl ⟨t',some (.val (.int r')),ev_ifT e (ev_seq (ev_asg (ev_bin rfl (ev_bin rfl rfl pow18) (ev_div ⟨by omega,by omega⟩)) rfl) (ev_seq ew (ev_ifF (ev_tst (ev_bin rfl rfl (by rw[ev_gt,decide_eq_false h3]))) rfl)))⟩
    · exact .inl ⟨t,x,ev_ifF (ev_andT (ev_tst (ev_bin rfl (ev_bin rfl rfl pow18) (by show R.ok (D.bl (decide _))=_;rw[decide_eq_true h1]))) (ev_tst (ev_bin rfl rfl (by show R.ok (D.bl (decide _))=_;rw[decide_eq_false h2])))) rfl⟩
  · exact .inl ⟨t,x,ev_ifF (ev_andF (ev_tst (ev_bin rfl (ev_bin rfl rfl pow18) (by show R.ok (D.bl (decide _))=_;rw[decide_eq_false h1])))) rfl⟩
end
theorem ev_seqR {ρ:Rho} {s t:Rho→So} {d:D} (e1:s ρ= .rt d):seqS s t ρ= .rt d:=by rw[seqS,e1]
theorem ev_ixI {xs:List D} {i:Int} {d:D} (h:atI xs i=some d):ixD (.lst xs) (.int i)= .ok d:=by rw[ixD,h]
theorem drawn_eq {ns:List Int} {k m:Int} (hl:ns.length≤1000000) (hk:0≤k) (hm:0 < m):∃v,runB 3 g_drawn [.lst (ns.map .int),.int k,.int m]= .ok (.int v)∧0≤v∧v < m:=by
  have hd:dep (.lst (ns.map .int))≤40:=by
    rw[dep]
    have:=deps_on (c:=D.int) (n:=0) (l:=ns) (fun a _=>by simp[dep])
    omega
  cases ns with
  | nil=>
    obtain⟨v,e,h⟩:=tail_eq (S:=some (.val (.lst []))) (k:=k) (c:=7*k) (x:=none) (y:=none) hm
    exact⟨v,ev_rt (ev_seq (ev_asg (ev_bin rfl rfl (ev_mul (.inl ⟨by omega,by omega⟩))) rfl) (ev_seq (ev_ifF (ev_tst (ev_bin rfl (ev_lst rfl) (neK_same rfl hd))) rfl) e)),h⟩
  | cons a ns=>
    have hn:neK (.lst ((a::ns).map .int)) (.lst [])= .ok (.bl true):=by
      rw[neK,if_pos hd];rfl
    have hlen:(0:Int) < (((a::ns).map D.int).length:Int):=by rw[List.length_map,List.length_cons];omega
    have hlen2:(((a::ns).map D.int).length:Int) < 2 ^ 64:=by rw[List.length_map];omega
    obtain⟨d,hd1,hd2⟩:=atI_int (xs:=(a::ns).map D.int) (i:=k % (((a::ns).map D.int).length:Int)) (Int.emod_nonneg _ (by omega)) (Int.emod_lt_of_pos _ hlen)
    obtain⟨c,-,rfl⟩:=List.mem_map.mp hd1
    have ht:0≤k / (((a::ns).map D.int).length:Int):=Int.ediv_nonneg hk (by omega)
    generalize hL:(((a::ns).map D.int).length:Int)=L at *
    have hlenD:∀(S x1 x2 x3 x4 x5:Option Ent),S=some (Ent.val (.lst ((a::ns).map D.int)))→callV lenD (consA (fun ρ=>getV ρ 0) (fun _=> .ok [])) [S,x1,x2,x3,x4,x5]= .ok (.int L):=by
      intro S x1 x2 x3 x4 x5 e
      subst e
      rw[←hL]
      exact ev_call (evo rfl) rfl
    rcases blk_eq (S:=some (.val (.lst ((a::ns).map .int)))) (k:=k) (m:=m) (c:=c) (x:=none) hm ht with⟨t',x',e⟩ |⟨v,e,h⟩
    · obtain⟨v,e2,h⟩:=tail_eq (S:=some (.val (.lst ((a::ns).map .int)))) (k:=k) (c:=c+6553*(k / L)) (x:=some (.val (.int t'))) (y:=x') hm
      exact⟨v,ev_rt (ev_seq (ev_asg (ev_bin rfl rfl (ev_mul (.inl ⟨by omega,by omega⟩))) rfl) (ev_seq (ev_ifT (ev_tst (ev_bin rfl (ev_lst rfl) hn))
        (ev_seq (ev_asg (ev_bin rfl (ev_bin rfl (hlenD _ _ _ _ _ _ rfl) (ev_mod hlen)) (ev_ixI hd2)) rfl) (ev_seq (ev_asg (ev_bin rfl (hlenD _ _ _ _ _ _ rfl) (ev_div ⟨hlen,hlen2⟩)) rfl) (ev_seq e (ev_asg (ev_bin rfl (ev_bin rfl (ev_bin rfl (hlenD _ _ _ _ _ _ rfl) (ev_div ⟨hlen,hlen2⟩)) (ev_mul (.inl ⟨by omega,by omega⟩))) rfl) rfl))))) e2)),h⟩
    · exact⟨v,ev_rt (ev_seq (ev_asg (ev_bin rfl rfl (ev_mul (.inl ⟨by omega,by omega⟩))) rfl) (ev_seqR (ev_ifT (ev_tst (ev_bin rfl (ev_lst rfl) hn))
        (ev_seq (ev_asg (ev_bin rfl (ev_bin rfl (hlenD _ _ _ _ _ _ rfl) (ev_mod hlen)) (ev_ixI hd2)) rfl) (ev_seq (ev_asg (ev_bin rfl (hlenD _ _ _ _ _ _ rfl) (ev_div ⟨hlen,hlen2⟩)) rfl) (ev_seqR e)))))),h⟩
theorem forL_cons {ρ ρ1 ρ2:Rho} {gt:D→Rho→R Rho} {b:Rho→So} {x:D} {xs:List D} {o:So} (e1:gt x ρ= .ok ρ1) (e2:b ρ1= .nx ρ2) (e3:forL gt b xs ρ2=o):forL gt b (x::xs) ρ=o:=by
  rw[forL]
  simp only[e1,e2]
  exact e3
theorem ev_for {ρ:Rho} {fi:Rho→R (List D)} {gt:D→Rho→R Rho} {b:Rho→So} {xs:List D} {o:So} (e1:fi ρ= .ok xs) (e2:forL gt b xs ρ=o):forS fi gt b ρ=o:=by
  rw[forS,e1];exact e2
theorem ev_parO {ρ:Rho} {i k:Nat} {f:Rho→R D} {fa:Rho→R (List D)} {d:D} {ds:List D} (e1:f ρ= .ok d) (e2:fa ρ= .ok ds) (h:ds.length≤1000000:=by exact Nat.le_of_ble_eq_true rfl):parO i k f fa ρ= .nx ((ρ.set i (some (.val d))).set k (some (.lst ds))):=by
  unfold parO
  rw[e1]
  simp only[ofR,e2]
  rw[if_pos h]
theorem ev_parS {ρ:Rho} {i k:Nat} {f g:Rho→R D} {d e:D} (e1:f ρ= .ok d) (e2:g ρ= .ok e):parS i k f g ρ= .nx ((ρ.set i (some (.val d))).set k (some (.val e))):=by
  unfold parS
  rw[e1]
  simp only[ofR,e2]
noncomputable def dr (ns:List Int) (k m:Int):Int:=match runB 3 g_drawn [.lst (ns.map .int),.int k,.int m] with
  | .ok (.int v)=>v
  |_=>0
theorem dr_eq {ns:List Int} {k m:Int} (hl:ns.length≤1000000) (hk:0≤k) (hm:0 < m):runB 3 g_drawn [.lst (ns.map .int),.int k,.int m]= .ok (.int (dr ns k m))∧0≤dr ns k m∧dr ns k m < m:=by
  obtain⟨v,e,h⟩:=drawn_eq hl hk hm
  have:dr ns k m=v:=by rw[dr,e]
  rw[this]
  exact⟨e,h⟩
end Pu
namespace Pu
open PySem PySem.Spec L2
open PyProof.Rows hiding St
section
variable {X:Cx}
noncomputable def absD:List D→R D
  |[.int i]=> .ok (.int (if i < 0 then -i else i))
  |_=> .bad
theorem cd_abs:CallD X (.builtin "abs") absD:=by
  refine⟨_,call_abs,fun ρ O σ H Q xs ds j r h=>?_⟩
  unfold absD at h
  split at h
  · rename_i i
    obtain⟨x,rfl,rx⟩:=r.one
    exact⟨i,by rw[rx.int],fin h (rep_int _)⟩
  · exact h.elim
noncomputable def maxD:List D→R D
  |[.int i,.int j]=> .ok (.int (if j > i then j else i))
  |_=> .bad
theorem cd_max (hc:X.calm=true):CallD X (.builtin "max") maxD:=by
  refine⟨_,call_max2 hc,fun ρ O σ H Q xs ds j r h=>?_⟩
  unfold maxD at h
  split at h
  · rename_i i k
    obtain⟨x,y,rfl,rx,ry⟩:=r.two
    exact⟨i,k,by rw[rx.int,ry.int],fin h (rep_int _)⟩
  · exact h.elim
noncomputable def minD:List D→R D
  |[.int i,.int j]=> .ok (.int (if j < i then j else i))
  |_=> .bad
theorem cd_min (hc:X.calm=true):CallD X (.builtin "min") minD:=by
  refine⟨_,call_min2 hc,fun ρ O σ H Q xs ds j r h=>?_⟩
  unfold minD at h
  split at h
  · rename_i i k
    obtain⟨x,y,rfl,rx,ry⟩:=r.two
    exact⟨i,k,by rw[rx.int,ry.int],fin h (rep_int _)⟩
  · exact h.elim
noncomputable def isNon:D→Bool
  | .non=>true
  |_=>false
theorem isNon_V {K:PySem.W.Frag} {O:Addr→Prop} {H:Hp} {d:D} {v:V} (r:Rep K O H d v):decide (v= .non)=isNon d:=by
  cases d with
  |non=>rw[r.non];rfl
  |bl b=>rw[r.bl];rfl
  |int i=>rw[r.int];rfl
  |str x=>rw[r.str];rfl
  |tup ds=>obtain⟨a,xs,rfl,_⟩:=r.tup;rfl
  |lst ds=>obtain⟨a,xs,rfl,_⟩:=r.lst;rfl
noncomputable def isD:D→D→R D
  |d,.non=> .ok (.bl (isNon d))
  |_,_=> .bad
theorem od_is:OpD X (compareOp .Is) isD:=by
  refine⟨_,op_isN,fun ρ O σ H Q x y dx dy j0 rx ry h=>?_⟩
  cases dy with
  |non=>exact⟨ry.non,by rw[isNon_V rx];exact fin (a:=D.bl (isNon dx)) h (rep_bl _)⟩
  |_=>cases dx <;> exact h.elim
theorem op_cat0:OpR X (binaryOp .Add) (fun x y H Q=>∃a b ys,x= .ref a∧y= .ref b∧SqT X.K H a []∧SqT X.K H b ys∧Q (.ref b) H):=by
  intro pins s σ H x y v u Q I rx ry h
  obtain⟨a,b,ys,rfl,rfl,ha,hb,q⟩:=h
  cases rx
  cases ry
  obtain⟨its,r1,p1,_⟩:=I.tuple ha
  obtain⟨its2,r2,p2,_⟩:=I.tuple hb
  cases r1
  obtain⟨⟨cls,dd,data,sl⟩,ho,hc,n,hd⟩:=id p1
  obtain⟨⟨cls2,dd2,data2,sl2⟩,ho2,hc2,n2,hd2⟩:=id p2
  simp only at hc hd hc2 hd2
  subst hc hd hc2 hd2
  exact concat_meets ⟨_,ho,rfl⟩ ⟨_,ho2,rfl⟩ noFill_tuple_add seq_tuple_add PySem.F.slot_tuple_add PySem.F.entry_tuple_add (PySem.F.args_tuple_add_2 _ _)
      (tuple_addW0 a b _ _ n n2 dd dd2 sl sl2 rfl) ⟨ho,ho2,⟨.ref b,H,I,rfl,q⟩⟩
noncomputable def negD:D→R D
  | .int i=> .ok (.int (-i))
  |_=> .bad
noncomputable def negV (f:Rho→R D):Rho→R D:=fun ρ=>(f ρ).bind negD
theorem de_neg {e:Expr} {f:Rho→R D} {pos:Pos} (he:DE X e f):DE X (.UnaryOp .USub e pos) (negV f):=by
  refine PE.imp (pe_un un_neg he) fun σ H Q h=>?_
  obtain⟨ρ,O,j,h⟩:=h
  refine go j h fun d v H1 e1 s1 r1 j1 h1=>?_
  cases d with
  |int i=>exact⟨i,r1.int,fin h1 (rep_int _)⟩
  |_=>exact h1.elim
theorem op_catL:OpR X (binaryOp .Add) (fun x y H Q=>∃a b xs ys,x= .ref a∧y= .ref b∧SqL X.K H a xs∧SqL X.K H b ys∧xs.length+ys.length≤sizeLine∧∀p,H p=none→Q (.ref p) (upd H p (.lst (xs++ys)))):=by
  intro pins s σ H x y v u Q I rx ry h
  obtain⟨a,b,xs,ys,rfl,rfl,ha,hb,hz,q⟩:=h
  cases rx
  cases ry
  obtain⟨its,r1,p1,_⟩:=I.list ha
  obtain⟨its2,r2,p2,_⟩:=I.list hb
  obtain⟨⟨cls,dd,data,sl⟩,n,ho,hc,hdd,hd⟩:=id p1
  obtain⟨⟨cls2,dd2,data2,sl2⟩,n2,ho2,hc2,hdd2,hd2⟩:=id p2
  simp only at hc hd hc2 hd2
  subst hc hd hc2 hd2
  refine concat_meets ⟨_,ho,rfl⟩ ⟨_,ho2,rfl⟩ noFill_list_add seq_list_add PySem.F.slot_list_add PySem.F.entry_list_add (PySem.F.args_list_add_2 _ _)
      (list_addW a b _ _ n n2 dd dd2 sl sl2 (by rw[List.size_toArray,List.size_toArray,←r1.length,←r2.length];exact hz)) ⟨ho,ho2,?_⟩
  have ea:its.toArray++its2.toArray=(its++its2).toArray:=by simp
  rw[ea]
  exact⟨.ref _,_,I.lnew (t':=s.toks) (r1.append r2) (by rw[List.length_append];omega),rfl,q _ I.fresh⟩
noncomputable def addD:D→D→R D
  | .int i,.int j=> .ok (.int (i+j))
  | .tup xs,.tup ys=>if xs.length+ys.length≤1000000 then .ok (.tup (xs++ys)) else .bad
  | .lst xs,.lst ys=>if xs.length+ys.length≤1000000 then .ok (.lst (xs++ys)) else .bad
  |_,_=> .bad
theorem od_addD:OpD X (binaryOp .Add) addD:=by
  refine⟨_,OpR.or op_add (OpR.or op_catT (OpR.or op_cat0 op_catL)),fun ρ O σ H Q x y dx dy j0 rx ry h=>?_⟩
  cases dx <;> cases dy <;> first
    |exact h.elim
    |skip
  · rename_i i j
    exact .inl ⟨i,j,rx.int,ry.int,fin h (rep_int _)⟩
  · rename_i xs ys
    have h:good X (rD X) O (if xs.length+ys.length≤1000000 then .ok (.tup (xs++ys)) else .bad) σ H Q:=h
    by_cases hc:xs.length+ys.length≤1000000
    · rw [if_pos hc] at h
      obtain⟨a,us,rfl,ha,r1⟩:=rx.tup
      obtain⟨b,ws,rfl,hb,r2⟩:=ry.tup
      by_cases hx:us=[]
      · subst hx
        have:xs=[]:=List.eq_nil_of_length_eq_zero r1.length
        subst this
        exact .inr (.inr (.inl ⟨a,b,ws,rfl,rfl,ha,hb,fin h (rep_tup hb r2)⟩))
      · refine .inr (.inl ⟨a,b,us,ws,rfl,rfl,ha,hb,hx,?_,fun z=>?_,fun z l hl=>?_⟩)
        · rw[←r1.length,←r2.length];exact Nat.le_trans hc sizeLine_ge
        · subst z
          have:ys=[]:=List.eq_nil_of_length_eq_zero r2.length
          subst this
          rw[List.append_nil] at h
          exact fin h (rep_tup ha r1)
        · exact h _ _ (Same.upd hl) (Rep.new_tup hl (r1.append r2))
    · rw[if_neg hc] at h;exact h.elim
  · rename_i xs ys
    have h:good X (rD X) O (if xs.length+ys.length≤1000000 then .ok (.lst (xs++ys)) else .bad) σ H Q:=h
    by_cases hc:xs.length+ys.length≤1000000
    · rw[if_pos hc] at h
      obtain⟨a,us,rfl,ha,_,r1⟩:=rx.lst
      obtain⟨b,ws,rfl,hb,_,r2⟩:=ry.lst
      refine .inr (.inr (.inr ⟨a,b,us,ws,rfl,rfl,ha,hb,?_,fun l hl=>?_⟩))
      · rw[←r1.length,←r2.length];exact Nat.le_trans hc sizeLine_ge
      · exact h _ _ (Same.upd hl) (Rep.new_lst hl (j0.notO hl) (r1.append r2))
    · rw[if_neg hc] at h;exact h.elim
end
section
variable {prog:Program} {w:World} {A:Around} {E:Value→Shared→Prop} {s:Shared}
open HT in
theorem getItem_tuple_whole {t sl:Addr} {items:Array Value} {vl vu:Value} {lo hi:Option Int} {Q:Value→Shared→Prop} (ht:IsTup s.heap t items) (hs:s.heap.IsSliceOf sl vl vu .none) (pl:IsPart vl lo) (pu:IsPart vu hi)
    (hw:sIx items.size 0 lo=0∧sIx items.size items.size hi=items.size) (h:Q (.ref t) s):wpAny (model prog w) A (getItem (.ref t) (.ref sl)) Q E s:=by
  obtain⟨os,hos,hcs,hds⟩:=id hs
  have hTs:s.TypeIs (.ref sl) "slice" :=⟨os,hos,hcs⟩
  unfold getItem
  try with_reducible refine wpAny_holding ?_
  first |refine wpAny_bind (wpAny_pure ?_) |skip
  refine wpAny_bind (wpAny_sequenceKey ht.typeIs (by decide) ?_)
  refine wpAny_bind (wpAny_callSpecial?_slot (name:=Str.ofString "__getitem__") ht.typeIs PyProof.Rows.slot_tuple_getitem
    (wpAny_call_entry PyProof.Rows.slot_tuple_getitem ht.typeIs entry_tuple_getitem ?_ (args_tuple_getitem _ _)))
  show wpAny _ _ (Builtin.Tuple.tupleItemsOf (.ref t) >>=_) _ _ s
  refine wpAny_bind (tupleItemsOf_ ht ?_)
  refine wpAny_bind (wpAny_typeOf hTs ?_)
  rw[if_pos (by decide)]
  refine wpAny_bind (sliceApplied_gen hs pl pu ?_)
  show wpAny _ _ (if (((sIx items.size 0 lo:Nat):Int) ==0 && (1:Int) ==1 && (sIx items.size items.size hi - sIx items.size 0 lo) ==items.size)=true then _ else _) _ _ s
  rw[if_pos (by rw[hw.1,hw.2];simp)]
  refine wpAny_bind (m:=Builtin.Tuple.tupleIsExact _) (wpAny_bind (wpAny_typeOf ht.typeIs (wpAny_pure ?_)))
  rw[if_pos (beq_self_eq_true _)]
  first
    |exact wpAny_bind (wpAny_pure (wpAny_pure ⟨_,rfl,wpAny_pure h⟩))
    |exact wpAny_bind (wpAny_rule (wpAny_pure ⟨_,rfl,wpAny_pure h⟩))
end
section
variable {X:Cx} {e e1:Expr} {lo hi:Option Expr} {f f1:Rho→R D} {fl fu:Rho→R (Option Int)} {pos p2:Pos}
noncomputable def rSlW (K:PySem.W.Frag):V→Option Int→Option Int→Hp→VK→Prop:=fun x lo hi H Q=>∃a xs,x= .ref a∧SqT K H a xs∧
  (HT.sIx xs.length 0 lo=0∧HT.sIx xs.length xs.length hi=xs.length)∧Q (.ref a) H
theorem sl_tupW:SlR X (rSlW X.K):=by
  intro pins s σ H x v vl vu lo hi sl Q I rx hs pl pu h
  obtain⟨a,xs,rfl,hx,hw,q⟩:=h
  cases rx
  obtain⟨its,r,ht,hz⟩:=I.tuple hx
  have hlen:its.toArray.size=xs.length:=by rw[List.size_toArray];exact r.length.symm
  exact⟨"tuple",_,PyProof.Rows.slot_tuple_getitem.lookup,ht.typeIs,getItem_tuple_whole ht hs pl pu (by rw[hlen];exact hw) ⟨.ref a,H,I,rfl,q⟩⟩
noncomputable abbrev rOpt:(Addr→Prop)→Hp→Option Int→Option Int→Prop:=fun _ _ a b=>a=b
noncomputable def DPo (X:Cx) (lo:Option Expr) (fo:Rho→R (Option Int)):Prop:=PO X lo (tG X rOpt fo)
theorem PO.imp {t t':TO} (h:PO X lo t) (w:∀σ H Q,t' σ H Q→t σ H Q):PO X lo t':=fun pins s σ H Q I q=>h pins s σ H Q I (w σ H Q q)
theorem dpo_none:DPo X none (fun _=> .ok none):=by
  refine PO.imp po_none fun σ H Q h=>?_
  obtain⟨ρ,O,j,h⟩:=h
  exact fin h rfl
noncomputable def asI:D→R (Option Int)
  | .int i=> .ok (some i)
  |_=> .bad
theorem dpo_some (h:DE X e1 f1):DPo X (some e1) (fun ρ=>(f1 ρ).bind asI):=by
  refine PO.imp (po_some h) fun σ H Q h=>?_
  obtain⟨ρ,O,j,h⟩:=h
  refine go j h fun d v H1 e1 s1 r1 j1 h1=>?_
  cases d with
  |int i=>exact⟨i,r1.int,fin h1 rfl⟩
  |_=>exact h1.elim
noncomputable def cutL (ds:List D) (lo hi:Option Int):List D:=(ds.drop (HT.sIx ds.length 0 lo)).take (HT.sIx ds.length ds.length hi - HT.sIx ds.length 0 lo)
noncomputable def sliceD (d:D) (lo hi:Option Int):R D:=match d with
  | .tup ds=> .ok (.tup (cutL ds lo hi))
  |_=> .bad
noncomputable def sliceV (f:Rho→R D) (fl fu:Rho→R (Option Int)):Rho→R D:=fun ρ=>(f ρ).bind fun d=>(fl ρ).bind fun l=>(fu ρ).bind fun u=>sliceD d l u
theorem de_slice (he:DE X e f) (hl:DPo X lo fl) (hu:DPo X hi fu):DE X (.Subscript e (.Slice lo hi none p2) pos) (sliceV f fl fu):=by
  refine PE.imp (pe_slice (SlR.or sl_tup sl_tupW) he hl hu) fun σ H Q h=>?_
  obtain⟨ρ,O,j,h⟩:=h
  refine go j h fun d v H1 e1 s1 r1 j1 h1=>?_
  refine go j1 h1 fun l l' H2 e2 s2 r2 j2 h2=>?_
  refine go j2 h2 fun u u' H3 e3 s3 r3 j3 h3=>?_
  have r2:l=l':=r2
  have r3:u=u':=r3
  subst r2 r3
  cases d with
  | tup ds=>
    have r1':=(r1.same s2).same s3
    obtain⟨a,xs,rfl,hq,rs⟩:=r1'.tup
    have hlen:=rs.length
    by_cases hw:HT.sIx xs.length 0 l=0∧HT.sIx xs.length xs.length u=xs.length
    · refine .inr ⟨a,xs,rfl,hq,hw,?_⟩
      have e:cutL ds l u=ds:=by
        unfold cutL
        rw[hlen,hw.1,hw.2,List.drop_zero,Nat.sub_zero,←hlen,List.take_length]
      have h3:good X (rD X) O (.ok (.tup (cutL ds l u))) σ H3 Q:=h3
      rw[e] at h3
      exact fin h3 (rep_tup hq rs)
    · refine .inl ⟨a,xs,rfl,hq,hw,fun p hp=>?_⟩
      refine h3 _ _ (Same.upd hp) (Rep.new_tup hp ?_)
      unfold cutL cutV
      rw[hlen]
      exact (rs.drop _).take _
  |_=>exact h3.elim
end
end Pu
namespace Pu
open PySem PySem.Spec L2
open PyProof.Rows hiding St
noncomputable def pickK {α:Type} (z:α) (sel:List (Sum Nat α)) (ws:List α):List α:=sel.map fun
  | .inl i=>ws.getD i z
  | .inr c=>c
inductive Sel:List (Sum Nat Value)→List (Sum Nat V)→List (Sum Nat D)→Prop
  |nil:Sel [] [] []
  |at (i:Nat) {a b c}:Sel a b c→Sel (.inl i::a) (.inl i::b) (.inl i::c)
  |non {a b c}:Sel a b c→Sel (.inr .none::a) (.inr .non::b) (.inr .non::c)
  |str (x:Str) (t:Tok) {a b c}:Sel a b c→Sel (.inr (.str x t)::a) (.inr (.str x)::b) (.inr (.str x)::c)
  |int (x:Int) (t:Tok) {a b c}:Sel a b c→Sel (.inr (.int x t)::a) (.inr (.int x)::b) (.inr (.int x)::c)
  |bl (x:Bool) {a b c}:Sel a b c→Sel (.inr (.bool x)::a) (.inr (.bl x)::b) (.inr (.bl x)::c)
theorem vals_getD {zs:List V} {ws:List Value} (r:Vals zs ws) (i:Nat):RelV (zs.getD i .non) (ws.getD i .none):=by
  induction r generalizing i with
  |nil=>exact rfl
  | cons h _ ih=>
    cases i with
    |zero=>exact h
    |succ i=>exact ih i
theorem Sel.vals {a b c} (s:Sel a b c) {zs:List V} {ws:List Value} (r:Vals zs ws):Vals (pickK .non b zs) (pickK .none a ws):=by
  induction s with
  |nil=>exact .nil
  | «at» i _ ih=>exact .cons (vals_getD r i) ih
  |non _ ih=>exact .cons rfl ih
  |str x t _ ih=>exact .cons ⟨t,rfl⟩ ih
  |int x t _ ih=>exact .cons ⟨t,rfl⟩ ih
  |bl x _ ih=>exact .cons rfl ih
section
variable {K:PySem.W.Frag} {O:Addr→Prop} {H:Hp}
theorem reps_getD:∀{ds:List D} {zs:List V},Reps K O H ds zs→∀i:Nat,Rep K O H (ds.getD i .non) (zs.getD i .non)
  |[],zs,r,i=>by rw[r.nil_inv];exact rep_non
  | d::ds,zs,r,i=>by
    obtain⟨x,t,rfl,h1,h2⟩:=r.cons_inv
    cases i with
    |zero=>exact h1
    |succ i=>exact reps_getD h2 i
theorem Sel.reps {a b c} (s:Sel a b c) {ds:List D} {zs:List V} (r:Reps K O H ds zs):Reps K O H (pickK .non c ds) (pickK .non b zs):=by
  induction s with
  |nil=>exact .nil
  | «at» i _ ih=>exact .cons (reps_getD r i) ih
  |non _ ih=>exact .cons rep_non ih
  |str x t _ ih=>exact .cons (rep_str x) ih
  |int x t _ ih=>exact .cons (rep_int x) ih
  |bl x _ ih=>exact .cons (rep_bl x) ih
end
section
variable {X:Cx} {k n:Nat} {f:Addr} {fd:FuncData} {ps ks:List Str} {F:List D→R D} {x:Str} {p pos kpos:Pos} {e:Expr} {es:List Expr} {kws:List Keyword} {fa fk:Rho→R (List D)} {fe:Rho→R D} {nm:Option Str}
noncomputable def DK (X:Cx) (kws:List Keyword) (fk:Rho→R (List D)):Prop:=PK X kws (tG X (rDs X) fk)
theorem PK.imp {t t':TA} (h:PK X kws t) (w:∀σ H Q,t' σ H Q→t σ H Q):PK X kws t':=fun pos pins s σ H Q I q=>h pos pins s σ H Q I (w σ H Q q)
theorem dk_nil:DK X [] (fun _=> .ok []):=by
  refine PK.imp pk_nil fun σ H Q h=>?_
  obtain⟨ρ,O,j,h⟩:=h
  exact fin h .nil
theorem dk_cons (he:DE X e fe) (hr:DK X kws fk):DK X (⟨nm,e,kpos⟩::kws) (consA fe fk):=by
  refine PK.imp (pk_cons he hr) fun σ H Q h=>?_
  obtain⟨ρ,O,j,h⟩:=h
  refine go j h fun d v H1 e1 s1 r1 j1 h1=>?_
  refine go j1 h1 fun ds vs H2 e2 s2 r2 j2 h2=>?_
  exact fin h2 (.cons (r1.same s2) r2)
theorem pickK_len {α:Type} {z:α} {sel:List (Sum Nat α)} {ws:List α}:(pickK z sel ws).length=sel.length:=by unfold pickK;rw[List.length_map]
noncomputable def KB (K:PySem.W.Frag) (fd:FuncData) (ps ks:List Str) (sel:List (Sum Nat Value)):Prop:=∀(s:Shared) (us ws:List Value),K.In s.heap→us.length+sel.length=ps.length→ws.length=ks.length→BindsTo s fd ⟨us,ks.zip ws⟩ (ps.zip (us++pickK .none sel ws))
noncomputable def callK (F:List D→R D) (n m:Nat) (sel:List (Sum Nat D)) (fa fk:Rho→R (List D)):Rho→R D:=fun ρ=>(fa ρ).bind fun ds=>(fk ρ).bind fun zs=>if zs.length=m then noErr F n (ds++pickK .non sel zs) else .bad
end
section
variable {X:Cx} {k n:Nat} {f:Addr} {fd:FuncData} {ps:List Str} {F:List D→R D} {x:Str} {p pos:Pos} {e:Expr} {es:List Expr} {fa:Rho→R (List D)}
end
theorem len0 {α:Type} {l:List α} (h:l.length=0):l=[]:=List.eq_nil_of_length_eq_zero h
theorem lenS {α:Type} {l:List α} {n:Nat} (h:l.length=n+1):∃a m,l=a::m∧m.length=n:=by
  cases l with
  |nil=>simp at h
  |cons a m=>exact⟨a,m,rfl,by simpa using h⟩
section
variable {X:Cx} {k m n:Nat} {fd:FuncData} {ps ks:List Str} {F:List D→R D} {x:Str} {p pos:Pos} {e:Expr} {es:List Expr} {kws:List Keyword} {fa fk:Rho→R (List D)}
end
section
variable {K:PySem.W.Frag} {kV doc pm cdv ct:Value} {an:Option Addr} {body:List Stmt} {scope:Scope} {d:Addr} {t:Tok} {q:Pos}
noncomputable def trialArgs (q:Pos):Arguments:={posonlyargs:=[],args:=[⟨"p",none,q⟩],vararg:=none,kwonlyargs:=[⟨"manner",none,q⟩,⟨"marks",none,q⟩],kw_defaults:=[some (.Constant (.str "worth") 0 q),some (.Constant .none 0 q)],kwarg:=none,defaults:=[]}
example:KB K (PySem.W.fnOf "f" "f" (trialArgs q) body scope .none kV doc pm an cdv ct) ["p","manner","marks"] ["marks","manner"] [.inl 1,.inl 0]:=by
  intro s us ws i hl hw
  have hl1:us.length=1:=by simpa using hl
  clear hl
  obtain⟨u,us',rfl,hl2⟩:=lenS hl1
  clear hl1
  cases len0 hl2
  obtain⟨w1,ws1,rfl,hw1⟩:=lenS hw
  clear hw
  obtain⟨w2,ws2,rfl,hw2⟩:=lenS hw1
  clear hw1
  cases len0 hw2
  exact .of_eq rfl
end
end Pu
namespace Pu
open PySem PySem.Spec L2
open PyProof.Rows hiding St
section
variable {X:Cx}
end
end Pu
namespace Pu
open PySem PySem.Spec L2
open PyProof.Rows hiding St
section
variable {K:PySem.W.Frag} {O O':Addr→Prop} {H:Hp}
end
section
variable {X:Cx} {e:Expr} {f:Rho→R D} {pos:Pos}
end
section
variable {prog:Program} {w:World} {A:Around} {E:Value→Shared→Prop} {s:Shared} {t:Addr}
end
section
variable {X:Cx}
end
end Pu
namespace Pu
open PySem PySem.Spec L2
open PyProof.Rows hiding St
theorem noFill_tuple_mul:fillsNumberSlot (.type "tuple") "mul" =pure false:=
  PySem.fillsNumberSlot_seq (id:= "tuple.__mul__") (r:=some (.builtin "tuple.__rmul__")) F.slot_tuple_mul.lookup (by decide +kernel) F.slot_tuple_rmul.lookup (by decide +kernel)
theorem repeat_tuple:seqRepeat? (.type "tuple")=pure (some (.builtin "tuple.__mul__")):=by
  unfold seqRepeat?
  rw[PySem.seqSlot_of (T:= "tuple") (name:= "__mul__") (id:= "tuple.__mul__") F.slot_tuple_mul.lookup (by decide +kernel),PySem.seqSlot_of (T:= "tuple") (name:= "__rmul__") (id:= "tuple.__rmul__") F.slot_tuple_rmul.lookup (by decide +kernel)]
  rfl
theorem int_rmul_tuple (a:Int) (t:Tok) (l:Addr) (items:Array Value) (n:Nat) (dd:Option Addr) (sl:Array (Option Value)):
    Meets (Builtin.«int.__rmul__» ⟨[.int a t,.ref l],[]⟩) (fun _ R s=>s.heap.get? l=some {cls:= .type "tuple",dict:=dd,data:= .seq items n,slots:=sl}∧R (.ok (.ret Value.notImplemented)) s):=
  .of_wp fun prog w A R s h=>by obtain⟨hp,g,d,tk,os⟩:=s;obtain⟨hl,h⟩:=h;wp_walk;exact⟨_,rfl,h⟩
theorem tuple_mul1 (l:Addr) (items:Array Value) (n:Nat) (dd:Option Addr) (sl:Array (Option Value)) (t:Tok):
    Meets (Builtin.«tuple.__mul__» ⟨[.ref l,.int 1 t],[]⟩) (fun _ R s=>s.heap.get? l=some {cls:= .type "tuple",dict:=dd,data:= .seq items n,slots:=sl}∧R (.ok (.ret (.ref l))) {s with heap:=s.heap,toks:=s.toks}):=
  .of_wp fun prog w A R s h=>by obtain⟨hp,g,d,tk,os⟩:=s;obtain⟨hl,h⟩:=h;have f1:=AutoSeq1.idx_int;have hc0:(items.isEmpty || (1:Int) ==1)=true:=(by simp);unfold Builtin.«tuple.__mul__»;wp_walk using wpAny_loadPart' hl;exact⟨_,rfl,h⟩
theorem tuple_mulK (l:Addr) (items:Array Value) (n:Nat) (dd:Option Addr) (sl:Array (Option Value)) (k:Int) (t:Tok) (hf:¬(decide (k < -(2 ^ 63)) || decide (k≥2 ^ 63))=true) (hc0:¬(items.isEmpty || k ==1)=true) (hc1:¬(decide (k≤0) || items.isEmpty)=true)
    (hc2:¬(items.size:Int)*k > (2 ^ 63 - 1) / 8) (hc3:¬Builtin.Tuple.tupleTooMany ((items.size:Int)*k)=true) (hsz:sizeOk (.seq (List.foldl (fun x1 x2=>x1++x2) #[] (List.replicate k.toNat items)))):
    Meets (Builtin.«tuple.__mul__» ⟨[.ref l,.int k t],[]⟩) (fun _ R s=>s.heap.get? l=some {cls:= .type "tuple",dict:=dd,data:= .seq items n,slots:=sl}∧R (.ok (.ret (.ref s.heap.objs.size))) {s with heap:=s.heap.push {cls:=Value.type "tuple",data:=Data.seq (List.foldl (fun x1 x2=>x1++x2) #[] (List.replicate k.toNat items))},toks:=s.toks}):=
  .of_wp fun prog w A R s h=>by
    obtain⟨hp,g,d,tk,os⟩:=s
    obtain⟨hl,h⟩:=h
    have f1:=AutoSeq1.idx_int
    unfold Builtin.«tuple.__mul__»
    wp_walk using wpAny_loadPart' hl
    refine wpAny_ite_false (by simpa using hf) ?_
    wp_walk using wpAny_loadPart' hl
    refine wpAny_ite_false (by simpa using hc2) ?_
    wp_walk using wpAny_loadPart' hl
    refine wpAny_ite_false (by simpa[sizeOk] using hsz) ?_
    wp_walk using wpAny_loadPart' hl
    exact⟨_,rfl,h⟩
section
variable {X:Cx}
theorem op_repT:OpR X (binaryOp .Mult) (fun x y H Q=>∃a k xs,x= .ref a∧y= .int k∧SqT X.K H a xs∧xs≠[]∧1≤k∧k < 2 ^ 63∧xs.length*k.toNat≤sizeLine∧(k=1→Q (.ref a) H)∧
    (k≠1→∀p,H p=none→Q (.ref p) (upd H p (.tup (List.replicate k.toNat xs).flatten)))):=by
  intro pins s σ H x y v u Q I rx ry h
  obtain⟨a,k,xs,rfl,rfl,hq,hx,h1,h2,hz,q1,q2⟩:=h
  cases rx
  obtain⟨t,rfl⟩:=ry
  obtain⟨its,r,p1,_⟩:=I.tuple hq
  obtain⟨⟨cls,dd,data,sl⟩,ho,hc,n,hd⟩:=id p1
  simp only at hc hd
  subst hc hd
  have hlen:=r.length
  have hne:its≠[]:=fun z=>hx (by rw[z] at r;cases r;rfl)
  have hpos:0 < its.length:=by cases its with |nil=>exact absurd rfl hne |cons _ _=>simp
  have hemp:its.toArray.isEmpty=false:=by cases its with |nil=>exact absurd rfl hne |cons _ _=>simp
  refine wpAny_binaryOp_repeat_ref (T:= "tuple") (U:= "int") (by decide) ⟨_,ho,rfl⟩ (fun s'=>typeIs_int s' k t) noFill_tuple_mul F.fills_int_mul F.slot_int_rmul repeat_tuple F.slot_int_index.lookup
    (call_meets F.slot_int_rmul (typeIs_int s k t) F.entry_int_rmul (F.args_int_rmul_2 _ _) (int_rmul_tuple k t a its.toArray n dd sl) ⟨ho,rfl,⟨_,ho,rfl⟩,?_⟩)
  by_cases hk:k=1
  · subst hk
    exact call_meets F.slot_tuple_mul ⟨_,ho,rfl⟩ F.entry_tuple_mul (F.args_tuple_mul_2 _ _) (tuple_mul1 a its.toArray n dd sl t) ⟨ho,⟨.ref a,H,I,rfl,q1 rfl⟩⟩
  · have hmul:(its.toArray.size:Int)*k=((xs.length*k.toNat:Nat):Int):=by
      rw[List.size_toArray,←hlen,Int.natCast_mul,Int.toNat_of_nonneg (by omega)]
    have hnew:List.foldl (fun x1 x2=>x1++x2) #[] (List.replicate k.toNat its.toArray)=(List.replicate k.toNat its).flatten.toArray:=by
      have:=foldl_rep its k.toNat []
      rw[List.nil_append] at this
      exact this
    have hs:sizeOk (.seq (List.foldl (fun x1 x2=>x1++x2) #[] (List.replicate k.toNat its.toArray))):=by
      rw[hnew]
      show (List.replicate k.toNat its).flatten.toArray.size≤sizeLine
      rw[List.size_toArray,len_rep,←hlen,Nat.mul_comm];exact hz
    have hbig:(sizeLine:Nat)≤(2 ^ 63 - 1) / 8:=by decide
    refine call_meets F.slot_tuple_mul ⟨_,ho,rfl⟩ F.entry_tuple_mul (F.args_tuple_mul_2 _ _) (tuple_mulK a its.toArray n dd sl k t (by simp;omega) (by rw[hemp];simp[hk]) (by rw[hemp];simp;omega) (by rw[hmul];omega) (by rw[hmul];unfold Builtin.Tuple.tupleTooMany;intro z;have z:=of_decide_eq_true z;omega) hs) ⟨ho,?_⟩
    rw[hnew]
    refine⟨.ref s.heap.objs.size,_,I.laid (t':=s.toks) (o:= .tup (List.replicate k.toNat xs).flatten) (fun b ob q=>Heap.get?_push_of_some _ q) (Nat.le_refl _) ?_,rfl,q2 hk _ (I.hok.fresh (Nat.le_refl _))⟩
    exact⟨by rw[len_rep,Nat.mul_comm];exact hz,_,r.rep k.toNat,IsTup.new _ _⟩
theorem reps_rep {K:PySem.W.Frag} {O:Addr→Prop} {H:Hp} {ds:List D} {xs:List V} (r:Reps K O H ds xs):∀k:Nat,Reps K O H (List.replicate k ds).flatten (List.replicate k xs).flatten
  |0=> .nil
  |k+1=>by rw[List.replicate_succ,List.replicate_succ,List.flatten_cons,List.flatten_cons];exact r.append (reps_rep r k)
noncomputable def mulD:D→D→R D
  | .int i,.int j=>mulI (.int i) (.int j)
  | .tup ds,.int k=>if ds≠[]∧1≤k∧k < 2 ^ 63∧ds.length*k.toNat≤1000000 then .ok (.tup (List.replicate k.toNat ds).flatten) else .bad
  |_,_=> .bad
theorem od_mulD:OpD X (binaryOp .Mult) mulD:=by
  obtain⟨r0,o0,c0⟩:=od_mul (X:=X)
  refine⟨_,OpR.or o0 op_repT,fun ρ O σ H Q x y dx dy j0 rx ry h=>?_⟩
  cases dx <;> cases dy <;> first
    |exact h.elim
    |skip
  · exact .inl (c0 ρ O σ H Q x y _ _ j0 rx ry h)
  · rename_i ds k
    have h:good X (rD X) O (if ds≠[]∧1≤k∧k < 2 ^ 63∧ds.length*k.toNat≤1000000 then .ok (.tup (List.replicate k.toNat ds).flatten) else .bad) σ H Q:=h
    by_cases hc:ds≠[]∧1≤k∧k < 2 ^ 63∧ds.length*k.toNat≤1000000
    · rw[if_pos hc] at h
      obtain⟨a,us,rfl,ha,r1⟩:=rx.tup
      obtain⟨h0,h1,h2,h3⟩:=hc
      refine .inr ⟨a,k,us,rfl,ry.int,ha,fun z=>h0 (by have:=r1.length;rw[z] at this;exact List.eq_nil_of_length_eq_zero this),h1,h2,by rw[←r1.length];exact Nat.le_trans h3 sizeLine_ge,fun z=>?_,fun z l hl=>?_⟩
      · subst z
        have e:(List.replicate (1:Int).toNat ds).flatten=ds:=by simp
        rw[e] at h
        exact fin h (rep_tup ha r1)
      · exact h _ _ (Same.upd hl) (Rep.new_tup hl (reps_rep r1 _))
    · rw[if_neg hc] at h;exact h.elim
end
end Pu
namespace Pu
open PySem PySem.Spec L2
open PyProof.Rows hiding St
section
variable {K:PySem.W.Frag} {O:Addr→Prop} {H:Hp}
end
section
variable {X:Cx}
end
end Pu
namespace Pu
open PySem PySem.Spec L2
open PyProof.Rows hiding St
noncomputable def SIt:Bool→Heap→Addr→Addr→Nat→Prop
  |true,h,it,l,k=>h.IsTupleIter it l k
  |false,h,it,l,k=>h.IsListIter it l k
noncomputable def SSq:Bool→Heap→Addr→Array Value→Prop
  |true,h,l,xs=>h.IsTuple l xs
  |false,h,l,xs=>h.IsList l xs
noncomputable def itC (t:Bool):String:=if t then "tuple_iterator" else "list_iterator"
noncomputable def Sq:Bool→PySem.W.Frag→Hp→Addr→List V→Prop
  |true,K,H,a,xs=>SqT K H a xs
  |false,K,H,a,xs=>SqL K H a xs
theorem SIt.of {t:Bool} {h h':Heap} {it l:Addr} {k:Nat} (x:SIt t h it l k) (q:∀o,h.get? it=some o→h'.get? it=some o):SIt t h' it l k:=by
  cases t <;> (obtain⟨o,e,r⟩:=x;exact⟨o,q o e,r⟩)
theorem SIt.obj {t:Bool} {h:Heap} {it l:Addr} {k:Nat} (x:SIt t h it l k):∃o,h.get? it=some o∧∀v,o.data≠.cell v:=by
  cases t <;> (obtain⟨o,e,c,d⟩:=x;exact⟨o,e,fun v z=>by rw[d] at z;cases z⟩)
theorem SIt.new {t:Bool} {h:Heap} {l:Addr} {it:Addr} (e:h.get? it=some {cls:= .type (itC t),data:= .fields #[.ref l,.int 0 0]}):SIt t h it l 0:=by
  cases t <;> exact⟨_,e,rfl,rfl⟩
theorem SSq.of {t:Bool} {h h':Heap} {l:Addr} {xs:Array Value} (x:SSq t h l xs) (q:∀o,h.get? l=some o→h'.get? l=some o):SSq t h' l xs:=by
  cases t <;> (obtain⟨o,e,r⟩:=x;exact⟨o,q o e,r⟩)
section
variable {prog:Program} {w:World} {A:Around} {E:Value→Shared→Prop} {s:Shared}
theorem nextT {it l:Addr} {i:Nat} {xs:Array Value} {v:Value} {Q:Value→Shared→Prop} (hit:s.heap.IsTupleIter it l i) (hl:s.heap.IsTuple l xs) (hv:xs[i]?=some v)
    (hQ:∀h',h'.IsTupleIter it l (i+1)→Heap.SameBut it s.heap h'→Q v {s with heap:=h'}):wpAny (model prog w) A (Builtin.SmallTypes.nextOf (.ref it)) Q E s:=by
  have ty:=hit.typeIs
  obtain⟨o,g,c,dt⟩:=hit
  obtain⟨p,gp,_,m,dp⟩:=hl
  unfold Builtin.SmallTypes.nextOf
  refine wpAny_bind (wpAny_callSpecial?_slot (name:=Str.ofString "__next__") ty F.slot_tuple_iterator_next (wpAny_call_entry F.slot_tuple_iterator_next ty F.entry_tuple_iterator_next ?_ (F.args_tuple_iterator_next_1 _)))
  show wpAny _ _ (field (.ref it) 0 >>=_) _ _ s;refine wpAny_bind (wpAny_field g dt (x:= .ref l) rfl ?_)
  show wpAny _ _ (if (Value.ref l ==Value.none)=true then _ else _) _ _ s;rw[if_neg (show ¬((Value.ref l ==Value.none)=true) from Bool.false_ne_true)]
  show wpAny _ _ (field (.ref it) 1 >>=_) _ _ s;refine wpAny_bind (wpAny_field g dt (x:= .int i 0) rfl ?_)
  show wpAny _ _ (seqItems? (.ref l) >>=_) _ _ s;refine wpAny_bind (wpAny_seqItems gp dp ?_)
  simp only[Int.toNat_natCast,hv]
  refine wpAny_bind (wpAny_setField g dt (by simp) (wpAny_pure ⟨v,rfl,wpAny_pure (hQ _ ⟨_,Heap.get?_update_self _ g (Obj.isFreed_of_fields (Obj.data_mapFields dt _)),(Obj.cls_mapFields ..).trans c,?_⟩ (Heap.SameBut.update ..))⟩))
  rw[Obj.data_mapFields dt];simp[rawInt]
theorem nextTEnd {it l:Addr} {i:Nat} {xs:Array Value} {Q:Value→Shared→Prop} (hh:A.handled=none) (hit:s.heap.IsTupleIter it l i) (hl:s.heap.IsTuple l xs) (hv:xs[i]?=none)
    (hE:∀h' e,Heap.ExtBut it s.heap h'→(∃o,h'.get? e=some o∧o.cls= .type "StopIteration")→E (.ref e) {s with heap:=h'}):wpAny (model prog w) A (Builtin.SmallTypes.nextOf (.ref it)) Q E s:=by
  have ty:=hit.typeIs
  obtain⟨o,g,c,dt⟩:=hit
  obtain⟨p,gp,_,m,dp⟩:=hl
  unfold Builtin.SmallTypes.nextOf
  refine wpAny_bind (wpAny_callSpecial?_slot (name:=Str.ofString "__next__") ty F.slot_tuple_iterator_next (wpAny_call_entry F.slot_tuple_iterator_next ty F.entry_tuple_iterator_next ?_ (F.args_tuple_iterator_next_1 _)))
  show wpAny _ _ (field (.ref it) 0 >>=_) _ _ s;refine wpAny_bind (wpAny_field g dt (x:= .ref l) rfl ?_)
  show wpAny _ _ (if (Value.ref l ==Value.none)=true then _ else _) _ _ s;rw[if_neg (show ¬((Value.ref l ==Value.none)=true) from Bool.false_ne_true)]
  show wpAny _ _ (field (.ref it) 1 >>=_) _ _ s;refine wpAny_bind (wpAny_field g dt (x:= .int i 0) rfl ?_)
  show wpAny _ _ (seqItems? (.ref l) >>=_) _ _ s;refine wpAny_bind (wpAny_seqItems gp dp ?_)
  simp only[Int.toNat_natCast,hv]
  refine wpAny_bind (wpAny_rule (wpAny_bind (wpAny_setField g dt (by simp) ?_)))
  show wpAny _ _ (newExc (.type "StopIteration") [] >>=_) _ _ _;refine wpAny_bind ?_
  simp only[newExc,newTuple];refine wpAny_bind (wpAny_newObj_type ?_ (by size_fits))
  refine wpAny_bind (m:=firstArgMember _ _) (wpAny_of_eq (a:=Value.none) (by first |(simp only[firstArgMember];rfl) |rfl) ?_)
  refine wpAny_newObj_type ?_ (by size_fits);simp only[raiseNew]
  refine wpAny_bind (wpAny_handled ?_);first |rw [show A.in1.handled=none from hh] |rw [hh]
  exact wpAny_bind (wpAny_pure (wpAny_throw (hE _ _ (((Heap.SameBut.update ..).extBut.push _).push _) ⟨_,Heap.get?_push_size _ rfl,rfl⟩)))
theorem nextS {t:Bool} {it l:Addr} {i:Nat} {xs:Array Value} {v:Value} {Q:Value→Shared→Prop} (hit:SIt t s.heap it l i) (hl:SSq t s.heap l xs) (hv:xs[i]?=some v)
    (hQ:∀h',SIt t h' it l (i+1)→Heap.SameBut it s.heap h'→Q v {s with heap:=h'}):wpAny (model prog w) A (Builtin.SmallTypes.nextOf (.ref it)) Q E s:=by
  cases t with
  |true=>exact nextT hit hl hv hQ
  |false=>exact wpAny_nextOf_list_item hit hl hv hQ
theorem nextSEnd {t:Bool} {it l:Addr} {i:Nat} {xs:Array Value} {Q:Value→Shared→Prop} (hh:A.handled=none) (hit:SIt t s.heap it l i) (hl:SSq t s.heap l xs) (hv:xs[i]?=none)
    (hE:∀h' e,Heap.ExtBut it s.heap h'→(∃o,h'.get? e=some o∧o.cls= .type "StopIteration")→E (.ref e) {s with heap:=h'}):wpAny (model prog w) A (Builtin.SmallTypes.nextOf (.ref it)) Q E s:=by
  cases t with
  |true=>exact nextTEnd hh hit hl hv hE
  |false=>exact wpAny_nextOf_list_end hh hit hl hv hE
theorem iterS {t:Bool} {l:Addr} {xs:Array Value} {Q:Value→Shared→Prop} (hl:SSq t s.heap l xs) (hQ:Q (.ref s.heap.objs.size) {s with heap:=s.heap.push {cls:= .type (itC t),data:= .fields #[.ref l,.int 0 0]}}):
    wpAny (model prog w) A (pyIter (.ref l)) Q E s:=by
  cases t with
  |true=>exact wpAny_pyIter_tuple hl hQ
  |false=>exact wpAny_pyIter_list hl hQ
theorem putSeq {T:Addr} {arr:Array Value} {x:Value} {k:Nat} {Q:Unit→Shared→Prop} (hT:s.heap.get? T=some {cls:= .type "tuple",data:= .seq arr})
    (h:∀h',h'.get? T=some {cls:= .type "tuple",data:= .seq (arr.setIfInBounds k x)}→Heap.SameBut T s.heap h'→Q () {s with heap:=h'}) (hs:arr.size≤sizeLine:=by size_fits):wpAny (model prog w) A (updateSeq T (·.setIfInBounds k x)) Q E s:=by
  refine wpAny_updateSeq (hz:=hs) (_hz':=by simpa using Nat.le_succ_of_le hs) hT rfl (h _ (by rw[Heap.get?_update_self _ hT rfl];simp[Obj.mapSeq]) (Heap.SameBut.update ..))
end
section
variable {X:Cx} {pins:List (Addr×Obj)} {σ:St} {H:Hp} {s:Shared}
theorem _root_.L2.Inv.fp {b:Addr} {h':Heap} (I:Inv X pins σ H s) (f:FpOk X pins H b) (sb:Heap.SameBut b s.heap h'):Inv X pins σ H {s with heap:=h'}:=
  I.turned (t':=s.toks) (fun c o hc e=>(sb.2 c hc).trans e) f.1 f.2.1 f.2.2.2.1 f.2.2.2.2.1 f.2.2.2.2.2
theorem _root_.L2.Inv.fpE {b:Addr} {h':Heap} (I:Inv X pins σ H s) (f:FpOk X pins H b) (sb:Heap.ExtBut b s.heap h'):Inv X pins σ H {s with heap:=h'}:=
  I.turned (t':=s.toks) (fun c o hc e=>sb c o hc e) f.1 f.2.1 f.2.2.2.1 f.2.2.2.2.1 f.2.2.2.2.2
theorem _root_.L2.FpOk.upd {b p:Addr} {o:HO} (f:FpOk X pins H b) (n:b≠p):FpOk X pins (L2.upd H p o) b:=⟨by rw[upd_ne n];exact f.1,f.2⟩
theorem _root_.L2.Inv.sq {t:Bool} {l:Addr} {xs:List V} (I:Inv X pins σ H s) (q:Sq t X.K H l xs):∃its:List Value,Vals xs its∧SSq t s.heap l its.toArray:=by
  cases t with
  |true=>obtain⟨its,r,p,_⟩:=I.tuple q;exact⟨its,r,p⟩
  |false=>obtain⟨its,r,p,_⟩:=I.list q;exact⟨its,r,p.isList⟩
theorem _root_.L2.Inv.sq_inj {t:Bool} {l:Addr} {xs ys:List V} (I:Inv X pins σ H s) (q:Sq t X.K H l xs) (r:Sq t X.K H l ys):xs=ys:=by
  cases t with
  |true=>exact I.tuple_inj q r
  |false=>exact I.list_inj q r
end
end Pu
namespace Pu
open PySem PySem.Spec L2
open PyProof.Rows hiding St
noncomputable abbrev TRec (h:Heap) (T:Addr) (arr:Array Value):Prop:=h.get? T=some {cls:= .type "tuple",data:= .seq arr}
structure Z2 (h:Heap) (z TI TO i1 i2:Addr) (t1 t2:Bool) (l1 l2:Addr) (k:Nat):Prop where
  z:IsZip h z TI TO .none
  ti:TRec h TI #[.ref i1,.ref i2]
  to:∃a b,TRec h TO #[a,b]
  s1:SIt t1 h i1 l1 k
  s2:SIt t2 h i2 l2 k
noncomputable def Itz2 (K:PySem.W.Frag) (t1:Bool) (l1:Addr) (t2:Bool) (l2:Addr):It:=
  ⟨fun i H=>∃xs ys x y,Sq t1 K H l1 xs∧xs[i]?=some x∧Sq t2 K H l2 ys∧ys[i]?=some y,
   fun i H v H'=>∃p x y,H p=none∧v= .ref p∧H'=upd H p (.tup [x,y])∧(∀xs,Sq t1 K H l1 xs→xs[i]?=some x)∧∀ys,Sq t2 K H l2 ys→ys[i]?=some y,
   fun i H=>∃xs ys,Sq t1 K H l1 xs∧Sq t2 K H l2 ys∧(xs.length≤i∨ys.length≤i)⟩
section
variable {X:Cx} {pins:List (Addr×Obj)} {σ:St} {H:Hp} {s:Shared} {A':Around} {E:Value→Shared→Prop}
theorem two_le:2≤sizeLine:=Nat.le_trans (by decide) (Nat.le_of_lt sizeLine_gt)
theorem zip2_next {z TI TO i1 i2 l1 l2:Addr} {t1 t2:Bool} {k:Nat} {xs ys:List V} {x y:V} {Q:Value→Shared→Prop} (I:Inv X pins σ H s)
    (fz:FpOk X pins H z) (fO:FpOk X pins H TO) (f1:FpOk X pins H i1) (f2:FpOk X pins H i2)
    (n1:TI≠z) (n2:TO≠z) (n3:i1≠z) (n4:i2≠z) (n5:TI≠TO) (n6:TI≠i1) (n7:TI≠i2) (n8:TO≠i1) (n9:TO≠i2) (n10:i1≠i2)
    (st:Z2 s.heap z TI TO i1 i2 t1 t2 l1 l2 k) (q1:Sq t1 X.K H l1 xs) (e1:xs[k]?=some x) (q2:Sq t2 X.K H l2 ys) (e2:ys[k]?=some y)
    (hQ:∀h',Inv X pins σ (upd H s.heap.objs.size (.tup [x,y])) {s with heap:=h'}→IsZip h' z TI TO (rawInt s.heap.objs.size)→TRec h' TI #[.ref i1,.ref i2]→(∃a b,TRec h' TO #[a,b])→
      SIt t1 h' i1 l1 (k+1)→SIt t2 h' i2 l2 (k+1)→Q (.ref s.heap.objs.size) {s with heap:=h'}):
    wpAny (model X.prog X.w) A' (Builtin.«zip.__next__» ⟨[.ref z],[]⟩) (fun fin s'=>∃v,fin= .done (.ret v)∧Q v s') E s:=by
  obtain⟨hz,hTI,⟨a,b,hTO⟩,h1,h2⟩:=st
  show wpAny _ _ (field (.ref z) 2 >>=_) _ _ _;refine wpAny_bind (wpAny_field hz rfl (x:= .bool false) rfl ?_)
  show wpAny _ _ (field (.ref z) 3 >>=_) _ _ _;refine wpAny_bind (wpAny_field hz rfl (x:= .ref TI) rfl ?_)
  refine wpAny_bind (wpAny_seqItems hTI rfl ?_)
  show wpAny _ _ (Builtin.SmallTypes.ownedTupleIsFree (.ref z) >>=_) _ _ _;refine wpAny_bind ?_
  unfold Builtin.SmallTypes.ownedTupleIsFree
  refine wpAny_bind (wpAny_field hz rfl (x:= .none) rfl (wpAny_pure ?_));simp only[if_true]
  refine wpAny_bind (wpAny_rule (wpAny_bind (wpAny_field hz rfl (x:= .ref TO) rfl ?_)))
  refine wpAny_bind (wpAny_setField_rec hz (by simp) fun g1 z1 b1=>?_)
  replace z1:IsZip g1 z TI TO .ellipsis:=z1
  have I1:=I.fp fz b1
  refine wpAny_bind ?_
  simp only[List.zipIdx_cons,List.zipIdx_nil,List.forIn_cons,List.forIn_nil]
  obtain⟨us,r1,p1⟩:=I1.sq q1
  obtain⟨u,hu,ru⟩:=r1.get e1
  refine wpAny_bind (wpAny_bind (wpAny_onRaise ?_));show wpAny _ _ (Builtin.SmallTypes.nextOf (.ref i1) >>=_) _ _ _
  refine wpAny_bind (nextS (h1.of fun o e=>b1.extBut _ _ n3 e) p1 (v:=u) (by simpa using hu) fun g2 s12 b2=>wpAny_pure ?_)
  have I2:=I1.fp f1 b2
  have o2:TRec g2 TO #[a,b]:=b2.extBut _ _ n8 (b1.extBut _ _ n2 hTO)
  refine wpAny_bind (wpAny_seqItems o2 rfl (wpAny_bind (putSeq o2 fun g3 o3 b3=>wpAny_bind (wpAny_letGo (wpAny_pure ?_)))))
  replace o3:TRec g3 TO #[u,b]:=o3
  have I3:=I2.fp fO b3
  obtain⟨vs,r2,p2⟩:=I3.sq q2
  obtain⟨v,hv,rv⟩:=r2.get e2
  refine wpAny_bind (wpAny_bind (wpAny_onRaise ?_));show wpAny _ _ (Builtin.SmallTypes.nextOf (.ref i2) >>=_) _ _ _
  refine wpAny_bind (nextS (h2.of fun o e=>b3.extBut _ _ (Ne.symm n9) (b2.extBut _ _ (Ne.symm n10) (b1.extBut _ _ n4 e))) p2 (v:=v) (by simpa using hv) fun g4 s24 b4=>wpAny_pure ?_)
  have I4:=I3.fp f2 b4
  have o4:TRec g4 TO #[u,b]:=b4.extBut _ _ n9 o3
  refine wpAny_bind (wpAny_seqItems o4 rfl (wpAny_bind (putSeq o4 fun g5 o5 b5=>wpAny_bind (wpAny_letGo (wpAny_pure (wpAny_pure ?_))))))
  replace o5:TRec g5 TO #[u,v]:=o5
  have I5:=I4.fp fO b5
  refine wpAny_bind (wpAny_seqItems o5 rfl (wpAny_bind (wpAny_newTuple ?_)))
  have sz:g5.objs.size=s.heap.objs.size:=by rw[b5.1,b4.1,b3.1,b2.1,b1.1]
  have I6:Inv X pins σ (upd H g5.objs.size (.tup [x,y])) {s with heap:=g5.push {cls:= .type "tuple",data:= .seq #[u,v]}}:=
    I5.laid (t':=s.toks) (fun b u e=>Heap.get?_push_of_some _ e) (Nat.le_refl _) ⟨two_le,[u,v],.cons ru (.cons rv .nil),⟨_,Heap.get?_push_size _ rfl,rfl,_,rfl⟩⟩
  have z5:IsZip g5 z TI TO .ellipsis:=b5.extBut _ _ (Ne.symm n2) (b4.extBut _ _ (Ne.symm n4) (b3.extBut _ _ (Ne.symm n2) (b2.extBut _ _ (Ne.symm n3) z1)))
  have lt:∀{c o},g5.get? c=some o→c≠g5.objs.size:=fun e=>Nat.ne_of_lt (Heap.lt_size e)
  show wpAny _ _ (Builtin.SmallTypes.ownedTupleHandOut (.ref z) (.ref g5.objs.size) >>=_) _ _ _;refine wpAny_bind ?_
  unfold Builtin.SmallTypes.ownedTupleHandOut
  refine wpAny_bind (wpAny_setField_rec (Heap.get?_push_of_some _ z5) (by simp) fun g7 z7 b7=>?_)
  replace z7:IsZip g7 z TI TO (rawInt g5.objs.size):=z7
  have I7:=I6.fp (fz.upd (lt z5)) b7
  refine wpAny_setField_rec z7 (by simp) fun g8 z8 b8=>?_
  replace z8:IsZip g8 z TI TO (rawInt g5.objs.size):=z8
  have I8:=I7.fp (fz.upd (lt z5)) b8
  have up:∀c o,c≠z→g5.get? c=some o→g8.get? c=some o:=fun c o c1 e=>b8.extBut _ _ c1 (b7.extBut _ _ c1 (Heap.get?_push_of_some _ e))
  refine wpAny_pure ⟨_,rfl,?_⟩
  rw[sz] at I8 z8
  show Q (.ref g5.objs.size) _
  rw[sz]
  refine hQ g8 I8 z8 (up _ _ n1 (b5.extBut _ _ n5 (b4.extBut _ _ n7 (b3.extBut _ _ n5 (b2.extBut _ _ n6 (b1.extBut _ _ n1 hTI)))))) ⟨u,v,up _ _ n2 o5⟩ ?_ ?_
  · exact s12.of fun o e=>up _ _ n3 (b5.extBut _ _ (Ne.symm n8) (b4.extBut _ _ n10 (b3.extBut _ _ (Ne.symm n8) e)))
  · exact s24.of fun o e=>up _ _ n4 (b5.extBut _ _ (Ne.symm n9) e)
theorem zip2_end {z TI TO i1 i2 l1 l2:Addr} {t1 t2:Bool} {k:Nat} {xs ys:List V} {Q:Fin→Shared→Prop} (hh:A'.handled=none) (I:Inv X pins σ H s)
    (fz:FpOk X pins H z) (fO:FpOk X pins H TO) (f1:FpOk X pins H i1) (f2:FpOk X pins H i2)
    (n1:TI≠z) (n2:TO≠z) (n3:i1≠z) (n4:i2≠z) (n5:TI≠TO) (n6:TI≠i1) (n7:TI≠i2) (n8:TO≠i1) (n9:TO≠i2) (n10:i1≠i2)
    (st:Z2 s.heap z TI TO i1 i2 t1 t2 l1 l2 k) (q1:Sq t1 X.K H l1 xs) (q2:Sq t2 X.K H l2 ys) (en:xs.length≤k∨ys.length≤k)
    (hE:∀h' e,Inv X pins σ H {s with heap:=h'}→(∃o,h'.get? e=some o∧o.cls= .type "StopIteration")→E (.ref e) {s with heap:=h'}):
    wpAny (model X.prog X.w) A' (Builtin.«zip.__next__» ⟨[.ref z],[]⟩) Q E s:=by
  obtain⟨hz,hTI,⟨a,b,hTO⟩,h1,h2⟩:=st
  show wpAny _ _ (field (.ref z) 2 >>=_) _ _ _;refine wpAny_bind (wpAny_field hz rfl (x:= .bool false) rfl ?_)
  show wpAny _ _ (field (.ref z) 3 >>=_) _ _ _;refine wpAny_bind (wpAny_field hz rfl (x:= .ref TI) rfl ?_)
  refine wpAny_bind (wpAny_seqItems hTI rfl ?_)
  show wpAny _ _ (Builtin.SmallTypes.ownedTupleIsFree (.ref z) >>=_) _ _ _;refine wpAny_bind ?_
  unfold Builtin.SmallTypes.ownedTupleIsFree
  refine wpAny_bind (wpAny_field hz rfl (x:= .none) rfl (wpAny_pure ?_));simp only[if_true]
  refine wpAny_bind (wpAny_rule (wpAny_bind (wpAny_field hz rfl (x:= .ref TO) rfl ?_)))
  refine wpAny_bind (wpAny_setField_rec hz (by simp) fun g1 z1 b1=>?_)
  replace z1:IsZip g1 z TI TO .ellipsis:=z1
  have I1:=I.fp fz b1
  refine wpAny_bind ?_
  simp only[List.zipIdx_cons,List.zipIdx_nil,List.forIn_cons,List.forIn_nil]
  obtain⟨us,r1,p1⟩:=I1.sq q1
  have leave:∀{g g':Heap} {e:Addr} {c:Addr},Inv X pins σ H {s with heap:=g}→IsZip g z TI TO .ellipsis→FpOk X pins H c→c≠z→Heap.ExtBut c g g'→(∃o,g'.get? e=some o∧o.cls= .type "StopIteration")→
      wpAny (model X.prog X.w) A' (setField (.ref z) 0 .none) (fun _ s'=>E (.ref e) s') E {s with heap:=g'}:=fun {g g' e c} Ig zg fc nc eb ⟨oe,hoe,hce⟩=>by
    have zg':IsZip g' z TI TO .ellipsis:=eb _ _ (Ne.symm nc) zg
    have hez:e≠z:=fun q=>by subst q;rw[zg'] at hoe;cases hoe;simp at hce
    have Ig':Inv X pins σ H {s with heap:=g'}:=Ig.fpE fc eb
    exact wpAny_setField_rec zg' (by simp) fun g'' _ b''=>hE g'' e (Ig'.fp fz b'') ⟨oe,b''.extBut _ _ hez hoe,hce⟩
  refine wpAny_bind (wpAny_bind (wpAny_onRaise ?_));show wpAny _ _ (Builtin.SmallTypes.nextOf (.ref i1) >>=_) _ _ _
  have h1':=h1.of (h':=g1) fun o e=>b1.extBut _ _ n3 e
  by_cases hx:xs.length≤k
  · exact wpAny_bind (nextSEnd hh h1' p1 (by have:=r1.length;simp;omega) fun g2 e eb ex=>leave I1 z1 f1 n3 eb ex)
  · have hy:ys.length≤k:=by rcases en with h |h;exact absurd h hx;exact h
    obtain⟨u,hu,ru⟩:=r1.get (i:=k) (x:=xs[k]'(by omega)) (List.getElem?_eq_getElem (by omega))
    refine wpAny_bind (nextS h1' p1 (v:=u) (by simpa using hu) fun g2 s12 b2=>wpAny_pure ?_)
    have I2:=I1.fp f1 b2
    have o2:TRec g2 TO #[a,b]:=b2.extBut _ _ n8 (b1.extBut _ _ n2 hTO)
    refine wpAny_bind (wpAny_seqItems o2 rfl (wpAny_bind (putSeq o2 fun g3 o3 b3=>wpAny_bind (wpAny_letGo (wpAny_pure ?_)))))
    have I3:=I2.fp fO b3
    obtain⟨vs,r2,p2⟩:=I3.sq q2
    have z3:IsZip g3 z TI TO .ellipsis:=b3.extBut _ _ (Ne.symm n2) (b2.extBut _ _ (Ne.symm n3) z1)
    refine wpAny_bind (wpAny_bind (wpAny_onRaise ?_));show wpAny _ _ (Builtin.SmallTypes.nextOf (.ref i2) >>=_) _ _ _
    exact wpAny_bind (nextSEnd hh (h2.of fun o e=>b3.extBut _ _ (Ne.symm n9) (b2.extBut _ _ (Ne.symm n10) (b1.extBut _ _ n4 e))) p2 (by have:=r2.length;simp;omega) fun g4 e eb ex=>leave I3 z3 f2 n4 eb ex)
end
theorem turn_zip2 {P:Program} {w:World} {K:PySem.W.Frag} {tgs:List Expr} {kk} {pp:Pos} {z TI TO i1 i2 l1 l2:Addr} {t1 t2:Bool}
    (n1:TI≠z) (n2:TO≠z) (n3:i1≠z) (n4:i2≠z) (n5:TI≠TO) (n6:TI≠i1) (n7:TI≠i2) (n8:TO≠i1) (n9:TO≠i2) (n10:i1≠i2):
    Turn P w K (.Tuple tgs kk pp) (Itz2 K t1 l1 t2 l2) [z,TI,TO,i1,i2] z (fun i h=>Z2 h z TI TO i1 i2 t1 t2 l1 l2 i) where
  mem:=by simp
  obj:=fun i h st b hb=>by
    obtain⟨hz,hTI,⟨x,y,hTO⟩,h1,h2⟩:=st
    simp only[List.mem_cons,List.not_mem_nil,or_false] at hb
    rcases hb with rfl |rfl |rfl |rfl |rfl
    · exact⟨_,hz,fun v q=>by have q':Data.fields _=Data.cell v:=q;cases q'⟩
    · exact⟨_,hTI,fun v q=>by have q':Data.seq _=Data.cell v:=q;cases q'⟩
    · exact⟨_,hTO,fun v q=>by have q':Data.seq _=Data.cell v:=q;cases q'⟩
    · exact h1.obj
    · exact h2.obj
  keep:=fun i h h' st k=>by
    obtain⟨hz,hTI,⟨x,y,hTO⟩,h1,h2⟩:=st
    exact⟨k _ (by simp) _ hz,k _ (by simp) _ hTI,⟨x,y,k _ (by simp) _ hTO⟩,h1.of fun o e=>k _ (by simp) o e,h2.of fun o e=>k _ (by simp) o e⟩
  item :=by
    intro X hP hw hK hc i pins s σ H E I hf st hg
    subst hP hw hK
    obtain⟨xs,ys,x,y,q1,e1,q2,e2⟩:=hg
    have hT:s.TypeIs (.ref z) "zip" :=⟨_,st.z,rfl⟩
    unfold pyNext
    refine wpAny_bind (wpAny_attempt (wpAny_callSpecial?_slot (name:=Str.ofString "__next__") hT F.slot_zip_next (wpAny_call_entry F.slot_zip_next hT F.entry_zip_next
      (zip2_next I (hf z (by simp)) (hf TO (by simp)) (hf i1 (by simp)) (hf i2 (by simp)) n1 n2 n3 n4 n5 n6 n7 n8 n9 n10 st q1 e1 q2 e2 fun h' I' z' ti' to' s1' s2'=>wpAny_pure ⟨_,rfl,?_⟩) (F.args_zip_next_1 _))))
    have hp:H s.heap.objs.size=none:=I.hok.fresh (Nat.le_refl _)
    have nz:∀b,b∈[z,TI,TO,i1,i2]→b≠s.heap.objs.size:=fun b hb q=>by
      obtain⟨o,e,_⟩:∃o,s.heap.get? b=some o∧True:=by
        obtain⟨hz,hTI,⟨x,y,hTO⟩,h1,h2⟩:=st
        simp only[List.mem_cons,List.not_mem_nil,or_false] at hb
        rcases hb with rfl |rfl |rfl |rfl |rfl
        · exact⟨_,hz,trivial⟩
        · exact⟨_,hTI,trivial⟩
        · exact⟨_,hTO,trivial⟩
        · obtain⟨o,e,_⟩:=h1.obj;exact⟨o,e,trivial⟩
        · obtain⟨o,e,_⟩:=h2.obj;exact⟨o,e,trivial⟩
      exact absurd (Heap.lt_size e) (by rw[q];exact Nat.lt_irrefl _)
    refine wpAny_letOwnedTupleGo_zip z' fun h'' z'' b''=>⟨.ref s.heap.objs.size,upd H s.heap.objs.size (.tup [x,y]),I'.fp ((hf z (by simp)).upd (nz z (by simp))) b'',rfl,⟨_,x,y,hp,rfl,rfl,fun xs' q=>by rw[I.sq_inj q q1];exact e1,fun ys' q=>by rw[I.sq_inj q q2];exact e2⟩,?_,fun b hb=>?_⟩
    · obtain⟨a,b,to'⟩:=to'
      exact⟨z'',b''.extBut _ _ n1 ti',⟨a,b,b''.extBut _ _ n2 to'⟩,s1'.of fun o e=>b''.extBut _ _ n3 e,s2'.of fun o e=>b''.extBut _ _ n4 e⟩
    · rw[upd_ne (nz b hb)];exact (hf b hb).1
  done:=by
    intro X hP hw hK hc i pins s σ H E I hf st hg
    subst hP hw hK
    obtain⟨xs,ys,q1,q2,en⟩:=hg
    have hT:s.TypeIs (.ref z) "zip" :=⟨_,st.z,rfl⟩
    unfold pyNext
    refine wpAny_bind (wpAny_attempt (wpAny_callSpecial?_slot (name:=Str.ofString "__next__") hT F.slot_zip_next (wpAny_call_entry F.slot_zip_next hT F.entry_zip_next
      (zip2_end (I.ok.hd hc) I (hf z (by simp)) (hf TO (by simp)) (hf i1 (by simp)) (hf i2 (by simp)) n1 n2 n3 n4 n5 n6 n7 n8 n9 n10 st q1 q2 en fun h' e I' ex=>?_) (F.args_zip_next_1 _))))
    obtain⟨o,ho,ec⟩:=ex
    exact wpAny_bind (wpAny_isInstance (T:= "StopIteration") (b:=true) ⟨o,ho,ec⟩ isSubtype_stop (wpAny_pure ⟨rfl,I'⟩))
  self:=fun _ _ _ _ _ st h=>wpAny_pyIter_zip st.z h
end Pu
namespace Pu
open PySem PySem.Spec L2
open PyProof.Rows hiding St
noncomputable abbrev itR (t:Bool) (l:Addr):Obj:={cls:= .type (itC t),data:= .fields #[.ref l,.int 0 0]}
noncomputable abbrev zA1 (h:Heap) (t1:Bool) (l1:Addr):Heap:=h.push (itR t1 l1)
noncomputable abbrev zA2 (h:Heap) (t1:Bool) (l1:Addr) (t2:Bool) (l2:Addr):Heap:=(zA1 h t1 l1).push (itR t2 l2)
noncomputable abbrev zA3 (h:Heap) (t1:Bool) (l1:Addr) (t2:Bool) (l2:Addr):Heap:=(zA2 h t1 l1 t2 l2).push {cls:= .type "tuple",data:= .seq #[.ref h.objs.size,.ref (zA1 h t1 l1).objs.size]}
noncomputable abbrev zA4 (h:Heap) (t1:Bool) (l1:Addr) (t2:Bool) (l2:Addr):Heap:=(zA3 h t1 l1 t2 l2).push {cls:= .type "tuple",data:= .seq #[.none,.none]}
noncomputable abbrev zA5 (h:Heap) (t1:Bool) (l1:Addr) (t2:Bool) (l2:Addr):Heap:=(zA4 h t1 l1 t2 l2).push {cls:= .type "zip",data:= .fields #[.none,.bool false,.bool false,.ref (zA2 h t1 l1 t2 l2).objs.size,.ref (zA3 h t1 l1 t2 l2).objs.size]}
theorem meets_zip2 (t1:Bool) (l1:Addr) (t2:Bool) (l2:Addr) (xs ys:Array Value):Meets (Builtin.«zip.__new__» ⟨[.type "zip",.ref l1,.ref l2],[]⟩)
    (fun _ R s=>SSq t1 s.heap l1 xs∧SSq t2 s.heap l2 ys∧R (.ok (.ret (.ref (zA4 s.heap t1 l1 t2 l2).objs.size))) {s with heap:=zA5 s.heap t1 l1 t2 l2}):=
  .of_wp fun prog w A R s h=>by
    obtain⟨hp,g,d,tk,os⟩:=s
    obtain⟨k1,k2,h⟩:=h
    have hsub:=sub_zip
    have L1:SSq t1 (Shared.heap ⟨hp,g,d,tk,os⟩) l1 xs:=k1
    have L2:SSq t2 (Shared.heap ⟨zA1 hp t1 l1,g,d,tk,os⟩) l2 ys:=k2.of fun o e=>Heap.get?_push_of_some _ e
    wp_walk using iterS L1,iterS L2
    exact⟨_,rfl,h⟩
section
variable {prog:Program} {w:World} {A:Around} {E:Value→Shared→Prop} {s:Shared}
theorem call_zip2 {t1 t2:Bool} {l1 l2:Addr} {xs ys:Array Value} {Q:Value→Shared→Prop} (k1:SSq t1 s.heap l1 xs) (k2:SSq t2 s.heap l2 ys)
    (h:∀h',Z2 h' (s.heap.objs.size+4) (s.heap.objs.size+2) (s.heap.objs.size+3) s.heap.objs.size (s.heap.objs.size+1) t1 t2 l1 l2 0→(∀c o,s.heap.get? c=some o→h'.get? c=some o)→Q (.ref (s.heap.objs.size+4)) {s with heap:=h'}):
    wpAny (model prog w) A (call (.type "zip") [.ref l1,.ref l2]) Q E s:=by
  refine callType_new F.called_zip (by decide) (F.typeCall_zip_2 _ _) (F.newCall_zip_2 _ _) (fun obj=>F.args_object_init_3 obj _ _) F.entry_zip_new (meets_zip2 t1 l1 t2 l2 xs ys) ⟨k1,k2,?_⟩
  have z1:(zA1 s.heap t1 l1).objs.size=s.heap.objs.size+1:=Heap.size_push ..
  have z2:(zA2 s.heap t1 l1 t2 l2).objs.size=s.heap.objs.size+2:=by rw[Heap.size_push,z1]
  have z3:(zA3 s.heap t1 l1 t2 l2).objs.size=s.heap.objs.size+3:=by rw[Heap.size_push,z2]
  have z4:(zA4 s.heap t1 l1 t2 l2).objs.size=s.heap.objs.size+4:=by rw[Heap.size_push,z3]
  have a5:(zA5 s.heap t1 l1 t2 l2).get? (zA4 s.heap t1 l1 t2 l2).objs.size=some _:=Heap.get?_push_size _ rfl
  have a4:(zA5 s.heap t1 l1 t2 l2).get? (zA3 s.heap t1 l1 t2 l2).objs.size=some _:=Heap.get?_push_of_some _ (Heap.get?_push_size _ rfl)
  have a3:(zA5 s.heap t1 l1 t2 l2).get? (zA2 s.heap t1 l1 t2 l2).objs.size=some _:=Heap.get?_push_of_some _ (Heap.get?_push_of_some _ (Heap.get?_push_size _ rfl))
  have a2:(zA5 s.heap t1 l1 t2 l2).get? (zA1 s.heap t1 l1).objs.size=some (itR t2 l2):=Heap.get?_push_of_some _ (Heap.get?_push_of_some _ (Heap.get?_push_of_some _ (Heap.get?_push_size _ rfl)))
  have a1:(zA5 s.heap t1 l1 t2 l2).get? s.heap.objs.size=some (itR t1 l1):=Heap.get?_push_of_some _ (Heap.get?_push_of_some _ (Heap.get?_push_of_some _ (Heap.get?_push_of_some _ (Heap.get?_push_size _ rfl))))
  show _∧_
  rw[z2,z3,z4] at a5
  rw[z1,z2] at a3
  rw[z3] at a4
  rw[z1] at a2
  rw[z4]
  exact⟨⟨_,a5,rfl⟩,h _ ⟨a5,a3,⟨_,_,a4⟩,.new a1,.new a2⟩ fun c o e=>Heap.get?_push_of_some _ (Heap.get?_push_of_some _ (Heap.get?_push_of_some _ (Heap.get?_push_of_some _ (Heap.get?_push_of_some _ e))))⟩
end
theorem bt_zip:bootBuiltins "zip" =some (.type "zip"):=by decide +kernel
section
variable {X:Cx} {tgs:List Expr} {kk:Nat} {pp:Pos} {a b:Expr} {p pos:Pos}
noncomputable def iZip2 (K:PySem.W.Frag) (ta:TA):TI:=fun σ H R=>ta σ H fun vs H1=>∃t1 l1 t2 l2,vs=[.ref l1,.ref l2]∧(∃xs,Sq t1 K H1 l1 xs)∧(∃ys,Sq t2 K H1 l2 ys)∧R (Itz2 K t1 l1 t2 l2) H1
theorem pi_zip2 {ta:TA} (hg:Gl X "zip") (hm:X.mg "zip" =none) (ha:PA X [a,b] ta) (he:starEach [a,b] X.env=(false,eval a X.env)::starEach [b] X.env:=by rfl) (hpl:(backTo pos (starEach [b] X.env)).any (·.1)=false:=by rfl):
    PI X (.Tuple tgs kk pp) (.Call (.Name "zip" p) [a,b] [] pos) (iZip2 X.K ta):=by
  intro pins s σ H R I h
  refine Call_ (ld_blt I hg hm bt_zip (PyProof.Rows.callWith_type1 (thn (ha pos pins s σ H _ I h) fun us s1 ⟨vs,H1,I1,r1,q1⟩=>?_) he hpl))
  obtain⟨t1,l1,t2,l2,e,⟨xs,w1⟩,⟨ys,w2⟩,q⟩:=q1
  subst e
  cases r1 with
  | cons r rr=>
    cases rr with
    | cons r' rr=>
      cases rr
      cases r
      cases r'
      obtain⟨vs1,_,p1⟩:=I1.sq w1
      obtain⟨vs2,_,p2⟩:=I1.sq w2
      refine call_zip2 p1 p2 fun h' st k=>wpAny_pyIter_zip st.z ⟨s1.heap.objs.size+4,[s1.heap.objs.size+4,s1.heap.objs.size+2,s1.heap.objs.size+3,s1.heap.objs.size,s1.heap.objs.size+1],_,_,H1,rfl,I1.kept (t':=s1.toks) k,turn_zip2 ?_ ?_ ?_ ?_ ?_ ?_ ?_ ?_ ?_ ?_,st,fun c hc=>(by
        have hle:s1.heap.objs.size≤c:=by
          simp only[List.mem_cons,List.not_mem_nil,or_false] at hc
          rcases hc with rfl |rfl |rfl |rfl |rfl <;> first |exact Nat.le_refl _ |exact Nat.le_add_right _ _
        exact I1.fpOk hle (I1.hok.fresh hle)),q⟩
      all_goals (show @Ne Nat _ _;omega)
end
noncomputable def zipL (xs ys:List D):List D:=(xs.zip ys).map fun p=> .tup [p.1,p.2]
noncomputable def zip2:List D→R (List D)
  |[x,y]=>(itemsD x).bind fun xs=>(itemsD y).bind fun ys=> .ok (zipL xs ys)
  |_=> .bad
section
variable {K:PySem.W.Frag} {O:Addr→Prop} {H:Hp}
structure Src (K:PySem.W.Frag) (O:Addr→Prop) (H:Hp) (t:Bool) (a:Addr) (ds:List D):Prop where
  ex:∃vs,Sq t K H a vs∧Reps K O H ds vs
  no:t=false→¬O a
theorem src_of {d:D} {v:V} {ds:List D} (r:Rep K O H d v) (h:itemsD d= .ok ds):∃t a,v= .ref a∧Src K O H t a ds:=by
  cases d with
  |tup es=>cases h;obtain⟨a,xs,rfl,q,rs⟩:=r.tup;exact⟨true,a,rfl,⟨xs,q,rs⟩,fun z=>by cases z⟩
  |lst es=>cases h;obtain⟨a,xs,rfl,q,n,rs⟩:=r.lst;exact⟨false,a,rfl,⟨xs,q,rs⟩,fun _=>n⟩
  |_=>cases h
theorem Src.go {O':Addr→Prop} {H':Hp} {t:Bool} {a:Addr} {ds:List D} (s:Src K O H t a ds) (q:Rch K O H O' H'):∃vs,Sq t K H' a vs∧Reps K O' H' ds vs:=by
  obtain⟨vs,h,r⟩:=s.ex
  cases t with
  |true=>exact⟨vs,SqT.ext q.ext h,r.go q⟩
  |false=>exact⟨vs,SqL.ext q.ext (s.no rfl) h,r.go q⟩
theorem zipL_get {xs ys:List D} {i:Nat} {d:D} (h:(zipL xs ys)[i]?=some d):∃x y,xs[i]?=some x∧ys[i]?=some y∧d= .tup [x,y]:=by
  unfold zipL at h
  rw[List.getElem?_map] at h
  cases e:(xs.zip ys)[i]? with
  |none=>rw[e] at h;cases h
  |some p=>rw[e] at h;cases h;obtain⟨h1,h2⟩:=List.getElem?_zip_eq_some.mp e;exact⟨_,_,h1,h2,rfl⟩
theorem YR.zip2 {t1 t2:Bool} {a1 a2:Addr} {xs ys:List D} (s1:Src K O H t1 a1 xs) (s2:Src K O H t2 a2 ys):YR K O H (Itz2 K t1 a1 t2 a2) (zipL xs ys):=by
  intro O' H' q i
  obtain⟨v1,q1,r1⟩:=s1.go q
  obtain⟨v2,q2,r2⟩:=s2.go q
  refine⟨fun d e=>?_,fun e=>⟨v1,v2,q1,q2,?_⟩⟩
  · obtain⟨x,y,e1,e2,rfl⟩:=zipL_get e
    obtain⟨u1,g1,w1⟩:=r1.get e1
    obtain⟨u2,g2,w2⟩:=r2.get e2
    refine⟨⟨v1,v2,u1,u2,q1,g1,q2,g2⟩,fun x H2 y=>?_⟩
    obtain⟨p,x1,x2,hp,rfl,rfl,k1,k2⟩:=y
    have k1:=k1 _ q1
    have k2:=k2 _ q2
    rw[g1] at k1;cases k1
    rw[g2] at k2;cases k2
    exact⟨Same.upd hp,rep_tup (SqT.of upd_same) ((Reps.cons w1 (.cons w2 .nil)).same (Same.upd hp))⟩
  · rw[←r1.length,←r2.length]
    simp only[zipL,List.length_map,List.length_zip] at e
    omega
end
section
variable {X:Cx} {tgs:List Expr} {kk:Nat} {pp:Pos} {a b:Expr} {p pos:Pos} {fa:Rho→R (List D)}
theorem di_zip2 (hg:Gl X "zip") (hm:X.mg "zip" =none) (ha:DA X [a,b] fa) (he:starEach [a,b] X.env=(false,eval a X.env)::starEach [b] X.env:=by rfl) (hpl:(backTo pos (starEach [b] X.env)).any (·.1)=false:=by rfl):
    DI X (.Tuple tgs kk pp) (.Call (.Name "zip" p) [a,b] [] pos) (fun ρ=>(fa ρ).bind zip2):=by
  refine PI.imp (pi_zip2 hg hm ha he hpl) fun σ H Q q=>?_
  obtain⟨ρ,O,j,q⟩:=q
  refine go j q fun ds vs H1 e1 s1 r1 j1 h1=>?_
  unfold zip2 at h1
  split at h1
  · rename_i x y
    obtain⟨v1,v2,rfl,w1,w2⟩:=r1.two
    cases ex:itemsD x with
    |bad=>rw[ex] at h1;exact h1.elim
    |err c=>rw[ex] at h1;cases x <;> cases ex
    | ok xs=>
      cases ey:itemsD y with
      |bad=>rw[ex,R.bind_ok,ey] at h1;exact h1.elim
      |err c=>cases y <;> cases ey
      | ok ys=>
        rw[ex,R.bind_ok,ey,R.bind_ok] at h1
        obtain⟨t1,a1,rfl,c1⟩:=src_of w1 ex
        obtain⟨t2,a2,rfl,c2⟩:=src_of w2 ey
        obtain⟨vs1,k1,_⟩:=c1.ex
        obtain⟨vs2,k2,_⟩:=c2.ex
        exact⟨t1,a1,t2,a2,rfl,⟨vs1,k1⟩,⟨vs2,k2⟩,fin h1 (YR.zip2 c1 c2)⟩
  · exact h1.elim
end
end Pu
namespace Pu
open PySem PySem.Spec L2
open PyProof.Rows hiding St
section
variable {X:Cx} {pins:List (Addr×Obj)} {σ:St} {H:Hp} {s:Shared} {A':Around} {E:Value→Shared→Prop}
end
section
variable {prog:Program} {w:World} {A:Around} {E:Value→Shared→Prop} {s:Shared}
end
section
variable {X:Cx} {tgs:List Expr} {kk:Nat} {pp:Pos} {a b c:Expr} {p pos:Pos}
end
section
variable {K:PySem.W.Frag} {O:Addr→Prop} {H:Hp}
theorem Reps.three {d e f:D} {xs:List V} (r:Reps K O H [d,e,f] xs):∃x y z,xs=[x,y,z]∧Rep K O H d x∧Rep K O H e y∧Rep K O H f z:=by
  obtain⟨x,t,rfl,h1,h2⟩:=r.cons_inv
  obtain⟨y,z,rfl,h3,h4⟩:=h2.two
  exact⟨x,y,z,rfl,h1,h3,h4⟩
end
section
variable {X:Cx} {tgs:List Expr} {kk:Nat} {pp:Pos} {a b c:Expr} {p pos:Pos} {fa:Rho→R (List D)}
theorem items_noerr {x:D} {c:Str} (h:itemsD x= .err c):False:=by cases x <;> cases h
end
end Pu
namespace Pu
open PySem PySem.Spec L2
open PyProof.Rows hiding St
end Pu
namespace Pu
open PySem PySem.Spec L2
open PyProof.Rows hiding St
section
variable {X:Cx}
theorem intVals:∀{ns:List Int} {its:List Value},Vals (ns.map V.int) its→IntsAre its ns
  |[],_,r=>by cases r;exact .nil
  | n::ns,_,r=>by
    cases r with
    |cons h t=>obtain⟨tk,rfl⟩:=h;exact .cons n tk (intVals t)
theorem reps_ints {K:PySem.W.Frag} {O:Addr→Prop} {H:Hp}:∀{ds:List D} {ns:List Int} {vs:List V},intsOf ds=some ns→Reps K O H ds vs→vs=ns.map V.int
  |[],ns,vs,e,r=>by cases e;exact r.nil_inv
  | d ::ds,ns,vs,e,r=>by
    obtain⟨x,t,rfl,h1,h2⟩:=r.cons_inv
    cases d with
    | int i=>
      have e:(intsOf ds).map (i:: ·)=some ns:=e
      cases q:intsOf ds with
      |none=>rw[q] at e;cases e
      |some l=>rw[q] at e;cases e;rw[h1.int,reps_ints q h2];rfl
    |_=>cases e
theorem reps_of_ints {K:PySem.W.Frag} {O:Addr→Prop} {H:Hp}:∀{ns:List Int},Reps K O H (ns.map D.int) (ns.map V.int)
  |[]=> .nil
  |_::_=> .cons (rep_int _) reps_of_ints
variable {pos:Pos}
end
end Pu
namespace Pu
open PySem PySem.Spec L2
open PyProof.Rows hiding St
noncomputable def Ite (K:PySem.W.Frag) (t:Bool) (l:Addr):It:=
  ⟨fun i H=>∃xs x,Sq t K H l xs∧xs[i]?=some x,
   fun i H v H'=>∃p x,H p=none∧v= .ref p∧H'=upd H p (.tup [.int (i:Int),x])∧∀xs,Sq t K H l xs→xs[i]?=some x,
   fun i H=>∃xs,Sq t K H l xs∧xs.length≤i⟩
section
variable {X:Cx} {pins:List (Addr×Obj)} {σ:St} {H:Hp} {s:Shared} {A':Around} {E:Value→Shared→Prop}
theorem enum_next {e it l:Addr} {t:Bool} {k:Nat} {xs:List V} {x:V} {old:Value} {Q:Value→Shared→Prop} (I:Inv X pins σ H s) (fe:FpOk X pins H e) (fi:FpOk X pins H it) (ne:e≠it)
    (he:IsEnum s.heap e it k old) (hs:SIt t s.heap it l k) (q:Sq t X.K H l xs) (ex:xs[k]?=some x)
    (hQ:∀h' u,Inv X pins σ (upd H s.heap.objs.size (.tup [.int (k:Int),x])) {s with heap:=h',toks:=s.toks+1}→IsEnumOut h' e it ((k:Int)+1) u s.heap.objs.size→SIt t h' it l (k+1)→Q (.ref s.heap.objs.size) {s with heap:=h',toks:=s.toks+1}):
    wpAny (model X.prog X.w) A' (Builtin.«enumerate.__next__» ⟨[.ref e],[]⟩) (fun fin s'=>∃v,fin= .done (.ret v)∧Q v s') E s:=by
  obtain⟨us,r1,p1⟩:=I.sq q
  obtain⟨u,hu,ru⟩:=r1.get ex
  obtain⟨hp,g,d,tk,os⟩:=s
  show wpAny _ _ (field (.ref e) 2 >>=_) _ _ _;refine wpAny_bind (wpAny_field he rfl (x:= .ref it) rfl ?_)
  refine wpAny_bind (nextS hs p1 (v:=u) (by simpa using hu) fun g1 s1 b1=>?_)
  have I1:=I.fp fi b1
  replace b1:Heap.SameBut it hp g1:=b1
  have e1:IsEnum g1 e it k old:=(b1.2 e ne).trans he
  show wpAny _ _ (field (.ref e) 3 >>=_) _ _ ⟨g1,g,d,tk,os⟩;refine wpAny_bind (wpAny_field e1 rfl (x:=rawInt k) rfl ?_)
  show wpAny _ _ (field (.ref e) 4 >>=_) _ _ ⟨g1,g,d,tk,os⟩;refine wpAny_bind (wpAny_field e1 rfl (x:= .none) rfl ?_)
  show wpAny _ _ (mkInt k >>=_) _ _ ⟨g1,g,d,tk,os⟩;refine wpAny_bind (wpAny_mkInt ?_)
  have I1':Inv X pins σ H ⟨g1,g,d,tk+1,os⟩:=Inv.tok (s:=⟨g1,g,d,tk,os⟩) I1 (tk+1)
  show wpAny _ _ (setField (.ref e) 3 (rawInt ((k:Int)+1)) >>=_) _ _ ⟨g1,g,d,tk+1,os⟩
  refine wpAny_bind (wpAny_setField_rec e1 (by simp) fun g2 e2 b2=>?_)
  have I2:=I1'.fp fe b2
  replace b2:Heap.SameBut e g1 g2:=b2
  replace e2:IsEnum g2 e it ((k:Int)+1) old:=e2
  show wpAny _ _ (setField (.ref e) 4 .none >>=_) _ _ ⟨g2,g,d,tk+1,os⟩
  refine wpAny_bind (wpAny_setField_rec e2 (by simp) fun g3 e3 b3=>?_)
  have I3:=I2.fp fe b3
  replace b3:Heap.SameBut e g2 g3:=b3
  replace e3:IsEnum g3 e it ((k:Int)+1) old:=e3
  show wpAny _ _ (newTuple [.int k tk,u] >>=_) _ _ ⟨g3,g,d,tk+1,os⟩;refine wpAny_bind (wpAny_newTuple ?_)
  have sz:g3.objs.size=hp.objs.size:=by rw[b3.1,b2.1,b1.1]
  have lt:e≠g3.objs.size:=Nat.ne_of_lt (Heap.lt_size e3)
  have I4:Inv X pins σ (upd H g3.objs.size (.tup [.int (k:Int),x])) ⟨g3.push {cls:= .type "tuple",data:= .seq #[.int k tk,u]},g,d,tk+1,os⟩:=
    Inv.laid (s:=⟨g3,g,d,tk+1,os⟩) (t':=tk+1) I3 (fun b u e=>Heap.get?_push_of_some _ e) (Nat.le_refl _) ⟨two_le,[.int k tk,u],.cons ⟨tk,rfl⟩ (.cons ru .nil),⟨_,Heap.get?_push_size _ rfl,rfl,_,rfl⟩⟩
  have e4:IsEnum (g3.push {cls:= .type "tuple",data:= .seq #[.int k tk,u]}) e it ((k:Int)+1) old:=Heap.get?_push_of_some _ e3
  have s4:SIt t (g3.push {cls:= .type "tuple",data:= .seq #[.int k tk,u]}) it l (k+1):=s1.of fun o z=>Heap.get?_push_of_some _ (b3.extBut _ _ (Ne.symm ne) (b2.extBut _ _ (Ne.symm ne) z))
  show wpAny _ _ (Builtin.SmallTypes.ownedTupleIsFree (.ref e) >>=_) _ _ ⟨g3.push {cls:= .type "tuple",data:= .seq #[.int k tk,u]},g,d,tk+1,os⟩
  generalize g3.push {cls:= .type "tuple",data:= .seq #[.int k tk,u]}=g4 at *
  refine wpAny_bind ?_
  unfold Builtin.SmallTypes.ownedTupleIsFree
  refine wpAny_bind (wpAny_field e4 rfl (x:= .none) rfl (wpAny_pure ?_));simp only[if_true]
  refine wpAny_bind (wpAny_rule (wpAny_bind (wpAny_field e4 rfl (x:=old) rfl ?_)))
  refine wpAny_bind (wpAny_setField_rec e4 (by simp) fun g5 e5 b5=>?_)
  have I5:=I4.fp (fe.upd lt) b5
  replace b5:Heap.SameBut e g4 g5:=b5
  replace e5:IsEnum g5 e it ((k:Int)+1) u:=e5
  show wpAny _ _ (Builtin.SmallTypes.ownedTupleHandOut (.ref e) (.ref g3.objs.size) >>=_) _ _ ⟨g5,g,d,tk+1,os⟩;refine wpAny_bind ?_
  unfold Builtin.SmallTypes.ownedTupleHandOut
  refine wpAny_bind (wpAny_setField_rec e5 (by simp) fun g6 e6 b6=>?_)
  have I6:=I5.fp (fe.upd lt) b6
  replace b6:Heap.SameBut e g5 g6:=b6
  replace e6:IsEnumOut g6 e it ((k:Int)+1) u g3.objs.size:=e6
  refine wpAny_setField_rec e6 (by simp) fun g7 e7 b7=>?_
  have I7:=I6.fp (fe.upd lt) b7
  replace b7:Heap.SameBut e g6 g7:=b7
  replace e7:IsEnumOut g7 e it ((k:Int)+1) u g3.objs.size:=e7
  refine wpAny_bind (wpAny_letGo (wpAny_pure ⟨_,rfl,?_⟩))
  rw[sz] at I7 e7
  show Q (.ref g3.objs.size) _
  rw[sz]
  exact hQ g7 u I7 e7 (s4.of fun o z=>b7.extBut _ _ (Ne.symm ne) (b6.extBut _ _ (Ne.symm ne) (b5.extBut _ _ (Ne.symm ne) z)))
end
theorem turn_enum {P:Program} {w:World} {K:PySem.W.Frag} {tgs:List Expr} {kk} {pp:Pos} {e it l:Addr} {t:Bool} (ne:e≠it):
    Turn P w K (.Tuple tgs kk pp) (Ite K t l) [e,it] e (fun i h=>(∃old,IsEnum h e it i old)∧SIt t h it l i) where
  mem:=by simp
  obj:=fun i h st b hb=>by
    obtain⟨⟨old,he⟩,hs⟩:=st
    simp only[List.mem_cons,List.not_mem_nil,or_false] at hb
    rcases hb with rfl |rfl
    · exact⟨_,he,fun v q=>by have q':Data.fields _=Data.cell v:=q;cases q'⟩
    · exact hs.obj
  keep:=fun i h h' st k=>by
    obtain⟨⟨old,he⟩,hs⟩:=st
    exact⟨⟨old,k _ (by simp) _ he⟩,hs.of fun o z=>k _ (by simp) o z⟩
  item :=by
    intro X hP hw hK hc i pins s σ H E I hf st hg
    subst hP hw hK
    obtain⟨⟨old,he⟩,hs⟩:=st
    obtain⟨xs,x,q,ex⟩:=hg
    have hT:s.TypeIs (.ref e) "enumerate" :=⟨_,he,rfl⟩
    have hp:H s.heap.objs.size=none:=I.hok.fresh (Nat.le_refl _)
    have nz:∀b,b∈[e,it]→b≠s.heap.objs.size:=fun b hb z=>by
      obtain⟨o,eo⟩:∃o,s.heap.get? b=some o:=by
        simp only[List.mem_cons,List.not_mem_nil,or_false] at hb
        rcases hb with rfl |rfl
        · exact⟨_,he⟩
        · obtain⟨o,eo,_⟩:=hs.obj;exact⟨o,eo⟩
      exact absurd (Heap.lt_size eo) (by rw[z];exact Nat.lt_irrefl _)
    unfold pyNext
    refine wpAny_bind (wpAny_attempt (wpAny_callSpecial?_slot (name:=Str.ofString "__next__") hT F.slot_enumerate_next (wpAny_call_entry F.slot_enumerate_next hT F.entry_enumerate_next
      (enum_next I (hf e (by simp)) (hf it (by simp)) ne he hs q ex fun h' u I' e' s'=>wpAny_pure ⟨_,rfl,?_⟩) (F.args_enumerate_next_1 _))))
    refine wpAny_letOwnedTupleGo_enum e' fun h'' e'' b''=>⟨.ref s.heap.objs.size,upd H s.heap.objs.size (.tup [.int (i:Int),x]),I'.fp ((hf e (by simp)).upd (nz e (by simp))) b'',rfl,⟨_,x,hp,rfl,rfl,fun xs' q'=>by rw[I.sq_inj q' q];exact ex⟩,⟨⟨u,by simpa using e''⟩,s'.of fun o z=>b''.extBut _ _ (Ne.symm ne) z⟩,fun b hb=>?_⟩
    rw[upd_ne (nz b hb)];exact (hf b hb).1
  done:=by
    intro X hP hw hK hc i pins s σ H E I hf st hg
    subst hP hw hK
    obtain⟨⟨old,he⟩,hs⟩:=st
    obtain⟨xs,q,en⟩:=hg
    obtain⟨us,r1,p1⟩:=I.sq q
    have hT:s.TypeIs (.ref e) "enumerate" :=⟨_,he,rfl⟩
    unfold pyNext
    refine wpAny_bind (wpAny_attempt (wpAny_callSpecial?_slot (name:=Str.ofString "__next__") hT F.slot_enumerate_next (wpAny_call_entry F.slot_enumerate_next hT F.entry_enumerate_next ?_ (F.args_enumerate_next_1 _))))
    show wpAny _ _ (field (.ref e) 2 >>=_) _ _ _;refine wpAny_bind (wpAny_field he rfl (x:= .ref it) rfl ?_)
    refine wpAny_bind (nextSEnd (I.ok.hd hc) hs p1 (by have:=r1.length;simp;omega) fun g1 x eb hpz1=>?_)
    obtain⟨o,ho,ec⟩:=hpz1
    exact wpAny_bind (wpAny_isInstance (T:= "StopIteration") (b:=true) ⟨o,ho,ec⟩ isSubtype_stop (wpAny_pure ⟨rfl,I.fpE (hf it (by simp)) eb⟩))
  self:=fun _ _ _ _ _ st h=>by
    obtain⟨⟨old,he⟩,_⟩:=st
    exact wpAny_pyIter_enum he h
theorem meets_enumS (t:Bool) (l:Addr) (xs:Array Value):Meets (Builtin.«enumerate.__new__» ⟨[.type "enumerate",.ref l],[]⟩)
    (fun _ R s=>SSq t s.heap l xs∧R (.ok (.ret (.ref (s.heap.push (itR t l)).objs.size))) {s with heap:=(s.heap.push (itR t l)).push {cls:= .type "enumerate",data:= .fields #[.none,.bool false,.ref s.heap.objs.size,rawInt 0,.none,.none]}}):=
  .of_wp fun prog w A R s h=>by
    obtain⟨hp,g,d,tk,os⟩:=s
    obtain⟨k1,h⟩:=h
    have hsub:=sub_enumerate
    have L1:SSq t (Shared.heap ⟨hp,g,d,tk,os⟩) l xs:=k1
    wp_walk using iterS L1
    refine wpAny_stack_any fun st=>wpAny_pure ?_
    split
    · rename_i c _ _ _ _ _
      cases (c ==Value.type "enumerate") <;> (wp_walk using iterS L1;exact⟨_,rfl,h⟩)
    · wp_walk using iterS L1
      exact⟨_,rfl,h⟩
section
variable {prog:Program} {w:World} {A:Around} {E:Value→Shared→Prop} {s:Shared}
theorem call_enumS {t:Bool} {l:Addr} {xs:Array Value} {Q:Value→Shared→Prop} (k1:SSq t s.heap l xs)
    (h:∀h',IsEnum h' (s.heap.objs.size+1) s.heap.objs.size 0 .none→SIt t h' s.heap.objs.size l 0→(∀c o,s.heap.get? c=some o→h'.get? c=some o)→Q (.ref (s.heap.objs.size+1)) {s with heap:=h'}):
    wpAny (model prog w) A (call (.type "enumerate") [.ref l]) Q E s:=by
  refine callType_new F.called_enumerate (by decide) (F.typeCall_enumerate_1 _) (F.newCall_enumerate_1 _) (fun obj=>F.args_object_init_2 obj _) F.entry_enumerate_new (meets_enumS t l xs) ⟨k1,?_⟩
  have z1:(s.heap.push (itR t l)).objs.size=s.heap.objs.size+1:=Heap.size_push ..
  have a2:((s.heap.push (itR t l)).push {cls:= .type "enumerate",data:= .fields #[.none,.bool false,.ref s.heap.objs.size,rawInt 0,.none,.none]}).get? (s.heap.push (itR t l)).objs.size=some _:=Heap.get?_push_size _ rfl
  show _∧_
  rw[z1] at a2 ⊢
  exact⟨⟨_,a2,rfl⟩,h _ a2 (.new (Heap.get?_push_of_some _ (Heap.get?_push_size _ rfl))) fun c o e=>Heap.get?_push_of_some _ (Heap.get?_push_of_some _ e)⟩
end
section
variable {X:Cx} {tgs:List Expr} {kk:Nat} {pp:Pos} {a:Expr} {p pos:Pos} {fa:Rho→R (List D)}
noncomputable def iEnum (K:PySem.W.Frag) (ta:TA):TI:=fun σ H R=>ta σ H fun vs H1=>∃t l,vs=[.ref l]∧(∃xs,Sq t K H1 l xs)∧R (Ite K t l) H1
theorem pi_enum {ta:TA} (hg:Gl X "enumerate") (hm:X.mg "enumerate" =none) (ha:PA X [a] ta) (he:starEach [a] X.env=(false,eval a X.env)::starEach [] X.env:=by rfl) (hpl:(backTo pos (starEach [] X.env)).any (·.1)=false:=by rfl):
    PI X (.Tuple tgs kk pp) (.Call (.Name "enumerate" p) [a] [] pos) (iEnum X.K ta):=by
  intro pins s σ H R I h
  refine Call_ (ld_blt I hg hm boot_enumerate (PyProof.Rows.callWith_type1 (thn (ha pos pins s σ H _ I h) fun us s1 ⟨vs,H1,I1,r1,q1⟩=>?_) he hpl))
  obtain⟨t,l,e,⟨xs,w1⟩,q⟩:=q1
  subst e
  cases r1 with
  | cons r rr=>
    cases rr
    cases r
    obtain⟨vs1,_,p1⟩:=I1.sq w1
    refine call_enumS p1 fun h' e' s' k=>wpAny_pyIter_enum e' ⟨s1.heap.objs.size+1,[s1.heap.objs.size+1,s1.heap.objs.size],_,_,H1,rfl,I1.kept (t':=s1.toks) k,turn_enum ?_,⟨⟨_,e'⟩,s'⟩,fun c hc=>(by
        have hle:s1.heap.objs.size≤c:=by
          simp only[List.mem_cons,List.not_mem_nil,or_false] at hc
          rcases hc with rfl |rfl <;> first |exact Nat.le_refl _ |exact Nat.le_add_right _ _
        exact I1.fpOk hle (I1.hok.fresh hle)),q⟩
    all_goals (show @Ne Nat _ _;omega)
noncomputable def enumL:Nat→List D→List D
  |_,[]=>[]
  |n,d::ds=> .tup [.int (n:Int),d]::enumL (n+1) ds
theorem enumL_get:∀{ds:List D} {n i:Nat} {d:D},(enumL n ds)[i]?=some d→∃x,ds[i]?=some x∧d= .tup [.int ((n+i:Nat):Int),x]
  |[],_,_,_,h=>by simp[enumL] at h
  |x::ds,n,0,d,h=>by simp[enumL] at h;exact⟨x,rfl,by rw[←h];rfl⟩
  | x::ds,n,i+1,d,h=>by
    rw[enumL,List.getElem?_cons_succ] at h
    obtain⟨y,e1,e2⟩:=enumL_get h
    exact⟨y,by rw[List.getElem?_cons_succ];exact e1,by rw[e2,show n+1+i=n+(i+1) by omega]⟩
theorem enumL_len:∀{ds:List D} {n:Nat},(enumL n ds).length=ds.length
  |[],_=>rfl
  |_::ds,n=>by rw[enumL,List.length_cons,enumL_len,List.length_cons]
noncomputable def enumD:List D→R (List D)
  |[x]=>(itemsD x).bind fun xs=> .ok (enumL 0 xs)
  |_=> .bad
theorem YR.enum {K:PySem.W.Frag} {O:Addr→Prop} {H:Hp} {t:Bool} {a:Addr} {xs:List D} (s1:Src K O H t a xs):YR K O H (Ite K t a) (enumL 0 xs):=by
  intro O' H' q i
  obtain⟨v1,q1,r1⟩:=s1.go q
  refine⟨fun d e=>?_,fun e=>⟨v1,q1,?_⟩⟩
  · obtain⟨x,e1,rfl⟩:=enumL_get e
    obtain⟨u1,g1,w1⟩:=r1.get e1
    refine⟨⟨v1,u1,q1,g1⟩,fun x H2 y=>?_⟩
    obtain⟨p,x1,hp,rfl,rfl,k1⟩:=y
    have k1:=k1 _ q1
    rw[g1] at k1;cases k1
    rw[Nat.zero_add]
    exact⟨Same.upd hp,rep_tup (SqT.of upd_same) ((Reps.cons (rep_int _) (.cons w1 .nil)).same (Same.upd hp))⟩
  · rw[←r1.length,←enumL_len (n:=0)];exact e
theorem di_enum (hg:Gl X "enumerate") (hm:X.mg "enumerate" =none) (ha:DA X [a] fa) (he:starEach [a] X.env=(false,eval a X.env)::starEach [] X.env:=by rfl) (hpl:(backTo pos (starEach [] X.env)).any (·.1)=false:=by rfl):
    DI X (.Tuple tgs kk pp) (.Call (.Name "enumerate" p) [a] [] pos) (fun ρ=>(fa ρ).bind enumD):=by
  refine PI.imp (pi_enum hg hm ha he hpl) fun σ H Q q=>?_
  obtain⟨ρ,O,j,q⟩:=q
  refine go j q fun ds vs H1 e1 s1 r1 j1 h1=>?_
  unfold enumD at h1
  split at h1
  · rename_i x
    obtain⟨v1,rfl,w1⟩:=r1.one
    cases ex:itemsD x with
    |bad=>rw[ex] at h1;exact h1.elim
    |err c=>exact (items_noerr ex).elim
    | ok xs=>
      rw[ex,R.bind_ok] at h1
      obtain⟨t1,a1,rfl,c1⟩:=src_of w1 ex
      obtain⟨vs1,k1,_⟩:=c1.ex
      exact⟨t1,a1,rfl,⟨vs1,k1⟩,fin h1 (YR.enum c1)⟩
  · exact h1.elim
end
end Pu
namespace Pu
open PySem PySem.Spec L2
open PyProof.Rows hiding St
section
variable {prog:Program} {w:World} {A:Around} {E:Value→Shared→Prop} {s:Shared}
end
section
variable {X:Cx} {a:Expr} {p pos p2 pos2:Pos} {fa:Rho→R (List D)}
noncomputable def tRng (K:PySem.W.Frag) (ta:TA):TE:=fun σ H Q=>ta σ H fun vs H1=>∃j:Int,vs=[.int j]∧0≤j∧j≤1000∧∀q,H1 q=none→Q (.ref q) (upd H1 q (.rng 0 j))
theorem pe_rng {ta:TA} (hg:Gl X "range") (hm:X.mg "range" =none) (ha:PA X [a] ta) (hs:starEach [a] X.env=[(false,eval a X.env)]:=by rfl):PE X (.Call (.Name "range" p) [a] [] pos) (tRng X.K ta):=by
  intro pins s σ H Q I h
  refine Call_ (ld_blt I hg hm boot_range (PyProof.Rows.callWith_type1 (thn (ha pos pins s σ H _ I h) fun us s1 ⟨vs,H1,I1,r1,q1⟩=>?_) hs rfl))
  obtain⟨j,e,h0,h1,q⟩:=q1
  subst e
  cases r1 with
  | cons r rr=>
    cases rr
    obtain⟨t,rfl⟩:=r
    refine call_range_1 ?_
    exact⟨.ref s1.heap.objs.size,upd H1 s1.heap.objs.size (.rng 0 j),I1.laid (fun b o e=>Heap.get?_push_of_some _ e) (Nat.le_refl _) ⟨_,_,_,Heap.get?_push_size _ rfl⟩,rfl,q _ (I1.hok.fresh (Nat.le_refl _))⟩
end
end Pu
namespace Pu
open PySem PySem.Spec L2
open PyProof.Rows hiding St
section
variable {X:Cx} {e:Expr} {f:Rho→R D} {pos:Pos}
noncomputable def augS (i:Nat) (f:Rho→R D):Rho→So:=fun ρ=>match ρ[i]? with
  | some (some (.val (.int a)))=>ofR (f ρ) ρ fun d=>match d with
    | .int b=> .nx (ρ.set i (some (.val (.int (a+b)))))
    |_=> .bad
  |_=> .bad
theorem ds_aug (i:Nat) {x:Str} {pos':Pos} (hN:X.N.Nodup) (he:DE X e f) (hi:X.N[i]?=some x:=by rfl) (hx:Loc X.env.scope x:=by first |exact Or.inl rfl |exact Or.inr rfl)
    (hf:X.fn x=true∨X.env.scope.names.lookup x=some .local:=by first |exact .inl rfl |exact .inr rfl):DS X (.AugAssign (.Name x pos') .Add e pos) (augS i f):=by
  refine PS.imp (ps_aug hN hi hx he ip_add hf) fun σ H E h=>?_
  obtain⟨H0,O0,O,ρ,j,h⟩:=h
  unfold augS at h
  cases e1:ρ[i]? with
  |none=>simp only[e1] at h;exact h.elim
  | some oe =>
    cases oe with
    |none=>simp only[e1] at h;exact h.elim
    | some en=>
      cases en with
      |lst _=>simp only[e1] at h;exact h.elim
      |dic _=>simp only[e1] at h;exact h.elim
      |obj _=>simp only[e1] at h;exact h.elim
      | val d=>
        cases d with
        | int a=>
          simp only[e1] at h
          obtain⟨v,hv,rv⟩:=j.inn.env.get i _ e1
          have rv:v= .int a:=Rep.int (K:=X.K) (O:=O) (H:=H) rv
          subst rv
          refine⟨.int a,hv,ρ,O,j.inn,?_⟩
          unfold ofR at h
          cases e2:f ρ with
          |bad=>rw[e2] at h;exact h
          |err c=>rw[e2] at h;exact h σ H O j
          | ok d=>
            rw[e2] at h
            intro v' H' s r
            cases d with
            |int b=>exact⟨a,b,rfl,r.int,h _ H' O ((j.grow s).set (List.getElem?_eq_some_iff.mp hi).1 (rep_int _)) (Same.rch s)⟩
            |_=>exact h.elim
        |_=>simp only[e1] at h;exact h.elim
end
end Pu
namespace Pu
open PySem PySem.Spec L2
open PyProof.Rows hiding St
section
variable {X:Cx}
end
end Pu
namespace Pu
open PySem PySem.Spec L2
open PyProof.Rows hiding St
section
variable {X:Cx}
inductive CmpI (XB:Cx) (K:PySem.W.Frag) (O:Addr→Prop) (H2:Hp) (Dd:Addr) (fp:List Addr) (tn:Nat→Heap→Prop) (ρ0:Rho) (xs:List D) (F:D→R (Option D)) (all:List D) (n:Nat) (s':Shared):Prop
  |mk (i:Nat) (σ':St) (H':Hp) (ys:List V) (ds rest:List D) (en:n=xs.length+1 - i) (hil:i≤xs.length) (I:Inv XB [] σ' H' s') (st:tn i s'.heap) (fr:∀b∈fp,H' b=none) (j:In XB O H' ρ0 σ') (sm:Same H2 H') (hD:H' Dd=some (.lst ys)) (rp:Reps K O H' ds ys) (hm:mapO F (xs.drop i)= .ok rest) (hr:ds++rest=all):CmpI XB K O H2 Dd fp tn ρ0 xs F all n s'
theorem comp_run {tg iter elt:Expr} {ifs:List Expr} {scope:Scope} {pos pos2:Pos} {fi:Rho→R (List D)} {gt:D→Rho→R Rho} {ft:Rho→R Bool} {fe:Rho→R D} (ts:List Str) (caps:List Nat)
    (hc:X.calm=true) (hb:blkB X.env.scope scope ts X.N=true) (hcap:(capt scope).map (fun x=>ixOf x X.N)=caps)
    (hi:DI X tg iter fi) (hk:KeepsG ts.length gt) (hg:∀C s H ex,(blkCx X scope ts C s H ex).N.Nodup→DG (blkCx X scope ts C s H ex) tg gt) (ht:∀C s H ex,DTs (blkCx X scope ts C s H ex) ifs ft) (he:∀C s H ex,DE (blkCx X scope ts C s H ex) elt fe)
    (hs:∀x,foldedSetIterable iter X.env x=pure x) {use:Option (Value→Sem Unit)} {Qr:Value→Shared→Prop} {pins:List (Addr×Obj)} {s:Shared} {σ:St} {H:Hp} {ρ:Rho} {O:Addr→Prop} {Q:VK} (I:Inv X pins σ H s) (j:In X O H ρ σ)
    (hQ:∀(v:V) (H':Hp) (s5:Shared) (C:Addr) (m:Str→Option Value) (f:Flow) (acc:Value),Q v H'→Inv X pins σ H' s5→s5.heap.Ns C m→FpOk X pins H' C→RelV v acc→compPost (model X.prog X.w) X.A X.xe use Qr acc C (.ok f) s5)
    (h:good X (rD X) O (compV ts.length caps fi gt ft fe ρ) σ H Q):
    wpAny (model X.prog X.w) X.A (comprehension (.ListComp elt [⟨tg,iter,ifs,0⟩] scope pos) scope X.env pos2 (newList []) false (eval iter X.env) use) Qr X.xe s:=by
  have B:=blkOk hb
  refine wpAny_comprehension_free (cl:=clOf X.env.cells scope.names []) (use:=use) rfl hs (closure_of fun x hx e=>?_) B.kind B.loc ?_
  · obtain⟨n,k⟩:=x
    have e:k= .free:=e
    subst e
    exact I.ok.has n (B.out n (mem_capt hx))
  refine thn (hi pins s σ H (fun J H1=>∃xs,YR X.K O H1 J xs∧In X O H1 ρ σ∧good X (rD X) O ((mapO (eltV gt ft fe (pullN ts.length caps ρ)) xs).bind (cap .lst)) σ H1 Q) I (Pu.go j h fun xs J H1 e1 s1 y1 j1 h1=>⟨xs,y1,j1,h1⟩)) fun xv s1 h1=>thn h1 fun itv s2 h2=>?_
  obtain⟨it,fp,tn,J,H2,e,I2,T,st2,f2,xs,yr,j2,g2⟩:=h2
  subst e
  rw[←pull_pullN hcap] at g2
  generalize eρ:pull X.N (capt scope) ts.length (ρ.map vOnly)=ρ0 at g2
  obtain⟨all,hall,hlen,g3⟩:∃all,mapO (eltV gt ft fe ρ0) xs= .ok all∧all.length≤1000000∧good X (rD X) O (.ok (.lst all)) σ H2 Q:=by
    cases e:mapO (eltV gt ft fe ρ0) xs with
    |bad=>rw[e] at g2;exact g2.elim
    |err c=>exact absurd e mapO_noerr
    | ok all=>
      rw[e] at g2
      have g2:good X (rD X) O (if all.length≤1000000 then .ok (.lst all) else .bad) σ H2 Q:=g2
      by_cases hl:all.length≤1000000
      · rw[if_pos hl] at g2;exact⟨all,rfl,hl,g2⟩
      · rw[if_neg hl] at g2;exact g2.elim
  have hlt:∀b∈fp,b < s2.heap.objs.size:=fun b hb=>by
    obtain⟨o,e,_⟩:=T.obj 0 _ st2 b hb
    exact Heap.lt_size e
  refine wpAny_newObj_type (new_block ?_)
  generalize hC:(s2.heap.push {cls:= .type "list",dict:=none,data:= .seq ([]:List Value).toArray}).objs.size=C
  have hC':C=s2.heap.objs.size+1:=by rw[←hC];exact Heap.size_push ..
  generalize e4:pushCells ((s2.heap.push {cls:= .type "list",dict:=none,data:= .seq ([]:List Value).toArray}).push {cls:= .type "dict",data:= .dict #[]}) scope.names=h4
  show codeAny (model X.prog X.w) X.A (.compStart (.ListComp elt [⟨tg,iter,ifs,0⟩] scope pos) 0 (.ref it) (.ref s2.heap.objs.size) (blkEnv scope X.env C)) (compPost (model X.prog X.w) X.A X.xe use Qr (.ref s2.heap.objs.size) C) {s2 with heap:=h4}
  have hDn:H2 s2.heap.objs.size=none:=I2.hok.fresh (Nat.le_refl _)
  have hOn:¬O s2.heap.objs.size:=j2.notO hDn
  have hDk:X.K.lookup s2.heap.objs.size=none:=by
    cases q:X.K.lookup s2.heap.objs.size with
    |none=>rfl
    |some o=>exact absurd (Heap.lt_size (I2.kIn _ _ q)) (Nat.lt_irrefl _)
  have I4:=blk_inv (ts:=ts) I2 B f2 hlt hC' e4.symm
  have sD:Same H2 (upd H2 s2.heap.objs.size (.lst [])):=Same.upd hDn
  have lρ0:ρ0.length=(ts++capt scope).length:=by rw[←eρ,pull_len,List.length_append]
  generalize eD:s2.heap.objs.size=Dd at *
  have rchO:∀{H':Hp},Same H2 H'→Rch X.K O H2 (fun a=>O a∨a=Dd) H':=fun sm=>⟨(Same.rch (K:=X.K) (O:=O) sm).ext,fun a z=>z.elim .inl fun e=> .inr (by rw[e];exact⟨hDn,hDk⟩),(Same.rch (K:=X.K) (O:=O) sm).dom⟩
  have alO:∀{H':Hp} {ys:List V},Same H2 H'→H' Dd=some (.lst ys)→∀a,(O a∨a=Dd)→∃o,H' a=some o:=fun sm e a z=>z.elim (fun q=>let ⟨o,h⟩:=j2.al a q;⟨o,sm _ _ h⟩) fun q=>by rw[q];exact⟨_,e⟩
  have j4:In (blkCx X scope ts C s2 H2 fp) (fun a=>O a∨a=Dd) (upd H2 Dd (.lst [])) ρ0 (pull X.N (capt scope) ts.length σ):=by
    rw[←eρ]
    exact In.go (blk_in B j2.vals) pull_vals (rchO sD) (alO sD upd_same)
  have hv0:∀(i:Nat) e,ρ0[i]?=some (some e)→e.isV=true:=by rw[←eρ];exact pull_vals
  have hn0:∀i,i < ts.length→ρ0[i]?=some none:=by rw[←eρ];exact fun i h=>pull_none h
  have keep4:∀b o,s2.heap.get? b=some o→h4.get? b=some o:=fun b o e=>by
    rw[←e4];exact pushCells_keeps _ _ b o (Heap.get?_push_of_some _ (Heap.get?_push_of_some _ e))
  have st4:tn 0 h4:=T.keep _ _ _ st2 fun b _ o e=>keep4 b o e
  have stat:∀{H':Hp},(∀b∈fp,H' b=none)→∀b∈fp,FpOk (blkCx X scope ts C s2 H2 fp) [] H' b:=fun {H'} hn b hb=>by
    have hl: @LT.lt Nat _ b Dd:=hlt b hb
    obtain⟨_,a1,a2,a3,a4,_⟩:=f2 b hb
    refine⟨hn b hb,by show @Ne Nat b C;omega,fun z=>?_,.inl hb,fun x c h=>?_,fun p hp=>absurd (show p∈([]:List (Addr×Obj)) from hp) (by simp)⟩
    · rcases List.mem_cons.mp (I2.stkSub b z) with z |z
      · exact a1 z
      · exact a2 z
    · rcases blk_cell B I2.ok.has h with⟨_,q⟩ |⟨_,q⟩
      · show @Ne Nat c b;omega
      · exact a4 x c q
  have fr4:∀b∈fp,(upd H2 Dd (.lst [])) b=none:=fun b hb=>by
    have hl: @LT.lt Nat _ b Dd:=hlt b hb
    rw[upd_ne (show @Ne Nat b Dd by omega)];exact (f2 b hb).1
  have loop : ∀ s0:Shared,s0={s2 with heap:=h4}→codeAny (model X.prog X.w) X.A (.compLoop (.ListComp elt [⟨tg,iter,ifs,0⟩] scope pos) 0 (.ref it) (.ref Dd) (blkEnv scope X.env C)) (compPost (model X.prog X.w) X.A X.xe use Qr (.ref Dd) C) s0:=by
    intro s0 e0
    refine codeAny_loop rfl (fun n s'=>CmpI (blkCx X scope ts C s2 H2 fp) X.K (fun a=>O a∨a=Dd) H2 Dd fp tn ρ0 xs (eltV gt ft fe ρ0) all n s') (fun n s' hI=>?_) (xs.length+1)
      ⟨0,_,_,[],[],all,rfl,Nat.zero_le _,e0▸I4,e0▸st4,fr4,j4,sD,upd_same,.nil,by simpa using hall,rfl⟩
    obtain⟨i,σ',H',ys,ds,rest,rfl,hil,I',st',fr',j',sm',hD',rp',hm',hr'⟩:=hI
    show wpAny (model X.prog X.w) X.A ((compTurn (.ListComp elt [⟨tg,iter,ifs,0⟩] scope pos) 0 (.ref it) (.ref Dd) (blkEnv scope X.env C)).onRaise (fun x=>do noteFrame x (blkEnv scope X.env C);theTreesLotGoes x)) _ _ s'
    refine wpAny_noted ?_
    rw[compTurn_list]
    have yat:=yr _ H' (rchO sm') i
    refine wpAny_bind (wpAny_standAt (wpAny_bind ?_))
    by_cases hlt':i < xs.length
    · -- a turn
      have ex:xs[i]?=some xs[i]:=by simp[hlt']
      have ed:xs.drop i=xs[i]::xs.drop (i+1):=List.drop_eq_getElem_cons hlt'
      rw[ed] at hm'
      obtain⟨o,rest',k1,k2,k3⟩:=mapO_cons hm'
      obtain⟨jgo,jy⟩:=yat.1 _ ex
      refine wpAny_mono (T.item (blkCx X scope ts C s2 H2 fp) rfl rfl rfl hc i [] s' σ' H' (fun _ _=>False) I' (stat fr') st' jgo) (fun r s4 ⟨u,hr,h4'⟩=>?_) fun _ _ z=>z.elim
      subst hr
      refine wpAny_bind (wpAny_mono h4' (fun _ s5 ⟨x,H5,I5,r5,y5,st5,fr5⟩=>?_) fun _ _ z=>z.elim)
      obtain⟨sm5,rep5⟩:=jy x H5 y5
      have I5':=I5.pinned (stat fr5) (T.obj _ _ st5)
      have k1:(gt xs[i] ρ0).bind (fun ρ1=>(ft ρ1).bind fun b=>if b=true then (fe ρ1).bind fun d=> .ok (some d) else .ok none)= .ok o:=k1
      cases q1:gt xs[i] ρ0 with
      |bad=>rw[q1] at k1;cases k1
      |err c=>rw[q1] at k1;cases k1
      | ok ρ1 =>
        rw[q1] at k1
        have k1:(ft ρ1).bind (fun b=>if b=true then (fe ρ1).bind fun d=> .ok (some d) else .ok none)= .ok o:=k1
        refine wpAny_bind (wpAny_mono (hg C s2 H2 fp B.nd _ s5 σ' H5 x u (fun σ6 H6=>H6=H5∧In (blkCx X scope ts C s2 H2 fp) (fun a=>O a∨a=Dd) H5 ρ1 σ6) I5' r5 ⟨ρ0,_,xs[i],ρ1,j'.same sm5,rep5,q1,fun σ6 j6=>⟨rfl,j6⟩⟩) (fun _ s6 ⟨σ6,H6,I6,eH,j6⟩=>?_) fun _ _ z=>(show False from z).elim)
        subst eH
        cases q2:ft ρ1 with
        |bad=>rw[q2] at k1;cases k1
        |err c=>rw[q2] at k1;cases k1
        | ok bb =>
          rw[q2] at k1
          have k1:(if bb=true then (fe ρ1).bind fun d=>R.ok (some d) else .ok none)= .ok o:=k1
          have gtest:tG (blkCx X scope ts C s2 H2 fp) rB ft σ6 H6 (fun b H7=>b=bb∧Same H6 H7):=⟨ρ1,_,j6,by rw[q2];exact fun b H7 s7 e7=>⟨e7.symm,s7⟩⟩
          refine wpAny_bind (wpAny_mono (ht C s2 H2 fp _ s6 σ6 H6 _ I6 gtest) (fun ok s7 ⟨H7,I7,ok7,sm7⟩=>?_) fun _ _ z=>(show False from z).elim)
          subst ok7
          have back:∀{H8:Hp} {s8:Shared} {ys':List V} {ds':List D},Inv (blkCx X scope ts C s2 H2 fp) ([]++pinsAt fp s5.heap) σ6 H8 s8→Same H2 H8→In (blkCx X scope ts C s2 H2 fp) (fun a=>O a∨a=Dd) H8 ρ0 σ6→H8 Dd=some (.lst ys')→Reps X.K (fun a=>O a∨a=Dd) H8 ds' ys'→ds'++rest'=all→
              ∃m,m < xs.length+1 - i∧CmpI (blkCx X scope ts C s2 H2 fp) X.K (fun a=>O a∨a=Dd) H2 Dd fp tn ρ0 xs (eltV gt ft fe ρ0) all m s8:=by
            intro H8 s8 ys' ds' I8 sm8 j8 hD8 rp8 hr8
            refine⟨xs.length+1 - (i+1),by omega,i+1,σ6,H8,ys',ds',rest',rfl,by omega,I8.unpinned,T.keep _ _ _ st5 fun b hb o e=>(I8.pin (b,o) (List.mem_append_right _ (List.mem_append_right _ (mem_pinsAt hb e)))).1,fun b hb=>?_,j8,sm8,hD8,rp8,k2,hr8⟩
            obtain⟨o,e,d⟩:=T.obj _ _ st5 b hb
            exact (I8.pin (b,o) (List.mem_append_right _ (List.mem_append_right _ (mem_pinsAt hb e)))).2.1
          have j60:In (blkCx X scope ts C s2 H2 fp) (fun a=>O a∨a=Dd) H6 ρ0 σ6:=In.back (n:=ts.length) j6 hn0 (fun k hk'=>hk _ _ _ q1 k hk') lρ0
          cases ok with
          | false=>
            have k1:R.ok none=R.ok o:=k1
            cases k1
            refine wpAny_pure ⟨rfl,?_⟩
            refine back I7 (sm'.trans (sm5.trans sm7)) (j60.same sm7) (sm7 _ _ (sm5 _ _ hD')) (rp'.same (sm5.trans sm7)) ?_
            rw[←hr',k3];rfl
          | true =>
            have k1:(fe ρ1).bind (fun d=>R.ok (some d))= .ok o:=k1
            cases q3:fe ρ1 with
            |bad=>rw[q3] at k1;cases k1
            |err c=>rw[q3] at k1;cases k1
            | ok d =>
              rw[q3] at k1
              have k1:R.ok (some d)=R.ok o:=k1
              cases k1
              have gelt:tG (blkCx X scope ts C s2 H2 fp) (rD (blkCx X scope ts C s2 H2 fp)) fe σ6 H7 (fun v H8=>Same H7 H8∧Rep X.K (fun a=>O a∨a=Dd) H8 d v):=⟨ρ1,_,j6.same sm7,by rw[q3];exact fun v H8 s8 r8=>⟨s8,r8⟩⟩
              refine wpAny_bind (wpAny_bind (wpAny_mono (he C s2 H2 fp _ s7 σ6 H7 _ I7 gelt) (fun xv s8 ⟨v8,H8,I8,r8,sm8,rep8⟩=>?_) fun _ _ z=>(show False from z).elim))
              have hD8:H8 Dd=some (.lst ys):=sm8 _ _ (sm7 _ _ (sm5 _ _ hD'))
              have rp8:Reps X.K (fun a=>O a∨a=Dd) H8 ds ys:=rp'.same (sm5.trans (sm7.trans sm8))
              have hds:ds++d::rest'=all:=by rw[←hr',k3];rfl
              have hyl:ys.length < sizeLine:=by
                have:=sizeLine_gt
                have e1:=rp8.length
                have e2:=congrArg List.length hds
                rw[List.length_append,List.length_cons] at e2
                omega
              refine wpAny_bind (wpAny_mono (mt_append (X:=blkCx X scope ts C s2 H2 fp) _ s8 σ6 H8 (.ref Dd) [v8] (.ref Dd) [xv] (fun _ H9=>H9=upd H8 Dd (.lst (ys++[v8]))) I8 rfl (.cons r8 .nil) ⟨_,ys,v8,rfl,rfl,hD8,hyl,rfl⟩) (fun _ s9 ⟨_,H9,I9,_,eH9⟩=>?_) fun _ _ z=>(show False from z).elim)
              subst eH9
              have sm8':Same H2 H8:=sm'.trans (sm5.trans (sm7.trans sm8))
              have rch9:Rch X.K (fun a=>O a∨a=Dd) H8 (fun a=>O a∨a=Dd) (upd H8 Dd (.lst (ys++[v8]))):=by
                refine⟨⟨fun b zs h=>?_,fun b zs n h=>?_⟩,fun a z=> .inl z,fun a z=>?_⟩
                · have nb:b≠Dd:=fun e=>by
                    rw[e] at h
                    rcases h with h |⟨o,h⟩ <;> rw[hD8] at h <;> cases h
                  rcases h with h |⟨o,h⟩
                  · exact .inl (by rw[upd_ne nb];exact h)
                  · exact .inr ⟨o,by rw[upd_ne nb];exact h⟩
                · have nb:b≠Dd:=fun e=>n (.inr e)
                  rcases h with h |⟨o,h⟩
                  · exact .inl (by rw[upd_ne nb];exact h)
                  · exact .inr ⟨o,by rw[upd_ne nb];exact h⟩
                · by_cases ea:a=Dd
                  · rw[ea,upd_same] at z;cases z
                  · rw[upd_ne ea] at z;exact z
              have sm9:Same H2 (upd H8 Dd (.lst (ys++[v8]))):=fun b o e=>by
                rw[upd_ne (ne_of_none e hDn)];exact sm8' _ _ e
              refine wpAny_pure (wpAny_pure ⟨rfl,?_⟩)
              refine back I9 sm9 (In.go (j60.same (sm7.trans sm8)) hv0 rch9 (alO sm9 upd_same)) upd_same ((rp8.append (.cons rep8 .nil)).go rch9) ?_
              rw[List.append_assoc];exact hds
    · -- the end
      have ei:i=xs.length:=by omega
      subst ei
      have hrest:rest=[]:=by
        have hm':mapO (eltV gt ft fe ρ0) (xs.drop xs.length)= .ok rest:=hm'
        rw[List.drop_length] at hm'
        cases hm';rfl
      subst hrest
      rw[List.append_nil] at hr'
      subst hr'
      refine wpAny_mono (T.done (blkCx X scope ts C s2 H2 fp) rfl rfl rfl hc _ [] s' σ' H' (fun _ _=>False) I' (stat fr') st' (yat.2 (Nat.le_refl _))) (fun r s5 ⟨hr,I5⟩=>?_) fun _ _ z=>z.elim
      subst hr
      refine wpAny_pure ?_
      obtain⟨m,hns,_⟩:=I5.loc
      have hCn:H' C=none:=I5.free
      have I6:Inv X pins σ H' s5:=by
        refine I2.call' (s':=s5) (ch:=fp) I5.os ⟨fun b o e n hb hx=>I5.base.keep b o e n hb hx,fun b o e n hb hx=>I5.base.slot b o e n hb hx,I5.base.free,fun b o e hx=>I5.base.there b o e hx,I5.base.tups,I5.base.frzs,I5.base.tbls⟩ (fun b u e=>I5.hok b u e) I5.bare fun b hb=>⟨(f2 b hb).2.2.2.1,(f2 b hb).2.1,(f2 b hb).2.2.2.2.1,(f2 b hb).2.2.2.2.2⟩
      exact hQ (.ref Dd) H' s5 C m _ (.ref Dd) (g3 _ _ sm' (rep_lst (SqL.of hD') hOn (rp'.fewer fun a z=> .inl z))) I6 hns (I2.fpOk (show @LE.le Nat _ _ C by omega) hCn) rfl
  exact codeAny_compStart_list (loop _ rfl) (T.self _ 0 _ _ _ st4 (loop _ rfl))
theorem de_comp {tg iter elt:Expr} {ifs:List Expr} {scope:Scope} {pos:Pos} {fi:Rho→R (List D)} {gt:D→Rho→R Rho} {ft:Rho→R Bool} {fe:Rho→R D} (ts:List Str) (caps:List Nat)
    (hc:X.calm=true) (hb:blkB X.env.scope scope ts X.N=true) (hcap:(capt scope).map (fun x=>ixOf x X.N)=caps)
    (hi:DI X tg iter fi) (hk:KeepsG ts.length gt) (hg:∀C s H ex,(blkCx X scope ts C s H ex).N.Nodup→DG (blkCx X scope ts C s H ex) tg gt) (ht:∀C s H ex,DTs (blkCx X scope ts C s H ex) ifs ft) (he:∀C s H ex,DE (blkCx X scope ts C s H ex) elt fe)
    (hs:∀x,foldedSetIterable iter X.env x=pure x:=by intro _;rfl):
    DE X (.ListComp elt [⟨tg,iter,ifs,0⟩] scope pos) (compV ts.length caps fi gt ft fe):=by
  intro pins s σ H Q I h
  obtain⟨ρ,O,j,h⟩:=h
  rw[eval_ListComp]
  exact comp_run ts caps hc hb hcap hi hk hg ht he hs (use:=none) (Qr:=EP X pins σ Q) I j (fun v H' s5 C m f acc hv I6 hns fp rv=>⟨m,hns,fun h' sb=>⟨v,H',I6.fp fp sb,rv,hv⟩⟩) h
theorem ds_comp (i:Nat) {x:Str} {pos' cpos pos:Pos} {tg iter elt:Expr} {ifs:List Expr} {scope:Scope} {fi:Rho→R (List D)} {gt:D→Rho→R Rho} {ft:Rho→R Bool} {fe:Rho→R D} (hN:X.N.Nodup) (ts:List Str) (caps:List Nat)
    (hc:X.calm=true) (hb:blkB X.env.scope scope ts X.N=true) (hcap:(capt scope).map (fun x=>ixOf x X.N)=caps)
    (hi:DI X tg iter fi) (hk:KeepsG ts.length gt) (hg:∀C s H ex,(blkCx X scope ts C s H ex).N.Nodup→DG (blkCx X scope ts C s H ex) tg gt) (ht:∀C s H ex,DTs (blkCx X scope ts C s H ex) ifs ft) (he:∀C s H ex,DE (blkCx X scope ts C s H ex) elt fe)
    (hix:X.N[i]?=some x:=by rfl) (hx:Loc X.env.scope x:=by first |exact Or.inl rfl |exact Or.inr rfl) (hf:X.fn x=true∨X.env.scope.names.lookup x=some .local:=by first |exact .inl rfl |exact .inr rfl)
    (hsw:swapsWith (.ListComp elt [⟨tg,iter,ifs,0⟩] scope cpos) (some (.Name x pos')) pos.line X.env=pure true:=by rfl)
    (hs:∀x,foldedSetIterable iter X.env x=pure x:=by intro _;rfl):
    DS X (.Assign [.Name x pos'] (.ListComp elt [⟨tg,iter,ifs,0⟩] scope cpos) pos) (asgS (compV ts.length caps fi gt ft fe) (setV i)):=by
  intro pins s σ H E I h
  obtain⟨H0,O0,O,ρ,j,h⟩:=h
  rw[exec_Assign_Name_used _ _ _ _ hsw]
  refine wpAny_bind (wpAny_standAt (wpAny_bind ?_))
  show wpAny _ _ (comprehension (.ListComp elt [⟨tg,iter,ifs,0⟩] scope cpos) scope X.env _ (newList []) false (eval iter X.env) (some (assign (.Name x pos') X.env)) >>=fun _=>pure ()) _ _ _
  unfold asgS ofR at h
  refine wpAny_bind (comp_run (Q:=fun v H'=>∃d,compV ts.length caps fi gt ft fe ρ= .ok d∧Same H H'∧Rep X.K O H' d v) (Qr:=fun _ s'=>wpAny (model X.prog X.w) X.A (pure ()) (fun _ s1=>wpAny (model X.prog X.w) X.A (pure Flow.next) (SP X pins E) X.xe s1) X.xe s') ts caps hc hb hcap hi hk hg ht he hs I j.inn ?_ ?_)
  · intro v H' s5 C m f acc hq I5 hns fC rel
    obtain⟨d,ed,sm,rd⟩:=hq
    rw[ed] at h
    have h:fol X H0 O0 O H E (.nx (ρ.set i (some (.val d)))):=h
    obtain⟨o,es,ep,ho,hd,hr⟩:=hns
    have Ip:=I5.pinned (fp:=[C]) (fun b hb=>by rw[List.mem_singleton.mp hb];exact fC) (fun b hb=>by rw[List.mem_singleton.mp hb];exact⟨o,ho,fun v z=>by rw[hd] at z;cases z⟩)
    show wpAny (model X.prog X.w) X.A (assign (.Name x pos') X.env acc) _ X.xe s5
    refine wpAny_mono (pg_name hN hix hx hf _ s5 σ H' v acc (fun σ' H''=>σ'=σ.set i (some v)∧H''=H') Ip rel ⟨rfl,rfl⟩) (fun _ s6 ⟨σ',H'',I',e1,e2⟩=>?_) fun _ _ z=>z
    subst e1 e2
    have pn:=(I'.pin (C,o) (List.mem_append_right _ (List.mem_append_right _ (mem_pinsAt (List.mem_singleton.mpr rfl) ho)))).1
    refine⟨m,⟨o,es,ep,pn,hd,hr⟩,fun h' sb=>wpAny_pure (wpAny_pure ⟨_,H'',(I'.unpinned).fp fC sb,h _ H'' O ((j.grow sm).set (List.getElem?_eq_some_iff.mp hix).1 rd) (Same.rch sm)⟩)⟩
  · cases e1:compV ts.length caps fi gt ft fe ρ with
    |bad=>rw[e1] at h;exact h
    |err c=>rw[e1] at h;exact h σ H O j
    |ok d=>exact fun v H' sm r=>⟨d,rfl,sm,r⟩
end
end Pu
namespace Pu
open PySem PySem.Spec L2
open PyProof.Rows hiding St
noncomputable def okN (F:List D→R D) (n:Nat) (ds:List D):R D:=if ds.length=n then F ds else .bad
noncomputable def instE (sub:Str→Str→Bool) (i:Nat) (t:Str):Rho→R D:=fun ρ=>match ρ[i]? with
  |some (some (.obj (.exc c)))=>if sub c c=true then .ok (.bl (sub c t)) else .bad
  |_=> .bad
noncomputable def tryS (sub:Str→Str→Bool) (t:Str) (i:Nat) (g h:Rho→So):Rho→So:=fun ρ=>match g ρ with
  | .ex c ρ1=>if sub c t=true then (match h (ρ1.set i (some (.obj (.exc c)))) with
    | .rt d=> .rt d
    |_=> .bad) else .bad
  |o=>o
noncomputable def rvsD:List D→R (List D)
  |[.lst ds]=> .ok ds.reverse
  |_=> .bad
noncomputable def mulL:D→D→R D
  | .lst ds,.int k=>if ds≠[]∧1≤k∧k < 2 ^ 63∧ds.length*k.toNat≤1000000 then .ok (.lst (List.replicate k.toNat ds).flatten) else .bad
  |x,y=>mulD x y
section
variable {ρ ρ1:Rho} {fa:Rho→R (List D)} {F:List D→R D} {ds:List D} {n:Nat} {d:D} {c:Str} {f:Rho→R D} {gt:D→Rho→R Rho} {p:Rho→R Bool} {s t:Rho→So} {o:So}
theorem ex_expr (e:f (thaw ρ)= .err c):exprS f ρ= .ex c ρ:=by rw[exprS,e];rfl
theorem ex_seq (e:s ρ= .ex c ρ1):seqS s t ρ= .ex c ρ1:=by rw[seqS,e]
theorem ex_run {m:Nat} (e:s (ds.map (fun d=>some (.val d))++List.replicate m none)= .ex c ρ1):runB m s ds= .err c:=by rw[runB,e]
theorem ev_instE {sub:Str→Str→Bool} {i:Nat} {t:Str} (h:ρ[i]?=some (some (.obj (.exc c)))) (hk:sub c c=true):instE sub i t ρ= .ok (.bl (sub c t)):=by
  unfold instE
  rw[h]
  show (if sub c c=true then R.ok (D.bl (sub c t)) else .bad)=_
  rw[if_pos hk]
theorem ev_try {sub:Str→Str→Bool} {i:Nat} {u:Str} (e1:s ρ= .ex c ρ1) (hs:sub c u=true) (e2:t (ρ1.set i (some (.obj (.exc c))))= .rt d):tryS sub u i s t ρ= .rt d:=by
  unfold tryS
  rw[e1]
  simp only[hs,if_true,e2]
end
end Pu
namespace Pu
open PySem PySem.Spec L2
open PyProof.Rows hiding St
structure Landed (fs:List Addr) (h h':Heap) (a C:Addr) (T:Option Addr) (t':Addr):Prop where
  exc:Exc h' a C (some t')
  old:T=some t'∨h.get? t'=none
  keep:∀b o,h.get? b=some o→b≠a→T≠some b→b∉fs→h'.get? b=some o
  slot:∀b o,h.get? b=some o→b∈fs→∃sl,h'.get? b=some {o with slots:=sl}
section
variable {M:Model} {A:Around} {E:Value→Shared→Prop} {s:Shared}
theorem funFrames_on {h h1 b0 b1:Heap}:∀{l:List PySem.Env},h.FunFrames b0 l→(∀b∈frs l,b1.get? b=none)→(∀b o,h.get? b=some o→b∈frs l→h1.get? b=some o)→h1.FunFrames b1 l
  |[],_,_,_=>trivial
  | env::r,hl,hn,hs=>by
    obtain⟨hk,⟨L,o,hf,_,ho,hd⟩,hr⟩:=hl
    have e:frs (env::r)=L::frs r:=by unfold frs;rw[List.filterMap_cons,hf]
    rw[e] at hn hs
    exact⟨hk,⟨L,o,hf,hn L List.mem_cons_self,hs L o ho List.mem_cons_self,hd⟩,funFrames_on hr (fun b hb=>hn b (List.mem_cons_of_mem _ hb)) fun b o q hb=>hs b o q (List.mem_cons_of_mem _ hb)⟩
theorem mapF_dict {o:Obj} {g:Array Value→Array Value}:(o.mapFields g).dict=o.dict:=by
  obtain⟨c,d,dt,sl⟩:=o
  cases dt <;> rfl
theorem entry_exc {env:PySem.Env} {outer:List PySem.Env} {L a C:Addr} {oe:Obj} {vs:Array Value} {hd0:Value} {had:Bool} {b0:Heap} {Q:Unit→Shared→Prop} (hfr:A.frames=some (env::outer)) (hl:s.heap.FunFrames b0 (env::outer)) (hf:env.frame=some L)
    (he:s.heap.get? a=some oe) (hc:oe.cls= .ref C) (hn:oe.dict=none) (hv:oe.data= .fields vs) (hz:1 < vs.size)
    (h:∀h' t',Landed (frs (env::outer)) s.heap h' a C none t'→Q () {s with heap:=h'}):
    wpAny M A (do let x ←frameOf env;let y ←entryPlaceOf L had;let z ←EntryCells.newEntry hd0 x .none (rawInt L) .none y;setField (.ref a) 1 z) (fun _ s'=>wpAny M A (setFlight (.ref a) none) Q E s') E s:=by
  have na:a∉frs (env::outer):=fun z=>by
    obtain⟨_,o',ho',hd'⟩:=hl.mem z
    rw[he] at ho';cases ho'
    exact hd' vs hv
  refine wpAny_bind (wpAny_frameOf_fun hfr hl hf fun g1 sl1=>wpAny_bind (wpAny_entryPlaceOf fun pl ok=>?_))
  unfold EntryCells.newEntry newFields
  refine wpAny_bind (wpAny_newObj_type ?_ (ok.sizeOk5 _ _ _ _ _))
  have e1:g1.get? a=some oe:=(sl1.2.1 a na).trans he
  generalize hob:({cls:= .type "traceback",dict:=none,data:= .fields ([hd0,.ref L,.none,rawInt L,.none]++(if pl.isEmpty then List.replicate 6 Value.none else pl)).toArray}:Obj)=ob
  have hobd:ob.data= .fields ([hd0,.ref L,.none,rawInt L,.none]++(if pl.isEmpty then List.replicate 6 Value.none else pl)).toArray:=by rw[←hob]
  have hobf:ob.isFreed=false:=by rw[←hob];rfl
  have e2:(g1.push ob).get? a=some oe:=Heap.get?_push_of_some ob e1
  refine wpAny_setField e2 hv hz ?_
  have nT:g1.objs.size≠a:=Nat.ne_of_gt (Heap.lt_size e1)
  have d3:=Obj.data_mapFields hv (·.setIfInBounds 1 (Value.ref g1.objs.size))
  have e3:=Heap.get?_update_self (Obj.mapFields (·.setIfInBounds 1 (Value.ref g1.objs.size))) e2 (Obj.isFreed_of_fields d3)
  have T3:=(Heap.get?_update_other (g1.push ob) (Obj.mapFields (·.setIfInBounds 1 (Value.ref g1.objs.size))) (Ne.symm nT)).trans (Heap.get?_push_size g1 hobf)
  unfold setFlight
  refine wpAny_bind (wpAny_field e3 d3 (x:= .ref g1.objs.size) (by simp[hz]) ?_)
  rw[if_pos (show (Value.ref g1.objs.size !=Value.none)=true from by simp)]
  have hsz:3 < (([hd0,.ref L,.none,rawInt L,.none]++(if pl.isEmpty then List.replicate 6 Value.none else pl)).toArray).size:=by
    rw[List.size_toArray,List.length_append]
    show 3 < 5+_
    omega
  refine wpAny_setField T3 hobd hsz (h _ g1.objs.size ⟨⟨_,_,(Heap.get?_update_other _ _ nT).trans e3,(Obj.cls_mapFields _ _).trans hc,mapF_dict.trans hn,d3,by simp[hz],nT,_,_,Heap.get?_update_self _ T3 (Obj.isFreed_of_fields (Obj.data_mapFields hobd _)),Obj.data_mapFields hobd _,?_⟩,.inr (Heap.get?_none_of_le (by rw[sl1.1];exact Nat.le_refl _)),fun b o hb n1 _ n3=>?_,fun b o hb hm=>?_⟩)
  · rw[Array.getElem?_setIfInBounds,if_pos rfl,if_pos hsz];rfl
  · have q1:g1.get? b=some o:=(sl1.2.1 b n3).trans hb
    rw[Heap.get?_update_other _ _ (Nat.ne_of_gt (Heap.lt_size q1)),Heap.get?_update_other _ _ (Ne.symm n1)]
    exact Heap.get?_push_of_some _ q1
  · obtain⟨sl,q1⟩:=sl1.2.2 b o hb
    refine⟨sl,?_⟩
    rw[Heap.get?_update_other _ _ (Nat.ne_of_gt (Heap.lt_size q1)),Heap.get?_update_other _ _ (fun z=>na (by rw[z];exact hm))]
    exact Heap.get?_push_of_some _ q1
theorem note_exc {env:PySem.Env} {outer:List PySem.Env} {L a C:Addr} {T:Option Addr} {b0:Heap} {Q:Unit→Shared→Prop} (hfr:A.frames=some (env::outer)) (hl:s.heap.FunFrames b0 (env::outer)) (hf:env.frame=some L) (x:Exc s.heap a C T)
    (h:∀h' t',Landed (frs (env::outer)) s.heap h' a C T t'→Q () {s with heap:=h'}):wpAny M A (noteFrame (.ref a) env) (fun _ s2=>wpAny M A (setFlight (.ref a) none) Q E s2) E s:=by
  obtain⟨oe,vs,he,hc,hn,hd,hx⟩:=x
  unfold noteFrame
  simp only[hf]
  cases T with
  | none=>
    have h1:vs[1]?=some Value.none:=hx
    refine wpAny_bind (wpAny_field he hd h1 ?_)
    rw[if_neg (by decide)]
    exact entry_exc hfr hl hf he hc hn hd (Array.getElem?_eq_some_iff.mp h1).1 h
  | some t=>
    obtain⟨h1,hne,ot,ts,ht,hdt,h3⟩:=hx
    have nt:t∉frs (env::outer):=fun z=>by
      obtain⟨_,o',ho',hd'⟩:=hl.mem z
      rw[ht] at ho';cases ho'
      exact hd' ts hdt
    refine wpAny_bind (wpAny_field he hd h1 ?_)
    rw[if_pos (show (Value.ref t !=Value.none)=true from by simp)]
    refine wpAny_bind (wpAny_field ht hdt h3 ?_)
    rw[if_neg (show ¬((Value.none ==rawInt L)=true) from by simp[rawInt])]
    refine wpAny_bind (wpAny_setField ht hdt (Array.getElem?_eq_some_iff.mp h3).1 ?_)
    have other:∀b o,s.heap.get? b=some o→b≠t→(s.heap.update t (Obj.mapFields (·.setIfInBounds 3 Value.none))).get? b=some o:=fun b o q hb=>(Heap.get?_update_other _ _ (Ne.symm hb)).trans q
    refine entry_exc (s:={s with heap:=s.heap.update t (Obj.mapFields (·.setIfInBounds 3 Value.none))}) (b0:=b0) hfr (funFrames_on hl (fun b hb=>(hl.mem hb).1) fun b o q hb=>other b o q fun z=>nt (z▸hb)) hf (other a oe he (Ne.symm hne)) hc hn hd (Array.getElem?_eq_some_iff.mp h1).1 fun h' t' ld=>?_
    refine h h' t' ⟨ld.exc,?_,fun b o q n1 n2 n3=>ld.keep b o (other b o q fun z=>n2 (by rw[z])) n1 (by simp) n3,fun b o q hm=>ld.slot b o (other b o q fun z=>nt (z▸hm)) hm⟩
    by_cases z:t'=t
    · exact .inl (by rw[z])
    · refine .inr ?_
      rcases ld.old with q |q
      · cases q
      · cases q2:s.heap.get? t' with
        |none=>rfl
        | some o=>
          have q3:=other t' o q2 z
          have q:(s.heap.update t (Obj.mapFields (·.setIfInBounds 3 Value.none))).get? t'=none:=q
          rw[q] at q3;cases q3
theorem leave_exc {env:PySem.Env} {outer:List PySem.Env} {L a C:Addr} {T:Option Addr} {b0:Heap} {Q:Unit→Shared→Prop} (hfr:A.frames=some (env::outer)) (hl:s.heap.FunFrames b0 (env::outer)) (hf:env.frame=some L) (x:Exc s.heap a C T)
    (h:∀h' t',Landed (frs (env::outer)) s.heap h' a C T t'→Q () {s with heap:=h'}):wpAny M A (leaving env (.ref a)) Q E s:=by
  unfold leaving
  exact wpAny_bind (note_exc hfr hl hf x h)
end
section
variable {P:Program} {w:World} {fs fs':List Addr} {H H' H0:Hp} {s s' s0:Shared} {a C:Addr} {T:Option Addr} {h':Heap} {t':Addr}
theorem ObjOk.ex {H:Hp} {h:Heap} {a:Addr} {o:HO} (x:ObjOk P w H h a o):∃ob,h.get? a=some ob:=by
  induction o with
  |lst xs=>obtain⟨_,_,_,_,e⟩:=x;exact⟨_,e⟩
  |tup xs=>obtain⟨_,_,_,ob,e,_⟩:=x;exact⟨_,e⟩
  |dK kvs=>obtain⟨_,_,_,_,ob,_,_,e,_⟩:=x;exact⟨_,e⟩
  |dT kvs=>obtain⟨_,_,_,_,ob,_,_,e,_⟩:=x;exact⟨_,e⟩
  |set S n=>obtain⟨ob,_,_,_,e,_⟩:=x;exact⟨_,e⟩
  |ins C dx fs=>obtain⟨_,_,_,e,_⟩:=x;exact⟨_,e⟩
  |own y=>exact x
  |xd fs=>obtain⟨_,⟨_,_,_,e,_⟩,_⟩:=x;exact⟨_,e⟩
  |rng lo hi=>obtain⟨_,_,_,e⟩:=x;exact⟨_,e⟩
  |frz ob u ih=>exact⟨_,x.1⟩
  |tbl ps=>obtain⟨_,e,_⟩:=x;exact⟨_,e⟩
  |met f y=>exact⟨_,x⟩
  |ext φ=>exact x.2.1
theorem hok_none {h:Heap} {b:Addr} (x:HOk P w H h) (e:h.get? b=none):H b=none:=by
  cases q:H b with
  |none=>rfl
  | some u=>
    obtain⟨o,z⟩:=ObjOk.ex (x b u q)
    rw[e] at z;cases z
theorem Landed.hok {h:Heap} (ld:Landed fs h h' a C T t') (x:HOk P w H h) (ha:H a=none) (ht:∀t,T=some t→H t=none) (hf:∀b∈fs,H b=none):HOk P w H h':=fun b u e=>by
  have ne:∀c v,H c=some v→c≠a∧T≠some c∧c∉fs:=fun c v q=>⟨fun z=>(by rw[z,ha] at q;cases q),fun z=>(by rw[ht c z] at q;cases q),fun z=>(by rw[hf c z] at q;cases q)⟩
  refine (x b u e).stay (fun c v hc q=>?_) (fun _ q=>q) (fun _ _ q=>q) fun _ _ _ _ q=>q
  rcases hc with rfl |hc
  · obtain⟨n1,n2,n3⟩:=ne _ _ e
    exact ld.keep _ _ q n1 n2 n3
  · obtain⟨n1,n2,n3⟩:=ne _ _ hc
    exact ld.keep _ _ q n1 n2 n3
theorem Rsd.land (r:Rsd P w fs H s a C T s' H') (hs:∀b∈fs',b∈fs) (ld:Landed fs' s'.heap h' a C T t') (hf:∀b∈fs,H' b=none):Rsd P w fs H s a C (some t') {s' with heap:=h'} H':=by
  have ne:∀b o,s.heap.get? b=some o→b≠a∧T≠some b:=fun b o q=>⟨fun z=>(by rw[z,r.na] at q;cases q),fun z=>(by rw[(r.nt b z).1] at q;cases q)⟩
  have any:∀b o,s.heap.get? b=some o→∀o',s'.heap.get? b=some o'→∃sl,h'.get? b=some {o' with slots:=sl}:=fun b o q o' q'=>by
    by_cases hb:b∈fs'
    · exact ld.slot b o' q' hb
    · exact⟨o'.slots,ld.keep b o' q' (ne b o q).1 (ne b o q).2 hb⟩
  refine⟨r.same,⟨fun b o q n hb hx=>?_,fun b o q n hb hx=>?_,r.un.free,fun b o q hx=>?_,r.un.tups,r.un.frzs,r.un.tbls⟩,ld.hok r.hok r.ha (fun t z=>(r.nt t z).2) fun b hb=>hf b (hs b hb),r.os,r.bare,ld.exc,r.na,r.ha,fun t z=>?_⟩
  · exact ld.keep b o (r.un.keep b o q n hb hx) (ne b o q).1 (ne b o q).2 fun z=>hb (hs b z)
  · obtain⟨sl,e⟩:=r.un.slot b o q n hb hx
    obtain⟨sl',e'⟩:=any b o q _ e
    exact⟨sl',e'⟩
  · obtain⟨o',e⟩:=r.un.there b o q hx
    obtain⟨sl',e'⟩:=any b o q _ e
    exact⟨_,e'⟩
  · cases z
    rcases ld.old with z |z
    · exact r.nt t' z
    · refine⟨?_,hok_none r.hok z⟩
      cases q:s.heap.get? t' with
      |none=>rfl
      | some o=>
        obtain⟨o',e⟩:=r.un.there t' o q (by simp)
        rw[z] at e;cases e
theorem Rsd.from {X:Cx} {pins:List (Addr×Obj)} {σ:St} (I:Inv X pins σ H s) (hex:X.ex=[]) (r:Rsd X.prog X.w (frs X.stack) H s a C T s' H') (sm:Same X.H₀ H):Rsd X.prog X.w X.fs X.H₀ X.s₀ a C T s' H':=by
  have J:Inv X pins σ H' s':=I.call' r.os r.un r.hok r.bare fun b z=>absurd z (by simp)
  have b:=J.base
  rw[hex] at b
  have no:∀c,s.heap.get? c=none→X.s₀.heap.get? c=none:=fun c e=>by
    cases q:X.s₀.heap.get? c with
    |none=>rfl
    | some o=>
      obtain⟨o',e'⟩:=I.base.there c o q (by rw[hex];simp)
      rw[e] at e';cases e'
  exact⟨sm.trans r.same,b,r.hok,J.os,r.bare,r.exc,no a r.na,r.ha,fun t z=>⟨no t (r.nt t z).1,(r.nt t z).2⟩⟩
end
end Pu
namespace Pu
open PySem PySem.Spec L2
open PyProof.Rows hiding St
noncomputable def CX1 (P:Program) (w:World):CXT:=fun outer H s E e s'=>∃a C T H',e= .ref a∧E (.ref C) none H'∧Rsd P w (frs outer) H s a C T s' H'
noncomputable def spX (K:PySem.W.Frag) (n:Nat) (F:List D→R D):Sp:=fun vs H Q E=>∃O ds,Reps K O H ds vs∧ds.length=n∧(∀a,O a→∃o,H a=some o)∧match F ds with
  | .ok d=>∀v H',Same H H'→Rep K O H' d v→Q v H'
  | .err c=>∀C H',PySem.W.nsIn K mainGlobals c=some (some (.ref C))→E (.ref C) none H'
  | .bad=>False
section
variable {P:Program} {w:World} {K:PySem.W.Frag} {mg:Str→Option Value} {base:Heap}
end
section
variable {X:Cx} {k n m:Nat} {F:List D→R D} {x:Str} {p pos:Pos} {e:Expr} {es:List Expr} {fa:Rho→R (List D)}
end
end Pu
namespace Pu
open PySem PySem.Spec L2
open PyProof.Rows hiding St
abbrev mroV:List Value:=[.type "ValueError",.type "Exception",.type "BaseException",.type "object"]
structure XCl (K:PySem.W.Frag) (mg:Str→Option Value) (c:Str) (C:Addr):Prop where
  ns:PySem.W.nsIn K mainGlobals c=some (some (.ref C))
  mg:mg c=some (.ref C)
  ex:PySem.W.excIn K C mroV "ValueError.__new__" =true
theorem excObj {K:PySem.W.Frag} {h:Heap} {C:Addr} {bmB:List Value} {newId:String} (X:K.In h) (q:PySem.W.excIn K C bmB newId=true):
    ∃bm N nm qn bs hdct sn sub ab col dd k0 k1 k2 k3 k5 mN,h.get? C=some (excClassObj nm qn C N bs bm hdct sn sub ab col dd k0 k1 k2 k3 k5 newId)∧h.Ns N mN∧mN "__init__" =none∧OwnTail h bmB bm:=by
  unfold PySem.W.excIn at q
  split at q
  · rename_i d0 cd sl0 e0
    split at q
    · rename_i C1 b1 a0 a1 a2 a3 n1 a5 e1 e2
      simp only[Bool.and_eq_true,beq_iff_eq,Bool.not_eq_true'] at q
      obtain⟨⟨⟨⟨⟨rfl,rfl⟩,z1⟩,z2⟩,z3⟩,z4⟩:=q
      obtain⟨v1,v2,v3,v4,v5,v6,v7,v8,v9,v10,v11⟩:=cd
      dsimp only at e1 z1 z3 z4
      subst e1 z1
      obtain⟨l0⟩:=sl0
      simp only at e2
      subst e2
      exact⟨b1,v4,v1,v5,v2,v6,v7,v8,v9,v10,d0,a0,a1,a2,a3,a5,_,X _ _ e0,.of_isNs (PySem.W.isNs_of_in X z3),PySem.W.nsMap_none_of_in X z3 z4,PySem.W.tail_of_in X z2⟩
    · cases q
  · cases q
section
variable {X:Cx} {c:Str} {C:Addr} {np cpos pos:Pos} {e:Expr} {fa:Rho→R (List D)}
theorem ds_raise (hc:X.calm=true) (hx:XCl X.K X.mg c C) (ha:DA X [e] fa) (hfa:∀ρ,∃ds,fa ρ= .ok ds∧ds.length≤1000000) (hg:Gl X c:=by rfl) (hdb:(c ==("__debug__" :Str))=false:=by decide)
    (he:starEach [e] X.env=(false,eval e X.env)::starEach [] X.env:=by rfl) (hpl:(backTo cpos (starEach [e] X.env)).any (·.1)=false:=by rfl):
    DS X (.Raise (some (.Call (.Name c np) [e] [] cpos)) none pos) (fun ρ=> .ex c ρ):=by
  intro pins s σ H E I h
  obtain⟨H0,O0,O,ρ,j,h⟩:=h
  obtain⟨bm,N,nm,qn,bs,hdct,sn,sub,ab,col,dd,k0,k1,k2,k3,k5,mN,o1,o2,o3,o4⟩:=excObj I.mod.kin hx.ex
  obtain⟨ds,ef,dl⟩:=hfa ρ
  have key:tG X (rDs X) fa σ H (fun vs H1=>ds.length=vs.length∧Same H H1):=⟨ρ,O,j.inn,by rw[ef];exact fun vs H1 s1 r1=>⟨r1.length,s1⟩⟩
  refine wpAny_Raise_call_subU (C:=C) (nm:=nm) (q:=qn) (N:=N) (bs:=bs) (bm:=bm) (hdct:=hdct) (sn:=sn) (sub:=sub) (ab:=ab) (col:=col) (dd:=dd) (k0:=k0) (k1:=k1) (k2:=k2) (k3:=k3) (k5:=k5)
    PySem.F.excBase_ValueError (by rfl) PySem.F.excBase_ValueError (mN:=mN) (o4.hasType PySem.F.excBase_ValueError.hasBase) (I.ok.hd hc) hpl o3 (ld_glob I hg hx.mg ⟨rfl,?_⟩ hdb)
  have hA:=ha cpos pins s σ H _ I key
  rw[he] at hA ⊢
  refine Calls.evalArgs_plain (wpAny_mono hA (fun us s1 ⟨vs,H1,I1,r,hl,sm⟩=>?_) fun _ _ z=>z)
  refine⟨rfl,?_,I1.bk _ _ o1,o2.keeps I1.bk,o4.keeps I1.bk,fun h' ev hm=>?_⟩
  · show us.length≤sizeLine
    rw[←r.length,←hl]
    exact Nat.le_trans dl sizeLine_ge
  · obtain⟨t,ht,_,_⟩:=hm.there
    exact h σ H1 O (j.grow sm) H1 pins s1 ev C none _ H1 (Same.refl _) I1 hx.ns ⟨Same.refl _,Un.kept hm.keeps,I1.hok.kept hm.keeps,rfl,I1.bare,⟨_,_,ht,rfl,rfl,rfl,rfl⟩,hm.new,hok_none I1.hok hm.new,fun _ z=>by cases z⟩
end
section
variable {X:Cx} {pins:List (Addr×Obj)} {σ:St} {H:Hp} {s:Shared}
theorem _root_.L2.Inv.track {a:Addr} {o:Obj} (I:Inv X pins σ H s) (ha:H a=none) (ho:s.heap.get? a=some o) (n0:X.s₀.heap.get? a=none) (nL:a≠X.env.locals) (nc:∀x c,X.env.cells.lookup x=some c→c≠a) (np:∀p∈X.pn++pins,p.1≠a):
    Inv X pins σ (upd H a (.frz o (.own a))) s:=by
  have old:∀b u,H b=some u→upd H a (.frz o (.own a)) b=some u:=fun b u q=>by rw[upd_ne (ne_of_none q ha)];exact q
  refine⟨I.ok,I.os,I.bare,⟨I.base.keep,I.base.slot,fun b ob q n hx=>?_,I.base.there,fun b xs q=>old _ _ (I.base.tups b xs q),fun b ob u q=>old _ _ (I.base.frzs b ob u q),fun b ps q=>?_⟩,I.loc,I.cell,?_,fun x c q=>?_,fun p hp=>?_,fun b u q=>?_,I.len⟩
  · rw[upd_ne (fun z=>by rw[z,n0] at q;cases q)]
    exact I.base.free b ob q n hx
  · obtain⟨more,e⟩:=I.base.tbls b ps q
    exact⟨more,old _ _ e⟩
  · rw[upd_ne (Ne.symm nL)];exact I.free
  · rw[upd_ne (nc x c q)];exact I.freeC x c q
  · obtain⟨e,n,r⟩:=I.pin p hp
    exact⟨e,by rw[upd_ne (np p hp)];exact n,r⟩
  · by_cases hb:b=a
    · subst hb
      rw[upd_same] at q;cases q
      exact⟨ho,o,ho⟩
    · rw[upd_ne hb] at q
      exact (I.hok b u q).stay (fun _ _ _ z=>z) (fun c z=>old _ _ z) (fun c xs z=>old _ _ z) fun c o u _ z=>old _ _ z
theorem _root_.L2.Inv.gone {h':Heap} {m':Str→Option Value} {t':Nat} (I:Inv X pins σ H s) (hn:h'.Ns X.env.locals m') (hs:Heap.SameBut X.env.locals s.heap h'):Inv X pins (List.replicate X.N.length none) H {s with heap:=h',toks:=t'}:=by
  have to:∀b ob,X.s₀.heap.get? b=some ob→b≠X.env.locals:=fun b ob q=>Nat.ne_of_lt (Nat.lt_of_lt_of_le (Heap.lt_size q) I.ok.above)
  refine⟨I.ok,I.os,I.bare,⟨fun b ob q n hb hx=>?_,fun b ob q n hb hx=>?_,I.base.free,fun b ob q hx=>?_,I.base.tups,I.base.frzs,I.base.tbls⟩,⟨m',hn,fun i x v _ e2 _=>?_⟩,fun x c q=>?_,I.free,I.freeC,fun p hp=>?_,fun b u q=>?_,by simp⟩
  · exact (hs.2 b (to b ob q)).trans (I.base.keep b ob q n hb hx)
  · obtain⟨sl,e⟩:=I.base.slot b ob q n hb hx
    exact⟨sl,(hs.2 b (to b ob q)).trans e⟩
  · obtain⟨o',e⟩:=I.base.there b ob q hx
    exact⟨o',(hs.2 b (to b ob q)).trans e⟩
  · rw[List.getElem?_replicate] at e2
    split at e2 <;> cases e2
  · obtain⟨v,z⟩:=I.cell x c q
    exact⟨v,z.sameBut hs (I.cne x c q)⟩
  · obtain⟨e,n,ne,r⟩:=I.pin p hp
    exact⟨(hs.2 p.1 ne).trans e,n,ne,r⟩
  · refine (I.hok b u q).stay (fun c w' hc z=>(hs.2 c ?_).trans z) (fun _ z=>z) (fun _ _ z=>z) fun _ _ _ _ z=>z
    rintro rfl
    rcases hc with hc |hc
    · rw[←hc,I.free] at q;cases q
    · rw[I.free] at hc;cases hc
noncomputable abbrev _root_.L2.Cx.inH (X:Cx) (a:Addr):Cx:={X with A:=X.A.mark (some (.ref a)),calm:=false,xe:=fun _ _=>False}
theorem _root_.L2.Inv.inH (I:Inv X pins σ H s) (a:Addr):Inv (X.inH a) pins σ H s:=
  ⟨⟨I.ok.mod,I.ok.kind,I.ok.glob,I.ok.blt,I.ok.above,I.ok.inj,I.ok.has,I.ok.cab,fun z=>Bool.noConfusion z,I.ok.frames,I.ok.stk,I.ok.exf,I.ok.bs,I.ok.bsz,I.ok.noex,I.ok.exfs,I.ok.funs,I.ok.frf⟩,I.os,I.bare,I.base,I.loc,I.cell,I.free,I.freeC,I.pin,I.hok,I.len⟩
theorem _root_.L2.Inv.outH {a:Addr} (ok:X.Ok) (I:Inv (X.inH a) pins σ H s):Inv X pins σ H s:=⟨ok,I.os,I.bare,I.base,I.loc,I.cell,I.free,I.freeC,I.pin,I.hok,I.len⟩
theorem At.cx {Y:Cx} {H0:Hp} {O0 O:Addr→Prop} {ρ:Rho} (j:At X H0 O0 O H ρ σ) (hK:Y.K=X.K) (hN:Y.N=X.N):At Y H0 O0 O H ρ σ:=
  ⟨j.same,by rw[hK];exact j.rch,j.sub,⟨by rw[hK];exact j.inn.env,j.inn.al,by rw[hN];exact j.inn.len,by rw[hN];exact j.inn.lenR⟩,j.mine⟩
theorem At.setO {H0:Hp} {O0 O:Addr→Prop} {ρ:Rho} (j:At X H0 O0 O H ρ σ) {i:Nat} (hi:i < X.N.length) {t:Ob} {v:V} (r:RepO X.K H t v):At X H0 O0 O H (ρ.set i (some (.obj t))) (σ.set i (some v)):=by
  have h1:i < ρ.length:=by rw[j.inn.lenR];exact hi
  have h2:i < σ.length:=by rw[j.inn.len];exact hi
  refine⟨j.same,j.rch,j.sub,⟨⟨fun k e q=>?_,fun k l e e' u hkl hk hl ok ol sk sl=>?_⟩,j.inn.al,by rw[List.length_set];exact j.inn.len,by rw[List.length_set];exact j.inn.lenR⟩,fun k e a q ho hs=>?_⟩
  · by_cases hki:k=i
    · subst hki
      rw[List.getElem?_set_self h1] at q;cases q
      exact⟨v,List.getElem?_set_self h2,r⟩
    · rw[List.getElem?_set_ne (Ne.symm hki)] at q ⊢
      exact j.inn.env.get k e q
  · by_cases hki:k=i
    · subst hki
      rw[List.getElem?_set_self h1] at hk;cases hk;cases ok
    · by_cases hli:l=i
      · subst hli
        rw[List.getElem?_set_self h1] at hl;cases hl;cases ol
      · rw[List.getElem?_set_ne (Ne.symm hki)] at hk sk
        rw[List.getElem?_set_ne (Ne.symm hli)] at hl sl
        exact j.inn.env.sep k l e e' u hkl hk hl ok ol sk sl
  · by_cases hki:k=i
    · subst hki
      rw[List.getElem?_set_self h1] at q;cases q;cases ho
    · rw[List.getElem?_set_ne (Ne.symm hki)] at q hs
      exact j.mine k e a q ho hs
end
noncomputable abbrev _root_.L2.Cx.inT (X:Cx) (E:Value→Shared→Prop) (pn:List (Addr×Obj)):Cx:={X with xe:=E,pn:=pn}
section
variable {X:Cx} {pins:List (Addr×Obj)} {σ:St} {H:Hp} {s:Shared} {E:Value→Shared→Prop}
theorem _root_.L2.Inv.inT (I:Inv X pins σ H s) (E:Value→Shared→Prop):Inv (X.inT E (X.pn++pins)) [] σ H s:=
  ⟨⟨I.ok.mod,I.ok.kind,I.ok.glob,I.ok.blt,I.ok.above,I.ok.inj,I.ok.has,I.ok.cab,I.ok.hd,I.ok.frames,I.ok.stk,I.ok.exf,I.ok.bs,I.ok.bsz,I.ok.noex,I.ok.exfs,I.ok.funs,I.ok.frf⟩,I.os,I.bare,I.base,I.loc,I.cell,I.free,I.freeC,fun p hp=>I.pin p (by rw[List.append_nil] at hp;exact hp),I.hok,I.len⟩
theorem _root_.L2.Inv.outT {p1:List (Addr×Obj)} (ok:X.Ok) (I:Inv (X.inT E (X.pn++pins)) p1 σ H s):Inv X pins σ H s:=
  ⟨ok,I.os,I.bare,I.base,I.loc,I.cell,I.free,I.freeC,fun p hp=>I.pin p (List.mem_append_left _ hp),I.hok,I.len⟩
theorem _root_.L2.SP.outT {D:Ends} {f:Flow} {s':Shared} (ok:X.Ok) (h:SP (X.inT E (X.pn++pins)) [] D f s'):SP X pins D f s':=by
  cases f with
  |next=>obtain⟨σ',H',I,q⟩:=h;exact⟨σ',H',I.outT ok,q⟩
  |brk=>obtain⟨σ',H',I,q⟩:=h;exact⟨σ',H',I.outT ok,q⟩
  |cont=>obtain⟨σ',H',I,q⟩:=h;exact⟨σ',H',I.outT ok,q⟩
  |ret u=>obtain⟨v,σ',H',I,r,q⟩:=h;exact⟨v,σ',H',I.outT ok,r,q⟩
end
section
variable {X:Cx} {t n:Str} {CT:Addr} {np hpos pos:Pos} {body suite:List Stmt} {b₀:Stmt} {g h:Rho→So} {sub:Str→Str→Bool}
theorem ds_try (i:Nat) (hN:X.N.Nodup) (hst:X.stack=X.env::X.outer) (hfr:X.env.frame=some X.env.locals) (hex:X.ex=[]) (hm:X.mg t=some (.ref CT))
    (hx:∀c C,sub c t=true→PySem.W.nsIn X.K mainGlobals c=some (some (.ref C))→PySem.W.exmOne X.K (.ref C) (.ref CT)=some true)
    (hb:∀E pn,DSs (X.inT E pn) body g) (hh:∀a,DSs (X.inH a) (b₀::suite) h) (hg:Gl X t:=by rfl) (hi:X.N[i]?=some n:=by rfl) (hl:X.env.kindOf n=some .local:=by rfl) (hdb:(t ==("__debug__" :Str))=false:=by decide):
    DS X (.Try body [.ExceptHandler (some (.Name t np)) (some n) (b₀::suite) hpos] [] [] pos) (tryS sub t i g h):=by
  intro pins s σ H E I q
  obtain⟨H0,O0,O,ρ,j,q⟩:=q
  refine wpAny_Try_except ?_
  have hin:i < X.N.length:=(List.getElem?_eq_some_iff.mp hi).1
  have hcls:(X.env.scope.kind == .class || (X.env.scope.kind == .module && X.env.locals !=X.env.globals))=false:=by rw[I.ok.kind];rfl
  refine wpAny_mono (hb _ (X.pn++pins) [] s σ H E (I.inT _) ⟨H0,O0,O,ρ,j.cx rfl rfl,?_⟩) (fun f s1 z=>?_) fun _ _ z=>z
  · -- the body's ends
    unfold tryS at q
    cases eg:g ρ with
    |bad=>rw[eg] at q;exact q
    |nx ρ1=>rw[eg] at q;exact fun σ' H' O' j' r'=>q σ' H' O' (j'.cx rfl rfl) r'
    |bk ρ1=>rw[eg] at q;exact fun σ' H' O' j' r'=>q σ' H' O' (j'.cx rfl rfl) r'
    |ct ρ1=>rw[eg] at q;exact fun σ' H' O' j' r'=>q σ' H' O' (j'.cx rfl rfl) r'
    |rt d=>rw[eg] at q;exact q
    | ex c ρ1 =>
      rw[eg] at q
      simp only at q
      by_cases hs:sub c t=true
      · rw [if_pos hs] at q
        intro σ1 H1' O1 j1 H1 pins1 s1 a C T s2 H2 sm I1w hC rs
        have I1:Inv X pins σ1 H1 s1:=I1w.outT I.ok
        have J1:Inv X pins σ1 H2 s2:=I1.call' rs.os rs.un rs.hok rs.bare fun b z=>absurd z (by simp)
        refine note_exc (b0:=X.base) (outer:=X.outer) (by rw[J1.ok.frames,hst]) (by have:=J1.stack;rwa [hst] at this) hfr rs.exc fun h3 t3 ld=>?_
        have fsub:∀b∈frs (X.env::X.outer),b∈frs X.stack:=fun b z=>by rw[hst];exact z
        have r3:Rsd X.prog X.w (frs X.stack) H1 s1 a C (some t3) {s2 with heap:=h3} H2:=Rsd.land rs fsub ld J1.stkFree
        have J3:Inv X pins σ1 H2 {s2 with heap:=h3}:=I1.call' r3.os r3.un r3.hok r3.bare fun b z=>absurd z (by simp)
        obtain⟨oe,vs,x1,x2,x3,x4,x5,x6,ot,ts,y1,y2,y3⟩:=r3.exc
        refine wpAny_handleBy_cons (codeAny_handlers_test (ld_glob (X:=X.inH a) (J3.inH a) hg hm ?_ hdb)) (by intro z;cases z)
        have LT:PySem.W.Looks (model X.prog X.w) h3 (typeOf (.ref a)) (.ref C):=x2▸(PySem.W.Looks.ld x1).andThen .now
        refine (PySem.W.exm_one J3.kIn LT (hx c C hs hC)).here ?_
        simp only[if_true]
        refine codeAny_handlers_suite_as ?_
        refine wpAny_setFlight_none x1 x4 x5 y1 y2 (Array.getElem?_eq_some_iff.mp y3).1 ?_
        have same3:h3.update t3 (Obj.mapFields (·.setIfInBounds 3 Value.none))=h3:=Heap.update_setField_same h3 t3 ot ts 3 Value.none y1 y2 y3
        show wpAny _ _ _ _ _ {s2 with heap:=h3.update t3 (Obj.mapFields (·.setIfInBounds 3 Value.none))}
        rw[same3]
        have na1:∀b ob,s1.heap.get? b=some ob→b≠a:=fun b ob z e=>by rw[e,rs.na] at z;cases z
        have K3:Inv X pins σ1 (upd H2 a (.frz oe (.own a))) {s2 with heap:=h3}:=by
          refine J3.track r3.ha x1 ?_ ?_ (fun y cc z=>?_) fun p hp=>?_
          · cases z:X.s₀.heap.get? a with
            |none=>rfl
            | some ob=>
              obtain⟨o',e⟩:=I1.base.there a ob z (by rw[hex];simp)
              rw[rs.na] at e;cases e
          · intro z
            obtain⟨m,⟨ob,_,_,e,_⟩,_⟩:=I1.loc
            exact na1 _ _ e z.symm
          · obtain⟨v,ob,e,_⟩:=I1.cell y cc z
            exact na1 _ _ e
          · exact na1 _ _ (I1.pin p hp).1
        refine store_ok (X:=X.inH a) (v:= .ref a) (K3.inH a) hN hi (.inl hl) rfl (fun s4 J4=>?_) (.inr hl)
        have jx:At X H0 O0 O1 H1' ρ1 σ1:=j1.cx rfl rfl
        have sm3:Same H1' (upd H2 a (.frz oe (.own a))):=(sm.trans rs.same).trans (Same.upd r3.ha)
        have j4:At (X.inH a) H0 O0 O1 (upd H2 a (.frz oe (.own a))) (ρ1.set i (some (.obj (.exc c)))) (σ1.set i (some (.ref a))):=
          ((jx.grow sm3).setO (t:= .exc c) (v:= .ref a) hin ⟨a,oe,C,rfl,upd_same,x2,x3,⟨vs,x4⟩,hC⟩).cx rfl rfl
        cases eh:h (ρ1.set i (some (.obj (.exc c)))) with
        | rt d=>
          rw[eh] at q
          refine wpAny_mono (hh a pins s4 _ _ {nx:=fun _ _=>False,rt:=E.rt} J4 ⟨H0,O0,O1,_,j4,by rw[eh];exact q⟩) (fun f s5 z=>?_) fun _ _ z=>z.elim
          cases f with
          |next=>obtain⟨_,_,_,z⟩:=z;exact z.elim
          |brk=>obtain⟨_,_,_,z⟩:=z;exact z.elim
          |cont=>obtain⟨_,_,_,z⟩:=z;exact z.elim
          | ret u=>
            obtain⟨v,σ5,H5,J5,r5,q5⟩:=z
            have J5':Inv X pins σ5 H5 s5:=J5.outH I.ok
            obtain⟨m,hn,_⟩:=J5'.loc
            exact wpAny_nameGoes hl hn hcls fun h6 m6 hn6 hs6=>⟨v,_,H5,J5'.gone hn6 hs6,r5,q5⟩
        |bad=>rw[eh] at q;exact q.elim
        |nx _=>rw[eh] at q;exact q.elim
        |bk _=>rw[eh] at q;exact q.elim
        |ct _=>rw[eh] at q;exact q.elim
        |ex _ _=>rw[eh] at q;exact q.elim
      · rw[if_neg hs] at q;exact q.elim
  · cases f with
    |next=>exact wpAny_execs_nil (z.outT I.ok)
    |brk=>exact z.outT I.ok
    |cont=>exact z.outT I.ok
    |ret u=>exact z.outT I.ok
end
structure XIn (K:PySem.W.Frag) (C:Addr):Prop where
  g1:PySem.W.findIn K (.ref C) "__getattribute__" =some (some (.builtin "BaseException.__getattribute__"))
  g2:PySem.W.findIn K (.ref C) "__getattr__" =some none
  cl:(PySem.W.clsIn K C).isSome=true
  ha:PySem.W.findIn K (.ref C) "__class__" =some (some (.builtin "object.__class__"))
  hn:PySem.W.specialIn K (.builtin "object.__class__") "__get__" =some (some (.builtin "getset_descriptor.__get__"))
  ht:PySem.W.takesIn K (.builtin "object.__class__")=some true
  hm:PySem.W.mroIn K C (.type "object")=some true
  hb:PySem.W.mroIn K C (.type "BaseException")=some true
section
variable {prog:Program} {w:World} {A:Around} {E:Value→Shared→Prop} {s:Shared} {K:PySem.W.Frag} {x C:Addr} {ox:Obj} {od:Option Obj}
theorem find_data {K:PySem.W.Frag} {C:Addr} {od:Option Obj} {name:Str} {a g:Value} (hc:(PySem.W.clsIn K C).isSome=true) (ha:PySem.W.findIn K (.ref C) name=some (some a)) (hg:PySem.W.specialIn K a "__get__" =some (some g)) (ht:PySem.W.takesIn K a=some true):PySem.W.findObj K C od name=some (.bind g a):=by
  obtain⟨cd,e⟩:=Option.isSome_iff_exists.mp hc
  unfold PySem.W.findObj
  rw[e,Option.bind_some,ha,Option.bind_some]
  simp[hg,ht]
theorem exc_class {Q:Option Value→Shared→Prop} (X:K.In s.heap) (I:PySem.W.InstAt s.heap x ox C od) (F:XIn K C) (h:Q (some (.ref C)) {s with toks:=s.toks+1}):wpAny (model prog w) A (getAttr? (.ref x) "__class__") Q E s:=by
  obtain⟨hh,g,d,t,os⟩:=s
  have L0:=I.type (M:=model prog w)
  have L1:=PySem.W.looks_findIn (M:=model prog w) X F.g1
  have L2:=PySem.W.looks_findIn (M:=model prog w) X F.g2
  have L4:=PySem.W.looks_find (M:=model prog w) X I (find_data (od:=od) F.cl F.ha F.hn F.ht)
  have LB:=PySem.W.looks_mroIn (M:=model prog w) X F.hb
  have f3:=PySem.F.attrBase_ValueError.ga.bind (.ref x)
  unfold getAttr? getAttrBy? getAttrBy
  refine wpAny_bind (wpAny_mkText (wpAny_bind (wpAny_attempt (wpAny_holding (wpAny_bind (L0.at (wpAny_bind (L1.at ?_))))))))
  have hx1:(onTheHeap (Value.ref C) && Value.builtin "BaseException.__getattribute__" ==Value.builtin "object.__getattribute__")=false:=by
    rw[show (Value.builtin "BaseException.__getattribute__" ==Value.builtin "object.__getattribute__")=false from by decide +kernel];exact Bool.and_false _
  dsimp only
  rw[hx1,if_neg Bool.false_ne_true]
  unfold getAttrByItsOwn hookBefore
  rw[if_pos (show onTheHeap (Value.ref C)=true from rfl)]
  refine wpAny_bind (L2.at (wpAny_bind (wpAny_attempt (wpAny_holding ?_))))
  unfold callGetattribute
  rw[Bool.false_and,if_neg Bool.false_ne_true]
  unfold boundAndCalled
  rw[f3]
  refine wpAny_bind (wpAny_pure ?_)
  refine wpAny_call (codeAny_call_builtin PySem.F.attrBase_ValueError.ga.plain PySem.F.entry_bexc_ga ?_)
  have hk:builtinKind "BaseException.__getattribute__" =some .slot:=by decide +kernel
  have hsp:splitId "BaseException.__getattribute__" =some ("BaseException","__getattribute__"):=by decide +kernel
  have ha:=PySem.F.args_bexc_ga (.ref x) (.str (Str.ofString "__class__") t)
  simp only[checkBuiltinCall,hk,hsp,List.cons_append,List.nil_append]
  unfold isInstance
  refine wpAny_bind (wpAny_bind (L0.at (LB.at ?_)))
  rw[Bool.not_true,if_neg Bool.false_ne_true]
  refine wpAny_of_eq (a:=()) ha ?_
  unfold Builtin.«object.__getattribute__»
  refine wpAny_bind (wpAny_pure ?_)
  refine wpAny_bind (wpAny_pure ?_)
  refine wpAny_bind (L0.at (wpAny_bind (L4.at ?_)))
  show wpAny _ _ (holding [Value.builtin "object.__class__"] (call (Value.builtin "getset_descriptor.__get__") [Value.builtin "object.__class__",.ref x,.ref C]) >>=ret) _ _ _
  refine wpAny_bind (wpAny_holding (wpAny_call (PySem.W.class_get (s:=⟨hh,g,d,t+1,os⟩) (od:=od) X I F.hm (wpAny_pure ?_))))
  exact PySem.W.handed_on rfl (wpAny_pure h)
theorem kitx_exc (F:XIn K C):PySem.W.KitX K (.ref x) (.ref C) (fun h=>PySem.W.InstAt h x ox C od) where
  ty:=fun _ _ _ I=>I.type
  it :=fun _ _ X _=>by
    obtain⟨cd,hcd⟩:=Option.isSome_iff_exists.mp F.cl
    unfold PySem.W.clsIn at hcd
    split at hcd
    · rename_i v1 v2 v3 v4 ho
      intro A' Q' E' s' k q
      unfold isType loadHead
      exact wpAny_bind (wpAny_loadPart (k _ _ (X _ _ ho)) (wpAny_pure q))
    · cases hcd
  ne :=fun h tp dd its n sl X htp=>by
    obtain⟨cd,hcd⟩:=Option.isSome_iff_exists.mp F.cl
    refine Bool.eq_false_iff.mpr fun q=>?_
    have e:C=tp:=Value.ref.inj (beq_iff_eq.mp q)
    subst e
    unfold PySem.W.clsIn at hcd
    split at hcd
    · rename_i v1 v2 v3 v4 ho
      cases (X _ _ ho).symm.trans htp
    · cases hcd
  ca:=fun X I k=>exc_class X I F k
end
section
variable {X:Cx} {sub:Str→Str→Bool}
theorem call_instE {T:Str} {vt:V} {ut:Value} (hut:∀u,RelV vt u→u=ut) (hq:∀c C,sub c c=true→PySem.W.nsIn X.K mainGlobals c=some (some (.ref C))→XIn X.K C∧PySem.W.kitOne X.K (.ref C) ut=some (sub c T)):
    CallR X (.builtin "isinstance") (fun xs H Q=>∃x c,xs=[x,vt]∧sub c c=true∧RepO X.K H (.exc c) x∧Q (.bl (sub c T)) H):=by
  intro pins s σ H xs us Q I r h
  obtain⟨x,c,rfl,hc,⟨a,o,C,rfl,hH,h1,h2,⟨vs,h3⟩,h4⟩,q⟩:=h
  obtain⟨u,u2,rfl,rx,r2⟩:=vals2 r
  cases (show u=Value.ref a from rx)
  cases hut u2 r2
  obtain⟨F,e⟩:=hq c C hc h4
  obtain⟨ho,_⟩:=I.hok a _ hH
  refine PySem.W.kia_one (kitx_exc (x:=a) (ox:=o) (od:=none) F) I.kIn ⟨ho,h1,by unfold PySem.W.notCls;rw[h3],by rw[h2];trivial⟩ e (fun z=>nomatch z) fun tk=>⟨.bl _,H,I.tok _,rfl,q⟩
theorem de_instE (i:Nat) {T n:Str} {vt:V} {ut:Value} {p p1 p2 pos:Pos} (hg:Gl X "isinstance") (hm:X.mg "isinstance" =none) (hT:PE X (.Name T p2) (tC vt)) (hut:∀u,RelV vt u→u=ut)
    (hq:∀c C,sub c c=true→PySem.W.nsIn X.K mainGlobals c=some (some (.ref C))→XIn X.K C∧PySem.W.kitOne X.K (.ref C) ut=some (sub c T))
    (hN:X.N[i]?=some n:=by rfl) (hv:Vis X.env.scope n:=by first |exact Or.inl rfl |exact Or.inr (Or.inl rfl) |exact Or.inr (Or.inr rfl)) (hd:(n ==("__debug__" :Str))=false:=by decide) (hcd:(n ==("__classdict__" :Str))=false:=by decide)
    (hs:starEach [.Name n p1,.Name T p2] X.env=(false,eval (.Name n p1) X.env)::starEach [.Name T p2] X.env:=by rfl) (hs2:starEach [.Name T p2] X.env=(false,eval (.Name T p2) X.env)::starEach [] X.env:=by rfl) (hpl:(backTo pos (starEach [.Name T p2] X.env)).any (·.1)=false:=by rfl):
    DE X (.Call (.Name "isinstance" p) [.Name n p1,.Name T p2] [] pos) (instE sub i T):=by
  refine PE.imp (pe_callB (call_instE (T:=T) hut hq) hg hm boot_isinstance (pa_cons (pe_var hN hv hd hcd) (pa_cons hT pa_nil hs2) hs) (by decide) (by decide) hs hpl) fun σ H Q h=>?_
  obtain⟨ρ,O,j,h⟩:=h
  unfold instE at h
  cases q:ρ[i]? with
  |none=>rw[q] at h;exact h.elim
  | some oe =>
    rw[q] at h
    cases oe with
    |none=>exact h.elim
    | some en=>
      cases en with
      |val _=>exact h.elim
      |lst _=>exact h.elim
      |dic _=>exact h.elim
      | obj t=>
        cases t with
        |fn _=>exact h.elim
        | exc c=>
          have h:good X (rD X) O (if sub c c=true then .ok (.bl (sub c T)) else .bad) σ H Q:=h
          by_cases hc:sub c c=true
          · rw[if_pos hc] at h
            obtain⟨v,hv1,hv2⟩:=j.env.get i _ q
            exact⟨v,hv1,v,c,rfl,hc,hv2,fin h (rep_bl _)⟩
          · rw[if_neg hc] at h;exact h.elim
end
end Pu
namespace Pu
open PySem PySem.Spec L2
open PyProof.Rows hiding St
section
variable {X:Cx} {tg a:Expr} {p pos:Pos} {fa:Rho→R (List D)}
end
section
variable {X:Cx}
theorem op_repL:OpR X (binaryOp .Mult) (fun x y H Q=>∃a k xs,x= .ref a∧y= .int k∧SqL X.K H a xs∧1≤k∧k < 2 ^ 63∧xs.length*k.toNat≤1000000∧∀p,H p=none→Q (.ref p) (upd H p (.lst (List.replicate k.toNat xs).flatten))):=by
  intro pins s σ H x y v u Q I rx ry h
  obtain⟨a,k,xs,rfl,rfl,hq,h1,h2,hz,q⟩:=h
  cases rx
  obtain⟨t,rfl⟩:=ry
  obtain⟨its,r,p1,_⟩:=I.list hq
  obtain⟨⟨cls,dd,data,sl⟩,ho,hc,n,hd⟩:=id p1.isList
  simp only at hc hd
  subst hc hd
  have hlen:=r.length
  have hz':its.toArray.size*k.toNat≤1000000:=by rw[List.size_toArray,←hlen];exact hz
  have hz2:its.length*k.toNat≤1000000:=by rw[←hlen];exact hz
  refine wpAny_binaryOp_repeat_ref (T:= "list") (U:= "int") (by decide) ⟨_,ho,rfl⟩ (fun s'=>typeIs_int s' k t) noFill_list_mul F.fills_int_mul F.slot_int_rmul repeat_list F.slot_int_index.lookup
    (call_meets F.slot_int_rmul (typeIs_int s k t) F.entry_int_rmul (F.args_int_rmul_2 _ _) (lm_int_rmul_list_any k t a its.toArray n dd sl) ⟨ho,rfl,⟨_,ho,rfl⟩,?_⟩)
  refine call_meets F.slot_list_mul ⟨_,ho,rfl⟩ F.entry_list_mul (F.args_list_mul_2 _ _) (lm_list_mul_any a its.toArray n dd sl k t (by simp[Builtin.List.listFitsIndex];omega) (by omega) (by simp[Builtin.List.listTooLong,sizeLine];omega)) ⟨ho,?_⟩
  rw[listMul_foldl_if]
  refine⟨.ref s.heap.objs.size,_,I.laid (t':=s.toks) (o:= .lst (List.replicate k.toNat xs).flatten) (fun b ob z=>Heap.get?_push_of_some _ z) (Nat.le_refl _) ?_,rfl,q _ (I.hok.fresh (Nat.le_refl _))⟩
  exact⟨by rw[len_rep,Nat.mul_comm];exact Nat.le_trans hz sizeLine_ge,_,_,r.rep k.toNat,Heap.get?_push_size _ rfl⟩
theorem od_mulL:OpD X (binaryOp .Mult) mulL:=by
  obtain⟨r0,o0,c0⟩:=od_mulD (X:=X)
  refine⟨_,OpR.or o0 op_repL,fun ρ O σ H Q x y dx dy j0 rx ry h=>?_⟩
  cases dx with
  | lst ds=>
    cases dy with
    | int k=>
      have h:good X (rD X) O (if ds≠[]∧1≤k∧k < 2 ^ 63∧ds.length*k.toNat≤1000000 then .ok (.lst (List.replicate k.toNat ds).flatten) else .bad) σ H Q:=h
      by_cases hc:ds≠[]∧1≤k∧k < 2 ^ 63∧ds.length*k.toNat≤1000000
      · rw[if_pos hc] at h
        obtain⟨a,us,rfl,ha,hn,r1⟩:=rx.lst
        obtain⟨h0,h1,h2,h3⟩:=hc
        exact .inr ⟨a,k,us,rfl,ry.int,ha,h1,h2,by rw[←r1.length];exact h3,fun l hl=>h _ _ (Same.upd hl) (Rep.new_lst hl (j0.notO hl) (reps_rep r1 _))⟩
      · rw[if_neg hc] at h;exact h.elim
    |_=>exact h.elim
  |_=>exact .inl (c0 ρ O σ H Q x y _ _ j0 rx ry h)
end
end Pu
namespace Pu
open PySem PySem.Spec L2
open PyProof.Rows hiding St
noncomputable def Tb (ts:List (Addr×Str)) (H:Hp):Prop:=∀p∈ts,∃(ps:Array Value) (tq:Tok),H p.1=some (.tbl ps)∧ps[0]?=some (.str p.2 tq)
theorem Tb.un {ts:List (Addr×Str)} {fs ex:List Addr} {H H':Hp} {h h':Heap} (t:Tb ts H) (u:Un fs ex H H' h h'):Tb ts H':=fun p hp=>by
  obtain⟨ps,tq,e,q⟩:=t p hp
  obtain⟨more,e'⟩:=u.tbls _ _ e
  refine⟨_,tq,e',?_⟩
  obtain⟨hl,_⟩:=Array.getElem?_eq_some_iff.mp q
  rw[Array.getElem?_append_left hl];exact q
theorem Tb.same {ts:List (Addr×Str)} {H H':Hp} (t:Tb ts H) (s:Same H H'):Tb ts H':=fun p hp=>let ⟨ps,tq,e,q⟩:=t p hp;⟨ps,tq,s _ _ e,q⟩
theorem paired_get {α β:Type} {F:α→β→Prop}:∀{es:List α} {vs:List β} {i:Nat} {e:α},Paired F es vs→es[i]?=some e→∃v,vs[i]?=some v∧F e v
  |_,_,_,_,.nil,h=>by simp at h
  |_,_,0,_,.cons r _,h=>by simp at h;subst h;exact⟨_,rfl,r⟩
  | _,_,i+1,e,.cons _ t,h=>by
    obtain⟨v,h1,h2⟩:=paired_get (i:=i) (e:=e) t (by simpa using h)
    exact⟨v,by simpa using h1,h2⟩
theorem paired_len {α β:Type} {F:α→β→Prop}:∀{es:List α} {vs:List β},Paired F es vs→es.length=vs.length
  :=by
  intro es vs h
  induction h with
  |nil=>rfl
  |cons r t ih=>rw[List.length_cons,List.length_cons,ih]
theorem paired_app {α β:Type} {F:α→β→Prop}:∀{es fs:List α} {vs ws:List β},Paired F es vs→Paired F fs ws→Paired F (es++fs) (vs++ws)
  :=by
  intro es fs vs ws h q
  induction h with
  |nil=>exact q
  |cons r t ih=>exact .cons r ih
noncomputable abbrev EntV (K:PySem.W.Frag) (O:Addr→Prop) (H:Hp):Ent→V→Prop:=fun e v=>RepE K O H e v∧e.own=false
theorem reps_ents {K:PySem.W.Frag} {O:Addr→Prop} {H:Hp}:∀{ds:List D} {vs:List V},Reps K O H ds vs→Paired (EntV K O H) (ds.map .val) vs
  |[],vs,r=>by rw[r.nil_inv];exact .nil
  | d::ds,vs,r=>by
    obtain⟨x,t,rfl,h1,h2⟩:=r.cons_inv
    exact .cons ⟨h1,rfl⟩ (reps_ents h2)
theorem at_start {X:Cx} {O:Addr→Prop} {H:Hp} {es:List Ent} {vs:List V} {m:Nat} (hl:X.N.length=es.length+m) (r:Paired (EntV X.K O H) es vs) (al:∀a,O a→∃o,H a=some o):
    At X H O O H (es.map some++List.replicate m none) (vs.map some++List.replicate m none):=by
  have hlen:=paired_len r
  have get:∀(i:Nat) e,(es.map some++List.replicate m none)[i]?=some (some e)→∃v,(vs.map some++List.replicate m none)[i]?=some (some v)∧RepE X.K O H e v∧e.own=false:=fun i e q=>by
    by_cases hi:i < es.length
    · rw[List.getElem?_append_left (by simpa using hi),List.getElem?_map] at q
      cases z:es[i]? with
      |none=>rw[z] at q;cases q
      | some e'=>
        rw[z] at q;cases q
        obtain⟨v,h1,h2,h3⟩:=paired_get r z
        exact⟨v,by rw[List.getElem?_append_left (by rw[List.length_map,←hlen];exact hi),List.getElem?_map,h1];rfl,h2,h3⟩
    · rw[List.getElem?_append_right (by simpa using hi),List.getElem?_replicate] at q
      split at q <;> cases q
  refine⟨Same.refl _,.refl,fun _ z=>z,⟨⟨fun i e q=>?_,fun i k e e' v _ hi _ oi=>?_⟩,al,?_,?_⟩,fun i e a q ho=>?_⟩
  · obtain⟨v,h1,h2,_⟩:=get i e q
    exact⟨v,h1,h2⟩
  · obtain⟨_,_,_,h3⟩:=get i e hi
    rw[h3] at oi;cases oi
  · rw[List.length_append,List.length_map,List.length_replicate,←hlen];exact hl.symm
  · rw[List.length_append,List.length_map,List.length_replicate];exact hl.symm
  · obtain⟨_,_,_,h3⟩:=get i e q
    rw[h3] at ho;cases ho
theorem start_eq {N:List Str} {vs:List V} {m:Nat} (h:N.length=vs.length+m):L2.start N vs=vs.map some++List.replicate m none:=by
  unfold L2.start
  rw[show N.length - vs.length=m by omega]
noncomputable def spT (ts:List (Addr×Str)) (K:PySem.W.Frag) (n:Nat) (F:List D→R D):Sp:=fun vs H Q E=>Tb ts H∧spD K n F vs H Q E
section
variable {P:Program} {w:World} {K:PySem.W.Frag} {mg:Str→Option Value} {base:Heap}
noncomputable def runE (m:Nat) (g:Rho→So) (es:List Ent):R D:=match g (es.map some++List.replicate m none) with
  | .rt d=> .ok d
  | .nx _=> .ok .non
  |_=> .bad
theorem fol_run {X:Cx} {H:Hp} {O:Addr→Prop} {m:Nat} {g:Rho→So} {es:List Ent} {Q:VK} (h:match runE m g es with | .ok d=>∀v H',Same H H'→Rep X.K O H' d v→Q v H' |_=>False):
    fol X H O O H {nx:=fun _ H'=>Q .non H',rt:=Q} (g (es.map some++List.replicate m none)):=by
  unfold runE at h
  cases e2:g (es.map some++List.replicate m none) with
  |rt d=>rw[e2] at h;exact fun v H' s' r'=>h v H' s' r'
  |nx ρ'=>rw[e2] at h;exact fun σ' H' O' j' _=>h .non H' j'.same rep_non
  |bk _=>rw[e2] at h;exact h.elim
  |ct _=>rw[e2] at h;exact h.elim
  |ex _ _=>rw[e2] at h;exact h.elim
  |bad=>rw[e2] at h;exact h.elim
theorem fnT {x qual:Str} {st:Stmt} {f:Addr} {fd:FuncData} {N ps:List Str} {k n m:Nat} {g:Rho→So} {ts:List (Addr×Str)} (Fn:Fun K x qual st f fd) (S:FnScope N ps (defScope st)) (hn:ps.length=n) (hm:N.length=n+m)
    (hb:∀(cdv:Value) (A:Around) (outer:List PySem.Env) (s:Shared) (H:Hp) (E:XK),fd.code=cdv→Room k (A.deeper (envOfC qual (defScope st) s.heap.objs.size f cdv))→Tb ts H→DSs (cxOf CX0 P w K mg base N qual (defScope st) f cdv A outer s H E).nox (defBody st) g):
    FnOk P w K mg base CX0 (k+1) f fd ps (spT ts K n (fun ds=>runE m g (ds.map .val))):=by
  obtain⟨oc,od,kV,doc,pm,an,cdv,ct,osl,rfl,lk,hcd⟩:=Fn.ex
  refine fn_of lk hcd S (fun vs H Q E h=>?_) fun A outer s H vs Q E hr h=>?_
  · obtain⟨_,O,ds,r,hl,_⟩:=h
    rw[hn,←hl,r.length]
  · obtain⟨hT,O,ds,r,hl,al,h⟩:=h
    have hlv:N.length=vs.length+m:=by rw[hm,←hl,r.length]
    refine⟨_,(hb cdv A outer s H E rfl hr hT).nox,H,O,O,(ds.map Ent.val).map some++List.replicate m none,?_,fol_run h⟩
    rw[start_eq hlv]
    exact at_start (X:=(cxOf CX0 P w K mg base N qual (defScope st) f cdv A outer s H E).nox) (by rw[List.length_map,r.length];exact hlv) (reps_ents r) al
end
noncomputable def FnTE (P:Program) (w:World) (K:PySem.W.Frag) (mg:Str→Option Value) (base:Heap) (k:Nat) (x:Str) (n:Nat) (F:List D→R D) (fd:FuncData) (ps:List Str) (ts:List (Addr×Str)):Prop:=
  ∃f,FnOk P w K mg base CX0 k f fd ps (spT ts K n F)∧mg x=some (.ref f)∧PySem.W.keepIn K (.ref f)=true
section
variable {X:Cx} {k m n:Nat} {fd:FuncData} {ps ks:List Str} {F:List D→R D} {x:Str} {p pos:Pos} {e:Expr} {es:List Expr} {kws:List Keyword} {fa fk:Rho→R (List D)} {ts:List (Addr×Str)}
theorem de_fnT (G:FnTE X.prog X.w X.K X.mg X.base k x n F fd ps ts) (hT:Tb ts X.H₀) (hr:Room m X.A) (hkm:k≤m) (hb:Binds X.K fd ps []) (ha:DA X (e::es) fa) (hg:Gl X x:=by rfl)
    (hdb:(x ==("__debug__" :Str))=false:=by decide) (he:starEach (e::es) X.env=(false,eval e X.env)::starEach es X.env:=by rfl) (hpl:(backTo pos (starEach es X.env)).any (·.1)=false:=by rfl):
    DE X (.Call (.Name x p) (e::es) [] pos) (callV (noErr F n) fa):=by
  obtain⟨f,ok,hm,hk⟩:=G
  intro pins s σ H Q I h
  refine pe_call (dvs:=[]) (ok.mono hkm) hr hg hm hk hb .nil pass0 ha hdb he hpl pins s σ H Q I ?_
  obtain⟨ρ,O,j,h⟩:=h
  refine go j h fun ds vs H1 e1 s1 r1 j1 h1=>?_
  unfold noErr at h1
  by_cases hl:ds.length=n
  · rw[if_pos hl] at h1
    rw[List.append_nil]
    refine⟨(hT.un I.base).same s1,O,ds,r1,hl,j1.al,?_⟩
    cases q:F ds with
    |ok d=>rw[q] at h1;exact h1
    |err c=>rw[q] at h1;exact h1
    |bad=>rw[q] at h1;exact h1
  · rw[if_neg hl] at h1;exact h1.elim
theorem de_fnTK {sa sb sc} (S:Sel sa sb sc) (G:FnTE X.prog X.w X.K X.mg X.base k x n F fd ps ts) (hT:Tb ts X.H₀) (hr:Room m X.A) (hkm:k≤m) (hb:KB X.K fd ps ks sa)
    (ha:DA X (e::es) fa) (hkw:DK X kws fk) (hg:Gl X x:=by rfl) (hall:(backToKw pos (keywordEach kws X.env)).all (·.1.isSome)=true:=by rfl) (hks:(backToKw pos (keywordEach kws X.env)).filterMap (·.1)=ks:=by rfl)
    (hdb:(x ==("__debug__" :Str))=false:=by decide) (he:starEach (e::es) X.env=(false,eval e X.env)::starEach es X.env:=by rfl)
    (hpl:((backTo pos (starEach (e::es) X.env)).any (·.1) || (backToKw pos (keywordEach kws X.env)).any (·.1.isNone))=false:=by rfl):
    DE X (.Call (.Name x p) (e::es) kws pos) (callK F n ks.length sc fa fk):=by
  obtain⟨f,ok,hm,hk⟩:=G
  have G:=ok.mono hkm
  intro pins s σ H Q I h
  refine wpAny_Call_Name_kw (ld_glob I hg hm ?_ hdb)
  obtain⟨ρ,O,j,h⟩:=h
  have key:tG X (rDs X) fa σ H fun vs H1=>tG X (rDs X) fk σ H1 fun zs H2=>zs.length=ks.length∧spT ts X.K n F (vs++pickK .non sb zs) H2 Q E0:=by
    refine go j h fun ds vs H1 e1 s1 r1 j1 h1=>?_
    refine go j1 h1 fun zd zs H2 e2 s2 r2 j2 h2=>?_
    by_cases hz:zd.length=ks.length
    · rw[if_pos hz] at h2
      unfold noErr at h2
      by_cases hl:(ds++pickK .non sc zd).length=n
      · rw[if_pos hl] at h2
        refine⟨by rw[←r2.length];exact hz,((hT.un I.base).same s1).same s2,O,_,(r1.same s2).append (S.reps r2),hl,j2.al,?_⟩
        cases q:F (ds++pickK .non sc zd) with
        |ok d=>rw[q] at h2;exact h2
        |err c=>rw[q] at h2;exact h2
        |bad=>rw[q] at h2;exact h2
      · rw[if_neg hl] at h2;exact h2.elim
    · rw[if_neg hz] at h2;exact h2.elim
  refine PySem.W.callWith_KW (h₀:=X.base) I.ok.mod.kin hk hall (thn (ha pos pins s σ H _ I key) fun us s1 ⟨vs,H1,I1,r,q⟩=>?_) hpl he
  refine thn (hkw pos pins s1 σ H1 _ I1 q) fun ws s2 ⟨zs,H2,I2,rz,q2⟩=>⟨I2.kIn,?_⟩
  rw[hks]
  obtain⟨hz,q2⟩:=q2
  have r2:=r.append (S.vals rz)
  have hl:(us++pickK .none sa ws).length=ps.length:=by rw[←r2.length];exact G.len _ _ _ _ q2
  refine wpAny_call (codeAny_mono (G.run X.A X.stack s2 H2 ⟨us,ks.zip ws⟩ _ _ Q E0 hr I2.env0 (hb s2 us ws I2.kIn (by rw[List.length_append,pickK_len] at hl;exact hl) (by rw[←rz.length];exact hz)) r2 q2) fun r s' hq=>?_)
  cases r with
  |error e=>exact pass0 pins σ H2 s2 e s' I2 hq
  | ok fl=>
    cases fl with
    |ret u=>exact I2.after hq
    |next=>exact False.elim hq
    |brk=>exact False.elim hq
    |cont=>exact False.elim hq
theorem de_fnTD {sa sb sc} (S:Sel sa sb sc) (G:FnTE X.prog X.w X.K X.mg X.base k x n F fd ps ts) (hT:Tb ts X.H₀) (hr:Room m X.A) (hkm:k≤m) (hb:KB X.K fd ps [] sa)
    (ha:DA X (e::es) fa) (hg:Gl X x:=by rfl) (hdb:(x ==("__debug__" :Str))=false:=by decide) (he:starEach (e::es) X.env=(false,eval e X.env)::starEach es X.env:=by rfl) (hpl:(backTo pos (starEach es X.env)).any (·.1)=false:=by rfl):
    DE X (.Call (.Name x p) (e::es) [] pos) (callK F n 0 sc fa (fun _=> .ok [])):=by
  obtain⟨f,ok,hm,hk⟩:=G
  intro pins s σ H Q I h
  refine pe_call (ds:=pickK .none sa []) (dvs:=pickK .non sb []) (ok.mono hkm) hr hg hm hk (fun s us i hl=>hb s us [] i (by rw[List.length_append,pickK_len] at hl;exact hl) rfl) (S.vals .nil) pass0 ha hdb he hpl pins s σ H Q I ?_
  obtain⟨ρ,O,j,h⟩:=h
  refine go j h fun ds vs H1 e1 s1 r1 j1 h1=>?_
  have h1:good X (rD X) O (noErr F n (ds++pickK .non sc [])) σ H1 Q:=h1
  unfold noErr at h1
  by_cases hl:(ds++pickK .non sc []).length=n
  · rw[if_pos hl] at h1
    refine⟨(hT.un I.base).same s1,O,_,r1.append (S.reps .nil),hl,j1.al,?_⟩
    cases q:F (ds++pickK .non sc []) with
    |ok d=>rw[q] at h1;exact h1
    |err c=>rw[q] at h1;exact h1
    |bad=>rw[q] at h1;exact h1
  · rw[if_neg hl] at h1;exact h1.elim
end
end Pu
namespace Pu
open PySem PySem.Spec L2
open PyProof.Rows hiding St
theorem triples_app {a b:Int} {s t:Tok} {c:Value} (l:List Value) (h:TriplesOk l):TriplesOk (l++[.int a s,.int b t,c]):=by
  fun_induction TriplesOk l with
  |case1=>simp[TriplesOk]
  |case2 x1 x2 x3 x4 x5 rest ih=>simp only[List.cons_append,TriplesOk];exact ih h
  |case3=>exact h.elim
theorem among_app {a b:Int} {s t:Tok} {c cv:Value} {pos:Pos} (l:List Value) (h:TriplesOk l) (e:codeAmong pos (l++[.int a s,.int b t,c])=some cv):codeAmong pos l=some cv∨cv=c:=by
  fun_induction TriplesOk l with
  | case1=>
    simp only[List.nil_append,codeAmong] at e
    split at e
    · cases e;exact .inr rfl
    · cases e
  | case2 x1 x2 x3 x4 x5 rest ih=>
    simp only[List.cons_append,codeAmong] at e ⊢
    split at e
    · rename_i z;rw[if_pos z];exact .inl e
    · rename_i z;rw[if_neg z];exact ih h e
  |case3=>exact h.elim
structure NestB (base:Heap) (mg:Str→Option Value) (c P:Addr):Prop where
  code:PySem.W.CodeHd base c P
  blt:∃bm ob,mg "__builtins__" =some (.ref bm)∧bm≠builtinsNs∧base.get? bm=some ob∧ob.cls= .type "module"∧ob.dict=some builtinsNs∧ob.data= .plain
section
variable {X:Cx} {pins:List (Addr×Obj)} {σ:St} {H:Hp} {s:Shared}
end
noncomputable def CalO (P:Program) (w:World) (K:PySem.W.Frag) (mg:Str→Option Value) (base:Heap) (k:Nat) (G:List D→R D) (n:Nat) (a:Addr) (H:Hp):Prop:=
  ∀ (A:Around) (outer:List PySem.Env) (s:Shared) (H1:Hp) (us:List Value) (vs:List V) (Q:VK) (E:XK),Room k A→Env0 P w K mg base A outer s H1→(∀b o u,H b=some (.frz o u)→H1 b=some (.frz o u))→Vals vs us→spD K n G vs H1 Q E→
    codeAny (model P w) A (.call (.ref a) ⟨us,[]⟩) (CR CX0 outer P w H1 s Q E) s
noncomputable def callO (i a:Nat) (G:List D→R D) (n:Nat) (fa:Rho→R (List D)):Rho→R D:=fun ρ=>match ρ[i]? with
  |some (some (.obj (.fn b)))=>if b=a then (fa ρ).bind (noErr G n) else .bad
  |_=> .bad
section
variable {X:Cx} {k m n:Nat} {G:List D→R D} {x:Str} {p pos:Pos} {e:Expr} {es:List Expr} {fa:Rho→R (List D)} {a:Addr}
theorem de_callO (i:Nat) (hc:CalO X.prog X.w X.K X.mg X.base k G n a X.H₀) (hr:Room m X.A) (hkm:k≤m) (ha:DA X (e::es) fa) (hN:X.N[i]?=some x:=by rfl) (hv:Vis X.env.scope x:=by first |exact Or.inl rfl |exact Or.inr (Or.inl rfl) |exact Or.inr (Or.inr rfl))
    (hd:(x ==("__debug__" :Str))=false:=by decide) (hcd:(x ==("__classdict__" :Str))=false:=by decide) (he:starEach (e::es) X.env=(false,eval e X.env)::starEach es X.env:=by rfl) (hpl:(backTo pos (starEach es X.env)).any (·.1)=false:=by rfl):
    DE X (.Call (.Name x p) (e::es) [] pos) (callO i a G n fa):=by
  intro pins s σ H Q I h
  obtain⟨ρ,O,j,h⟩:=h
  unfold callO at h
  split at h
  · rename_i b q
    by_cases hb:b=a
    · subst hb
      rw[if_pos rfl] at h
      obtain⟨v,hv1,rfl,o,fd,ho,hod⟩:=j.env.get i _ q
      have at':∀{s':Shared} {H':Hp},Inv X pins σ H' s'→Same H H'→PySem.W.FnAt b s'.heap:=fun {s' H'} I' sm=>by
        obtain⟨ho',_⟩:=I'.hok b _ (sm _ _ ho)
        obtain⟨v1,v2,v3,v4⟩:=o
        have hod:v3= .func fd:=hod
        subst hod
        exact⟨v1,v2,fd,v4,ho'⟩
      refine wpAny_Call_Name_kw (thn (pe_var hN hv hd hcd pins s σ H (fun v H1=>v= .ref b∧H1=H) I ⟨_,hv1,rfl,rfl⟩) fun u s1 hpz1=>?_)
      obtain⟨v',H1,I1,r1,e1,e2⟩:=hpz1
      subst e1 e2
      cases (show u=Value.ref b from r1)
      have key:tG X (rDs X) fa σ H1 (fun vs H2=>Same H1 H2∧spD X.K n G vs H2 Q E0):=by
        refine go j h fun ds vs H2 e1 s2 r2 j2 h2=>⟨s2,?_⟩
        unfold noErr at h2
        by_cases hl:ds.length=n
        · rw[if_pos hl] at h2
          refine⟨O,ds,r2,hl,j2.al,?_⟩
          cases q:G ds with
          |ok d=>rw[q] at h2;exact h2
          |err c=>rw[q] at h2;exact h2
          |bad=>rw[q] at h2;exact h2
        · rw[if_neg hl] at h2;exact h2.elim
      refine PySem.W.callWith_F (at' I1 (Same.refl _)) (thn (ha pos pins s1 σ H1 _ I1 key) fun us s2 ⟨vs,H2,I2,r,sm,q2⟩=>⟨at' I2 sm,?_⟩) he hpl
      refine wpAny_call (codeAny_mono (hc X.A X.stack s2 H2 us vs Q E0 (hr.mono hkm) I2.env0 I2.base.frzs r q2) fun r s' hq=>?_)
      cases r with
      |error e=>exact pass0 pins σ H2 s2 e s' I2 hq
      | ok fl=>
        cases fl with
        |ret u=>exact I2.after hq
        |next=>exact False.elim hq
        |brk=>exact False.elim hq
        |cont=>exact False.elim hq
    · rw[if_neg hb] at h;exact h.elim
  · exact h.elim
end
inductive SpS (P:Program) (w:World) (mg:Str→Option Value) (base:Heap) (k:Nat) (K:PySem.W.Frag) (n q:Nat) (F:Addr→(List D→R D)→List D→R D) (vs:List V) (H:Hp) (Q:VK):Prop
  | mk (O:Addr→Prop) (ds:List D) (xs:List V) (a:Addr) (G:List D→R D) (e:vs=xs++[.ref a]) (r:Reps K O H ds xs) (hl:ds.length=n) (al:∀b,O b→∃o,H b=some o) (ro:RepO K H (.fn a) (.ref a)) (hc:CalO P w K mg base k G q a H) (h:match F a G ds with
    | .ok d=>∀v H',Same H H'→Rep K O H' d v→Q v H'
    |_=>False):SpS P w mg base k K n q F vs H Q
noncomputable def spS (P:Program) (w:World) (mg:Str→Option Value) (base:Heap) (k:Nat) (K:PySem.W.Frag) (n q:Nat) (F:Addr→(List D→R D)→List D→R D):Sp:=fun vs H Q _=>SpS P w mg base k K n q F vs H Q
section
variable {P:Program} {w:World} {K:PySem.W.Frag} {mg:Str→Option Value} {base:Heap}
theorem fnS {x qual:Str} {st:Stmt} {f:Addr} {fd:FuncData} {N ps:List Str} {k kG n m q:Nat} {g:Addr→(List D→R D)→Rho→So} (Fn:Fun K x qual st f fd) (S:FnScope N ps (defScope st)) (hn:ps.length=n+1) (hm:N.length=n+1+m)
    (hb:∀(cdv:Value) (A:Around) (outer:List PySem.Env) (s:Shared) (H:Hp) (E:XK) (a:Addr) (G:List D→R D),Room k (A.deeper (envOfC qual (defScope st) s.heap.objs.size f cdv))→CalO P w K mg base kG G q a H→DSs (cxOf CX0 P w K mg base N qual (defScope st) f cdv A outer s H E).nox (defBody st) (g a G)):
    FnOk P w K mg base CX0 (k+1) f fd ps (spS P w mg base kG K n q (fun a G ds=>runE m (g a G) (ds.map .val++[.obj (.fn a)]))):=by
  obtain⟨oc,od,kV,doc,pm,an,cdv,ct,osl,rfl,lk,hcd⟩:=Fn.ex
  refine fn_of lk hcd S (fun vs H Q E h=>?_) fun A outer s H vs Q E hr h=>?_
  · obtain⟨O,ds,xs,a,G,rfl,r,hl,_⟩:=h
    rw[hn,List.length_append,←r.length,hl];rfl
  · obtain⟨O,ds,xs,a,G,rfl,r,hl,al,ro,hc,h⟩:=h
    have hlv:N.length=(xs++[V.ref a]).length+m:=by rw[hm,List.length_append,←r.length,hl];rfl
    refine⟨_,(hb cdv A outer s H E a G hr hc).nox,H,O,O,(ds.map Ent.val++[Ent.obj (.fn a)]).map some++List.replicate m none,?_,fol_run h⟩
    rw[start_eq hlv]
    refine at_start (X:=(cxOf CX0 P w K mg base N qual (defScope st) f cdv A outer s H E).nox) (by rw[List.length_append,List.length_map,r.length];rw[List.length_append] at hlv;exact hlv) (paired_app (reps_ents r) (.cons ⟨ro,rfl⟩ .nil)) al
end
end Pu
namespace Pu
open PySem PySem.Spec L2
open PyProof.Rows hiding St
section
variable {P:Program} {w:World} {H:Hp} {h:Heap} {c:Addr} {co:Obj} {u:Option Value}
end
section
variable {M:Model} {A:Around} {E:Value→Shared→Prop} {s:Shared}
end
section
variable (P:Program) (w:World) (K:PySem.W.Frag) (mg:Str→Option Value) (base:Heap) (N:List Str) (qual:Str) (scope:Scope) (f:Addr) (cd:Value) (A:Around) (outer:List PySem.Env) (s:Shared) (H:Hp) (y:Str) (c:Addr)
end
section
variable {P:Program} {w:World} {K:PySem.W.Frag} {mg:Str→Option Value} {base:Heap}
end
end Pu
namespace Pu
open PySem PySem.Spec L2
open PyProof.Rows hiding St
section
variable {X:Cx} {name qual:Str} {params:Arguments} {body:List Stmt} {scope:Scope} {y xS:Str} {c fS:Addr} {fdS:FuncData} {psS:List Str} {kS kG n q iy:Nat} {FS:Addr→(List D→R D)→List D→R D} {GG:Int→List D→R D} {p pos:Pos} {e:Expr} {es:List Expr} {ta:TA}
end
open Classical in
noncomputable def allOf (f:Addr→R D):R D:=if h:∃d,∀a,f a= .ok d then .ok h.choose else .bad
theorem allOf_eq {f:Addr→R D} {d:D} (h:∀a,f a= .ok d):allOf f= .ok d:=by
  have e:∃d,∀a,f a= .ok d:=⟨d,h⟩
  unfold allOf
  rw[dif_pos e]
  have:=e.choose_spec 0
  rw[h 0] at this
  exact this.symm
theorem allOf_ok {f:Addr→R D} {d:D} (h:allOf f= .ok d) (a:Addr):f a= .ok d:=by
  unfold allOf at h
  by_cases e:∃d,∀a,f a= .ok d
  · rw[dif_pos e] at h
    cases h
    exact e.choose_spec a
  · rw[dif_neg e] at h;cases h
section
variable {X:Cx} {name qual:Str} {params:Arguments} {body:List Stmt} {scope:Scope} {y xS:Str} {c cc P fS:Addr} {fdS:FuncData} {psS:List Str} {kS kG q:Nat} {FS:Addr→(List D→R D)→List D→R D} {GG:Int→List D→R D} {p p4 pos pos2 pos3:Pos} {e1 e2 e3:Expr} {f1 f2 f3:Rho→R D}
end
end Pu
namespace Pu
open PySem PySem.Spec L2
open PyProof.Rows hiding St
noncomputable def H0T (a:Addr) (o:Option HO) (T:Addr) (q:Str):Hp:=fun b=>if b=T then some (.tbl #[.str q 0]) else if b=a then o else none
theorem law_callT {P:Program} {w:World} {K:PySem.W.Frag} {mg mb:Str→Option Value} {k:Nat} {fa a c T:Addr} {q:Str} {fd:FuncData} {x:Str} {sp:Sp} {s₁:Shared} {vs:List Value} {ns:List Int}
    (KX:K.In s₁.heap) (hns:s₁.heap.Ns mainGlobals mg) (hb:s₁.heap.Ns builtinsNs mb) (hbb:∀x:Str,x≠"__name__"→mb x=bootBuiltins x) (hlim:s₁.heap.NoLimit) (hg:s₁.gens= #[])
    (ha:s₁.heap.get? a=some {cls:= .type "list",data:= .seq vs.toArray}) (hi:IntsAre vs ns) (hl:ns.length≤sizeLine) (hr:Room k callerA)
    (hC:PySem.W.CodeHd s₁.heap c T) (hT:s₁.heap.get? T=some (PySem.W.tabObj #[])) (hnt:PySem.W.noTabs K=true)
    (hbm:∃bm ob,mg "__builtins__" =some (.ref bm)∧bm≠builtinsNs∧s₁.heap.get? bm=some ob∧ob.cls= .type "module"∧ob.dict=some builtinsNs∧ob.data= .plain)
    (F:∀base:Heap,K.In base→base.Ns mainGlobals mg→NestB base mg c T→FnOk P w K mg base CX0 k fa fd [x] sp) (hbind:∀(s:Shared) (u:Value),BindsTo s fd ⟨[u],[]⟩ [(x,u)])
    (hsp:∀H:Hp,Tb [(T,q)] H→SqL K H a (ns.map V.int)→sp [.ref a] H (fun v _=>v= .bl true) fun _ _ _=>False):
    codeAny (model P w) callerA (.call (.ref fa) ⟨[.ref a],[]⟩) (fun r s'=>r= .ok (.ret (.bool true))∧OldK s₁.heap s'.heap∧s'.os=s₁.os∧AllBare s'.gens) s₁:=by
  have rv:=vals_ints hi
  have lenV:=hi.length
  have aT:a≠T:=fun z=>by rw[z,hT] at ha;cases ha
  have core : ∀o:Option HO,(o=none∨o=some (.frz {cls:= .type "list",data:= .seq vs.toArray} (.lst (ns.map V.int))))→SqL K (H0T a o T q) a (ns.map V.int)→(o≠none→K.lookup a=none)→
      codeAny (model P w) callerA (.call (.ref fa) ⟨[.ref a],[]⟩) (fun r s'=>r= .ok (.ret (.bool true))∧OldK s₁.heap s'.heap∧s'.os=s₁.os∧AllBare s'.gens) s₁:=by
    intro o ho hS hK
    have hH:∀b u,H0T a o T q b=some u→(b=T∧u= .tbl #[.str q 0])∨(b=a∧u= .frz {cls:= .type "list",data:= .seq vs.toArray} (.lst (ns.map V.int))∧o≠none):=fun b u z=>by
      unfold H0T at z
      by_cases h1:b=T
      · rw[if_pos h1] at z;cases z;exact .inl ⟨h1,rfl⟩
      · rw[if_neg h1] at z
        by_cases h2:b=a
        · rw[if_pos h2] at z
          rcases ho with ho |ho
          · rw[ho] at z;cases z
          · rw[ho] at z;cases z;exact .inr ⟨h2,rfl,by rw[ho];simp⟩
        · rw[if_neg h2] at z;cases z
    have hok:HOk P w (H0T a o T q) s₁.heap:=fun b u z=>by
      rcases hH b u z with⟨rfl,rfl⟩ |⟨rfl,rfl,_⟩
      · exact⟨#[],hT,trivial,fun p cv y=>by cases y⟩
      · exact⟨ha,by rw[List.length_map];exact hl,vs,_,rv,ha⟩
    have tb:Tb [(T,q)] (H0T a o T q):=fun p hp=>by
      have e:p=(T,q):=by simpa using hp
      subst e
      exact⟨#[.str q 0],0,if_pos rfl,rfl⟩
    have base_of:∀{b:Addr} {u:Obj},s₁.heap.get? b=some u→H0T a o T q b=none→(hidT s₁.heap (H0T a o T q)).get? b=some u:=fun e n=>hidT_get e n
    have free:∀{b:Addr} {u:Obj},s₁.heap.get? b=some u→u.cls≠.type "list"→u.cls≠.none→H0T a o T q b=none:=fun {b u} e n1 n2=>by
      cases z:H0T a o T q b with
      |none=>rfl
      | some y=>
        rcases hH b y z with⟨rfl,_⟩ |⟨rfl,_,_⟩
        · rw[hT] at e;cases e;exact absurd rfl n2
        · rw[ha] at e;cases e;exact absurd rfl n1
    have freeD:∀{b:Addr} {u:Obj} {es:Array DictEntry} {ep:Nat},s₁.heap.get? b=some u→u.data= .dict es ep→H0T a o T q b=none:=fun {b u es ep} e d=>by
      cases z:H0T a o T q b with
      |none=>rfl
      | some y=>
        rcases hH b y z with⟨rfl,_⟩ |⟨rfl,_,_⟩
        · rw[hT] at e;cases e;cases d
        · rw[ha] at e;cases e;cases d
    have nsK:∀{b:Addr} {m:Str→Option Value},s₁.heap.Ns b m→(hidT s₁.heap (H0T a o T q)).Ns b m:=fun {b m} ⟨u,es,ep,e,d,r⟩=>⟨u,es,ep,base_of e (freeD e d),d,r⟩
    have hKb:K.In (hidT s₁.heap (H0T a o T q)):=fun b u e=>base_of (KX b u e) (by
      cases z:H0T a o T q b with
      |none=>rfl
      | some y=>
        rcases hH b y z with⟨rfl,_⟩ |⟨rfl,_,no⟩
        · have e1:=KX b u e
          rw[hT] at e1;cases e1
          have h2:=List.all_eq_true.mp hnt (b,PySem.W.tabObj #[]) (PySem.W.mem_of_lookupK e)
          exact absurd (show false=true from h2) Bool.false_ne_true
        · rw[hK no] at e;cases e)
    have hM:Mod K mg (hidT s₁.heap (H0T a o T q)):=⟨hKb,nsK hns,⟨mb,nsK hb,hbb⟩,let ⟨mc,h1,h2⟩:=hlim;⟨mc,nsK h1,h2⟩⟩
    have nb:NestB (hidT s₁.heap (H0T a o T q)) mg c T:=by
      refine⟨?_,?_⟩
      · obtain⟨oc,v,file,tf,flags,tg,inF,text,tt,e1,e2,r⟩:=hC
        exact⟨oc,v,file,tf,flags,tg,inF,text,tt,base_of e1 (free e1 (by rw[e2];nofun) (by rw[e2];nofun)),e2,r⟩
      · obtain⟨bm,ob,b1,b2,b3,b4,r⟩:=hbm
        exact⟨bm,ob,b1,b2,base_of b3 (free b3 (by rw[b4];nofun) (by rw[b4];nofun)),b4,r⟩
    have e0:Env0 P w K mg (hidT s₁.heap (H0T a o T q)) callerA [] s₁ (H0T a o T q):=⟨rfl,hM,fun b o e=>of_hidT e,Nat.le_of_eq (hidT_size _ _),trivial,fun b hb=>absurd (show b∈([]:List Addr) from hb) (by simp),hok,.of_eq hg⟩
    refine codeAny_mono ((F _ hKb (nsK hns) nb).run callerA [] s₁ (H0T a o T q) ⟨[.ref a],[]⟩ [.ref a] [.ref a] _ _ hr e0 (hbind s₁ (.ref a)) (.cons rfl .nil) (hsp _ tb hS)) fun r s' h=>?_
    cases r with
    |error e=>exact h.elim
    | ok fl =>
      cases fl with
      |next=>exact False.elim h
      |brk=>exact False.elim h
      |cont=>exact False.elim h
      | ret u =>
        obtain⟨v,H',os,bare,un,hok',r',z⟩:=h
        have z:v= .bl true:=z
        subst z
        obtain rfl:u=Value.bool true:=r'
        have each:∀b o,s₁.heap.get? b=some o→s'.heap.get? b=some o∨(b=T∧o=PySem.W.tabObj #[]∧∃qs,s'.heap.get? b=some (PySem.W.tabObj qs)):=fun b ob e=>by
          cases z:H0T a o T q b with
          |none=>exact .inl (un.keep b ob e z (by intro y;exact absurd (show b∈([]:List Addr) from y) (by simp)) (by simp))
          | some y=>
            rcases hH b y z with⟨rfl,rfl⟩ |⟨rfl,rfl,_⟩
            · obtain⟨more,z2⟩:=un.tbls _ _ z
              obtain⟨qs,e2,_⟩:=hok' _ _ z2
              rw[hT] at e;cases e
              exact .inr ⟨rfl,rfl,qs,e2⟩
            · have z2:=un.frzs _ _ _ z
              obtain⟨e1,_⟩:=hok _ _ z
              obtain⟨e2,_⟩:=hok' _ _ z2
              rw[e] at e1;cases e1
              exact .inl e2
        refine⟨rfl,⟨fun b ob e=>?_,fun b ob e=>?_⟩,os,bare⟩
        · rcases each b ob e with z |⟨rfl,rfl,qs,z⟩
          · exact .inl z
          · exact .inr (.inl ⟨(hC.tab hT).isCodeTable,rfl,#[],qs,rfl,by rw[Array.empty_append];exact z⟩)
        · rcases each b ob e with z |⟨rfl,rfl,qs,z⟩
          · exact⟨_,z⟩
          · exact⟨_,z⟩
  cases hk:K.lookup a with
  | some o=>
    have e:=KX a o hk
    rw[ha] at e
    cases e
    exact core none (.inl rfl) (.inr ⟨_,vs.toArray,_,hk,rfl,rfl,rfl,by rw[List.size_toArray,lenV];exact hl,by simpa using rv⟩) fun z=>absurd rfl z
  |none=>exact core _ (.inr rfl) (.inl (.inr ⟨_,(if_neg aT).trans (if_pos rfl)⟩)) fun _=>hk
noncomputable def CodeIs (K:PySem.W.Frag) (mg:Str→Option Value) (x:Str) (c:Addr):Prop:=∀f oc od fd osl,mg x=some (.ref f)→K.lookup f=some ⟨oc,od,.func fd,osl⟩→fd.code= .ref c
theorem walkT {l:PySem.W.OpenLaw} {n k:Nat} {p:Program} {loose:List Str} {XP:(Str→Option Value)→Heap→Prop} {YP:World→Heap→Prop} {d:DefRec} {K:Params→PySem.W.Frag} {x y q:Str} {FL:List D→R D}
    (hn:l.most=some n) (hn2:n≤sizeLine) (hdf:d.params.defaults=[]) (hr:Room k callerA)
    (hY:∀(w:World) (h:Heap),YP w h→(K w.params).In h) (hnt:∀w:World,PySem.W.noTabs (K w.params)=true) (hrec:∃dy∈recsOf p,dy.name=y)
    (F:∀(w:World) (mg:Str→Option Value) (fa:Addr) (h:Heap),(K w.params).In h→h.Ns mainGlobals mg→mg d.name=some (.ref fa)→
      ∃ fd:FuncData,(∀(s:Shared) (u:Value),BindsTo s fd ⟨[u],[]⟩ [(x,u)])∧
        ∀(base:Heap) (c T:Addr),(K w.params).In base→base.Ns mainGlobals mg→NestB base mg c T→CodeIs (K w.params) mg y c→FnOk l.prog w (K w.params) mg base CX0 k fa fd [x] (spT [(T,q)] (K w.params) 1 FL))
    (hL:∀ns:List Int,ns.length≤n→FL [.lst (ns.map D.int)]= .ok (.bl true)):
    PySem.W.WalkO p loose XP YP l.row.toRowW d [] (fun f vs=>PySem.call f vs):=by
  refine Att.attach_call hn hdf fun w s₀ s₁ mg mb fa o pm cd doc a vs ns G Y ho hd hcd hmg hobj hints hlen hg=>?_
  have KX:=hY w _ Y
  obtain⟨fd,hb,hF⟩:=F w mg fa _ KX G.T.g hmg
  obtain⟨dy,hdy,rfl⟩:=hrec
  obtain⟨f',o',fd',c,T,t1,t2,t3,t4,t5,t6⟩:=G.T.tab dy hdy
  have hci:CodeIs (K w.params) mg dy.name c:=fun f oc od fd2 osl e1 e2=>by
    rw[t1] at e1;cases e1
    have e3:=KX _ _ e2
    rw[t2] at e3;cases e3
    cases t3
    exact t4
  exact law_callT (q:=q) KX G.T.g G.T.b G.T.builtins G.T.nolimit hg hobj hints (Nat.le_trans hlen hn2) hr (PySem.W.CodeHd.of t5 t6) t6.2 (hnt w) G.T.bmain (fun base h1 h2 h3=>hF base c T h1 h2 h3 hci) hb fun H tb hS=>⟨tb,sp_law hS (hL ns hlen)⟩
end Pu
namespace Pu
open PySem PySem.Spec L2
open PyProof.Rows hiding St
section
variable {X:Cx} {e lo hi:Expr} {f g:Rho→R D} {fl fu:Rho→R (Option Int)} {pos p2 p3 p4:Pos}
noncomputable def sliceLD (d:D) (lo hi:Option Int):R D:=match d with
  | .lst ds=> .ok (.lst (cutL ds lo hi))
  |_=> .bad
theorem pe_revL {kk} {te:TE} (he:PE X e te):PE X (.Subscript e (.Slice none none (some (.UnaryOp .USub (.Constant (.int 1) kk p3) p4)) p2) pos) (fun σ H Q=>te σ H fun x H1=>∃a xs,x= .ref a∧SqL X.K H1 a xs∧∀p,H1 p=none→Q (.ref p) (upd H1 p (.lst xs.reverse))):=by
  intro pins s σ H Q I h
  refine Subscript_ (thn (he pins s σ H _ I h) fun v s1 hpz1=>?_)
  obtain⟨x,H1,I1,r1,q1⟩:=hpz1
  obtain⟨a,xs,rfl,hq,q⟩:=q1
  cases r1
  refine wpAny_Slice ?_
  rw[evalPart_none,evalPart_some]
  refine wpAny_pure (wpAny_pure ?_)
  refine thn (pe_un (X:=X) un_neg pe_int pins s1 σ H1 (fun y H2=>y= .int (-1)∧H2=H1) I1 ⟨1,rfl,rfl,rfl⟩) fun vs s2 hpz1=>?_
  obtain⟨y,H2,I2,r2,ey,eH⟩:=hpz1
  subst ey
  subst eH
  obtain⟨t,rfl⟩:=r2
  have I4:Inv X pins σ H2 {s2 with heap:=s2.heap.push {cls:= .type "slice",data:= .fields #[.none,.none,.int (-1) t]}}:=I2.kept (t':=s2.toks) fun b ob q=>Heap.get?_push_of_some _ q
  obtain⟨its,rv,ht,hz⟩:=I4.list hq
  have hlen:=rv.length
  show wpAny (model X.prog X.w) X.A (subscriptTail e (.Slice none none (some (.UnaryOp .USub (.Constant (.int 1) kk p3) p4)) p2) (.ref a) (.ref s2.heap.objs.size)) (EP X pins σ Q) X.xe {s2 with heap:=s2.heap.push {cls:= .type "slice",data:= .fields #[.none,.none,.int (-1) t]}}
  refine tail_any (ops:=[.ref a,.ref s2.heap.objs.size]) ht.isList.typeIs slot_list_getitem.lookup (wpAny_getItem_list_slice ht.isList (Heap.IsSliceOf.new ..) .none .none (.int (-1) t) (by simp) ?_ (by rw[List.size_toArray];omega)) (by with_unfolding_all rfl)
  rw[PySem.W.krv_pick]
  refine⟨.ref _,_,I4.laid (t':=s2.toks) (o:= .lst xs.reverse) (fun b ob q=>Heap.get?_push_of_some _ q) (Nat.le_refl _) ?_,rfl,q _ (I4.hok.fresh (Nat.le_refl _))⟩
  exact⟨by rw[List.length_reverse];exact hz,its.reverse,0,Vals.rev rv,(by have e:its.toArray.toList.reverse=its.reverse:=(by simp);rw[e];exact Heap.get?_push_size _ rfl)⟩
noncomputable def revLD:D→R D
  | .lst ds=> .ok (.lst ds.reverse)
  |_=> .bad
noncomputable def revLV (f:Rho→R D):Rho→R D:=fun ρ=>(f ρ).bind revLD
theorem de_revL {kk} (he:DE X e f):DE X (.Subscript e (.Slice none none (some (.UnaryOp .USub (.Constant (.int 1) kk p3) p4)) p2) pos) (revLV f):=by
  refine PE.imp (pe_revL he) fun σ H Q h=>?_
  obtain⟨ρ,O,j,h⟩:=h
  refine go j h fun d v H1 e1 s1 r1 j1 h1=>?_
  cases d with
  | lst ds=>
    obtain⟨a,xs,rfl,hq,hn,rs⟩:=r1.lst
    exact⟨a,xs,rfl,hq,fun p hp=>h1 _ _ (Same.upd hp) (Rep.new_lst hp (j1.notO hp) rs.reverse)⟩
  |_=>exact h1.elim
noncomputable def ixO (i:Nat) (f:Rho→R D):Rho→R D:=fun ρ=>match ρ[i]? with
  |some (some (.lst ds))=>(f ρ).bind fun d=>ixD (.lst ds) d
  |_=> .bad
theorem de_ixO (i:Nat) {x:Str} {px:Pos} (hb:DE X e f) (hs:PlainIx e:=by exact fun _ _=>rfl) (hN:X.N[i]?=some x:=by rfl) (hv:Vis X.env.scope x:=by first |exact Or.inl rfl |exact Or.inr (Or.inl rfl) |exact Or.inr (Or.inr rfl))
    (hd:(x ==("__debug__" :Str))=false:=by decide) (hcd:(x ==("__classdict__" :Str))=false:=by decide):DE X (.Subscript (.Name x px) e pos) (ixO i f):=by
  refine PE.imp (pe_ix ix_seq (pe_var hN hv hd hcd) hb hs) fun σ H Q h=>?_
  obtain⟨ρ,O,j,h⟩:=h
  unfold ixO at h
  split at h
  · rename_i ds q
    obtain⟨v,hv1,a,xs,rfl,hO,hH,rs⟩:=j.env.get i _ q
    refine⟨.ref a,hv1,?_⟩
    refine go j h fun d y H1 e1 s1 r1 j1 h1=>?_
    cases d with
    | int k=>
      have h':good X (rD X) O (match L2.atI ds k with |some d=>R.ok d |none=>R.bad) σ H1 Q:=h1
      cases e2:L2.atI ds k with
      |none=>rw[e2] at h';exact h'.elim
      | some d=>
        rw[e2] at h'
        obtain⟨v,e3,rv⟩:=(rs.same s1).atI e2
        exact .inl ⟨a,xs,k,v,rfl,r1.int,SqL.of (s1 _ _ hH),e3,fin h' rv⟩
    |_=>exact h1.elim
  · exact h.elim
end
section
variable {X:Cx} {pos:Pos}
noncomputable def appM (i k:Nat):Rho→So:=fun ρ=>match ρ[i]?,ρ[k]? with
  |some (some (.lst ds)),some (some (.lst es))=>if ds.length < 1000000 then .nx ((ρ.set i (some (.lst (ds++[.lst es])))).set k (some (.val (.lst es)))) else .bad
  |_,_=> .bad
theorem At.give {H0 H:Hp} {O0 O:Addr→Prop} {ρ:Rho} {σ:St} (j:At X H0 O0 O H ρ σ) {k:Nat} {es:List D} {b:Addr} (hk:ρ[k]?=some (some (.lst es))) (hb:σ[k]?=some (some (.ref b))):
    At X H0 O0 (fun a=>O a∧a≠b) H (ρ.set k (some (.val (.lst es)))) σ∧Rch X.K O H (fun a=>O a∧a≠b) H:=by
  obtain⟨hH0,hO0⟩:=j.mine k _ b hk rfl hb
  have rc:Rch X.K O H (fun a=>O a∧a≠b) H:=⟨⟨fun _ _ z=>z,fun _ _ _ z=>z⟩,fun a z=> .inl z.1,fun _ z=>z⟩
  have hkl:k < ρ.length:=(List.getElem?_eq_some_iff.mp hk).1
  obtain⟨v,hv,b',xs,e1,hO,hH,rs⟩:=j.inn.env.get k _ hk
  rw[hb] at hv;cases hv;cases e1
  refine⟨⟨j.same,j.rch.trans rc,fun a z=>⟨j.sub a z,fun e=>hO0 (e▸z)⟩,⟨⟨fun m e q=>?_,fun m l e e' u hml hm hl om ol sm sl=>?_⟩,fun a z=>j.inn.al a z.1,j.inn.len,by rw[List.length_set];exact j.inn.lenR⟩,fun m e a q ho hs=>?_⟩,rc⟩
  · by_cases hmk:m=k
    · subst hmk
      rw[List.getElem?_set_self hkl] at q;cases q
      exact⟨_,hb,rep_lst (SqL.of hH) (fun z=>z.2 rfl) (rs.go rc)⟩
    · rw[List.getElem?_set_ne (Ne.symm hmk)] at q
      obtain⟨v,q1,q2⟩:=j.inn.env.get m e q
      refine⟨v,q1,?_⟩
      have nb:e.own=true→v≠.ref b:=fun oe z=>by subst z;exact j.inn.env.sep m k _ _ _ hmk q hk oe rfl q1 hb
      cases e with
      |val d=>exact Rep.go rc q2
      |obj t=>exact q2
      | lst ds=>
        obtain⟨a,ys,e2,o2,h2,r2⟩:=q2
        exact⟨a,ys,e2,⟨o2,fun z=>nb rfl (by rw[e2,z])⟩,h2,r2.go rc⟩
      | dic kvs=>
        obtain⟨a,ys,e2,o2,h2,kk,r2⟩:=q2
        exact⟨a,ys,e2,⟨o2,fun z=>nb rfl (by rw[e2,z])⟩,h2,kk,r2.go rc⟩
  · have un:∀{m:Nat} {x:Ent},(ρ.set k (some (.val (.lst es))))[m]?=some (some x)→x.own=true→ρ[m]?=some (some x):=fun {m x} h ho=>by
      by_cases hmk:m=k
      · subst hmk;rw[List.getElem?_set_self hkl] at h;cases h;cases ho
      · rw[List.getElem?_set_ne (Ne.symm hmk)] at h;exact h
    exact j.inn.env.sep m l e e' u hml (un hm om) (un hl ol) om ol sm sl
  · by_cases hmk:m=k
    · subst hmk;rw[List.getElem?_set_self hkl] at q;cases q;cases ho
    · rw[List.getElem?_set_ne (Ne.symm hmk)] at q;exact j.mine m e a q ho hs
theorem ds_appM (i k:Nat) {x y:Str} {px py apos cpos:Pos} (hik:i≠k) (hN:X.N[i]?=some x:=by rfl) (hNk:X.N[k]?=some y:=by rfl) (hv:Vis X.env.scope x:=by first |exact Or.inl rfl |exact Or.inr (Or.inl rfl) |exact Or.inr (Or.inr rfl)) (hvk:Vis X.env.scope y:=by first |exact Or.inl rfl |exact Or.inr (Or.inl rfl) |exact Or.inr (Or.inr rfl))
    (hd:(x ==("__debug__" :Str))=false:=by decide) (hcd:(x ==("__classdict__" :Str))=false:=by decide) (hdk:(y ==("__debug__" :Str))=false:=by decide) (hcdk:(y ==("__classdict__" :Str))=false:=by decide)
    (hbase:attributeBase (.Name x px) "append" X.env (eval (.Name x px) X.env)=eval (.Name x px) X.env:=by rfl)
    (hfew:((backTo cpos (starEach [.Name y py] X.env)).all (fun x=> !x.1) && (backToKw cpos (keywordEach [] X.env)).all (fun x=>x.1.isSome)
      && decide ([Expr.Name y py].length+([]:List Keyword).length+(if ([]:List Keyword).isEmpty then 0 else 1) < 30))=true:=by rfl)
    (hline:(apos.endLine ==cpos.line)=true:=by rfl) (hs1:starEach [.Name y py] X.env=(false,eval (.Name y py) X.env)::starEach [] X.env:=by rfl) (hplain:(backTo cpos (starEach [] X.env)).any (·.1)=false:=by rfl)
    (hs:swapsWith (.Call (.Attribute (.Name x px) "append" apos) [.Name y py] [] cpos) none pos.line X.env=pure false:=by rfl):
    DS X (.Expr (.Call (.Attribute (.Name x px) "append" apos) [.Name y py] [] cpos) pos) (appM i k):=by
  refine PS.imp (ps_expr (pe_bm PySem.F.plainAttrs_list PySem.F.slot_list_append PySem.F.type_list_append mt_append (pe_var hN hv hd hcd) (pa_cons (pe_var hNk hvk hdk hcdk) pa_nil hs1) hbase hfew hline hs1 hplain) hs) fun σ H E h=>?_
  obtain⟨H0,O0,O,ρ,j,h⟩:=h
  unfold appM at h
  split at h
  · rename_i ds es q1 q2
    by_cases hl:ds.length < 1000000
    · rw[if_pos hl] at h
      obtain⟨v,hv1,a,xs,rfl,hO,hH,rs⟩:=j.inn.env.get i _ q1
      obtain⟨v,hv2,b,ys,rfl,hO2,hH2,rs2⟩:=j.inn.env.get k _ q2
      have hab:a≠b:=fun z=>j.inn.env.sep i k _ _ _ hik q1 q2 rfl rfl hv1 (by rw[z];exact hv2)
      refine⟨.ref a,hv1,.inl ⟨rfl,xs,SqL.of hH⟩,.ref b,hv2,?_⟩
      have hlen:=rs.length
      refine⟨a,xs,.ref b,rfl,rfl,hH,by have:=sizeLine_gt;omega,?_⟩
      obtain⟨j1,r1⟩:=j.give q2 hv2
      have q1':(ρ.set k (some (.val (.lst es))))[i]?=some (some (.lst ds)):=by rw[List.getElem?_set_ne (Ne.symm hik)];exact q1
      obtain⟨j2,r2⟩:=j1.chg (o:= .lst (xs++[.ref b])) (en:= .lst (ds++[.lst es])) q1' rfl hv1 ⟨hO,hab⟩ hH trivial rfl fun r=>⟨a,xs++[.ref b],rfl,⟨hO,hab⟩,upd_same,by
        have z1:Reps X.K (fun c=>O c∧c≠b) H (ds++[.lst es]) (xs++[.ref b]):=(rs.go r1).append (.cons (rep_lst (SqL.of hH2) (fun z=>z.2 rfl) (rs2.go r1)) .nil)
        exact z1.go r⟩
      rw[List.set_comm _ _ (Ne.symm hik)] at j2
      exact h _ _ _ j2 (r1.trans r2)
    · rw[if_neg hl] at h;exact h.elim
  · exact h.elim
end
section
open PySem
theorem list_iaddW (l b:Addr) (items:Array Value) (n:Nat) (items2:Array Value) (n2:Nat) (dd:Option Addr) (sl:Array (Option Value)) (hs0:¬(!items.isEmpty && Builtin.List.listTooLong (items.size+items2.size))=true) (hs1:items.size≤sizeLine) (hs2:items.size+items2.size≤sizeLine+1):
    Meets (Builtin.«list.__iadd__» ⟨[.ref l,.ref b],[]⟩) (fun _ R s=>s.heap.get? l=some {cls:= .type "list",dict:=none,data:= .seq items n,slots:= #[]}∧s.heap.get? b=some {cls:= .type "list",dict:=dd,data:= .seq items2 n2,slots:=sl}∧R (.ok (.ret (Value.ref l))) {s with heap:=s.heap.update l (Obj.mapSeq fun x=>x++items2),toks:=s.toks}):=
  .of_wp fun prog w A R s h=>by
    obtain⟨hp,g,d,tk,os⟩:=s;obtain⟨hl,hb,h⟩:=h;have f1:=AutoSeq1.idx_int;have f2:=AutoSeq1.sub_tuple_tuple;have f3:=AutoSeq1.sub_list_list;have f4:=AutoSeq1.sub_tuple_list;have f5:=AutoSeq1.sub_list_tuple;
    have hz':(items++items2).size≤sizeLine+1:=by rw[Array.size_append];exact hs2
    wp_walk using (wpAny_updateSeq hl rfl (hz:=hs1) (_hz':=hz')),wpAny_loadPart' hl,wpAny_loadPart' hb;exact⟨_,rfl,h⟩
end
section
variable {X:Cx} {e:Expr} {f:Rho→R D} {pos:Pos}
theorem ip_list:PIp X .Add (fun x y H Q=>∃a b xs ys,x= .ref a∧y= .ref b∧H a=some (.lst xs)∧SqL X.K H b ys∧xs.length+ys.length≤1000000∧Q (.ref a) (upd H a (.lst (xs++ys)))):=by
  intro pins s σ H x y v u Q I rx ry h
  obtain⟨a,b,xs,ys,rfl,rfl,ha,hb,hz,q⟩:=h
  cases rx
  cases ry
  obtain⟨its,n,r,ho,hzl⟩:=I.lst ha
  obtain⟨its2,r2,p2,hz2⟩:=I.list hb
  obtain⟨⟨cls2,dd2,data2,sl2⟩,ho2,hc2,n2,hd2⟩:=id p2.isList
  simp only at hc2 hd2
  subst hc2 hd2
  have l1:=r.length
  have l2:=r2.length
  have hsl:=sizeLine_gt
  have hT:s.TypeIs (.ref a) "list" :=⟨_,ho,rfl⟩
  have hT2:s.TypeIs (.ref b) "list" :=⟨_,ho2,rfl⟩
  unfold inplaceOp
  refine wpAny_holding ?_
  have hfi:fillsInplaceSlot (.type "list") "add" (Operator.Add == .Add)=pure false:=by
    unfold fillsInplaceSlot
    show (typeLookup (.type "list") (dunderI "add") >>=fun fi=>pure (fi.isSome && !isSeqSlot fi))=pure false
    rw[PySem.F.slot_list_iadd.lookup,pure_bind,show isSeqSlot (some (.builtin "list.__iadd__"))=true from by decide +kernel];rfl
  refine wpAny_bind (wpAny_typeOf hT (wpAny_bind (wpAny_of_eq hfi ?_)))
  show wpAny _ _ (if false=true then _ else _) _ _ s
  rw[if_neg Bool.false_ne_true]
  refine wpAny_bind (binaryOp1_none (nm:= "add") hT hT2 PySem.noFill_list_add ?_)
  refine wpAny_bind (wpAny_of_eq (PySem.seqSlot_of (T:= "list") (name:=dunderI "add") (id:= "list.__iadd__") PySem.F.slot_list_iadd.lookup (by decide +kernel)) ?_)
  refine wpAny_bind (wpAny_rule ?_)
  refine call_meets PySem.F.slot_list_iadd hT PySem.F.entry_list_iadd (PySem.F.args_list_iadd_2 _ _) (list_iaddW a b its.toArray n its2.toArray n2 dd2 sl2 ?_ (by rw[List.size_toArray];omega) (by rw[List.size_toArray,List.size_toArray];omega)) ⟨ho,ho2,?_⟩
  · rw[List.size_toArray,List.size_toArray]
    have:Builtin.List.listTooLong (its.length+its2.length)=false:=by unfold Builtin.List.listTooLong;exact decide_eq_false (by omega)
    rw[this];simp
  · refine⟨.ref a,upd H a (.lst (xs++ys)),I.lset (its':=its++its2) ha ho (by simp) (r.append r2) (by rw[List.length_append];omega),rfl,q⟩
noncomputable def augL (i:Nat) (f:Rho→R D):Rho→So:=fun ρ=>match ρ[i]? with
  | some (some (.lst ds))=>ofR (noE (f ρ)) ρ fun d=>match d with
    | .lst es=>if ds.length+es.length≤1000000 then .nx (ρ.set i (some (.lst (ds++es)))) else .bad
    |_=> .bad
  |_=> .bad
theorem ds_augL (i:Nat) {x:Str} {pos':Pos} (hN:X.N.Nodup) (he:DE X e f) (hi:X.N[i]?=some x:=by rfl) (hx:Loc X.env.scope x:=by first |exact Or.inl rfl |exact Or.inr rfl)
    (hf:X.fn x=true∨X.env.scope.names.lookup x=some .local:=by first |exact .inl rfl |exact .inr rfl):DS X (.AugAssign (.Name x pos') .Add e pos) (augL i f):=by
  refine PS.imp (ps_aug hN hi hx he ip_list hf) fun σ H E h=>?_
  obtain⟨H0,O0,O,ρ,j,h⟩:=h
  unfold augL at h
  split at h
  · rename_i ds q
    obtain⟨v,hv1,a,xs,rfl,hO,hH,rs⟩:=j.inn.env.get i _ q
    refine⟨.ref a,hv1,ρ,O,j.inn,?_⟩
    unfold ofR at h
    cases e1:f ρ with
    |bad=>rw[e1] at h;exact h.elim
    |err c=>rw[e1] at h;exact h.elim
    | ok d =>
      rw[e1] at h
      intro w H1 s1 rw1
      cases d with
      | lst es=>
        have h:fol X H0 O0 O H E (if ds.length+es.length≤1000000 then .nx (ρ.set i (some (.lst (ds++es)))) else .bad):=h
        by_cases hl:ds.length+es.length≤1000000
        · rw[if_pos hl] at h
          have j1:=j.grow s1
          obtain⟨b,ys,rfl,hb,hnb,rs2⟩:=rw1.lst
          have rs1:=rs.same s1
          have hH1:=s1 _ _ hH
          refine⟨a,b,xs,ys,rfl,rfl,hH1,hb,by rw[←rs1.length,←rs2.length];exact hl,?_⟩
          obtain⟨j2,r2⟩:=j1.chg (o:= .lst (xs++ys)) (en:= .lst (ds++es)) q rfl hv1 hO hH1 trivial rfl fun r=>⟨a,xs++ys,rfl,hO,upd_same,(rs1.append rs2).go r⟩
          have eσ:σ.set i (some (V.ref a))=σ:=by
            apply List.ext_getElem?
            intro m
            by_cases hm:m=i
            · subst hm;rw[List.getElem?_set_self (List.getElem?_eq_some_iff.mp hv1).1,hv1]
            · rw[List.getElem?_set_ne (Ne.symm hm)]
          rw[eσ]
          exact h _ _ _ j2 ((Same.rch s1).trans r2)
        · rw[if_neg hl] at h;exact h.elim
      |_=>exact h.elim
  · exact h.elim
end
end Pu
namespace Pu
open PySem PySem.Spec L2
open PyProof.Rows hiding St
noncomputable def Its (lo:Int) (n:Nat) (c:Int):It:=⟨fun i _=>i < n,fun i H x H'=>H'=H∧x= .int (lo+i*c),fun i _=>n≤i⟩
theorem turn_step {P:Program} {w:World} {K:PySem.W.Frag} {tg:Expr} (it:Addr) (lo:Int) (n:Nat) (c:Int):Turn P w K tg (Its lo n c) [it] it (fun i h=>IsRangeIter h it (lo+(i:Nat)*c) ((n:Int) - (i:Nat)) c) where
  mem:=by simp
  obj :=fun i h st b hb=>by
    have e:b=it:=by simpa using hb
    subst e
    exact⟨_,st,fun v z=>by
      have z':Data.fields _=Data.cell v:=z
      cases z'⟩
  keep:=fun i h h' st k=>k it (by simp) _ st
  item:=by
    intro X hP hw hK hc i pins s σ H E I hf st hg
    subst hP hw hK
    obtain⟨f0,f1,f2,f3,f4,f5⟩:=hf it (by simp)
    have W:=Walks.range (prog:=X.prog) (w:=X.w) (I.ok.hd hc) it lo c n
    refine W.item i s _ _ hg st fun v h' tk hv st' kk=>?_
    obtain⟨t,rfl⟩:=hv
    have I1:Inv X pins σ H {s with heap:=h',toks:=tk}:=I.turned (fun b o hb e=>kk b o (by simpa using hb) e) f0 f1 f3 f4 f5
    exact⟨_,rfl,go_of (s:={s with heap:=h',toks:=tk}) (n:= "range_iterator") st' rfl rfl (by decide) ⟨.int (lo+i*c),H,I1,⟨t,rfl⟩,⟨rfl,rfl⟩,st',fun b hb=>(hf b hb).1⟩⟩
  done:=by
    intro X hP hw hK hc i pins s σ H E I hf st hg
    subst hP hw hK
    obtain⟨f0,f1,f2,f3,f4,f5⟩:=hf it (by simp)
    exact wpAny_pyNext_range_end (I.ok.hd hc) st (by have:n≤i:=hg;omega) fun h' eb=>⟨rfl,I.turned (t':=s.toks) (fun b o hb e=>eb b o hb e) f0 f1 f3 f4 f5⟩
  self:=fun _ _ _ _ _ st h=>wpAny_pyIter_rangeiter st h
noncomputable def downto (hi:Int) (n:Nat):List D:=(List.range n).map fun (i:Nat)=>D.int (hi - (i:Int))
theorem YR.step {K:PySem.W.Frag} {O:Addr→Prop} {H:Hp} (hi:Int) (n:Nat):YR K O H (Its hi n (-1)) (downto hi n):=by
  intro O' H' _
  intro i
  refine⟨fun d e=>?_,fun e=>?_⟩
  · unfold downto at e
    rw[List.getElem?_map] at e
    cases q:(List.range n)[i]? with
    |none=>rw[q] at e;cases e
    | some k=>
      rw[q] at e
      have hk:i < n∧i=k:=by simpa[List.getElem?_range] using (List.getElem?_eq_some_iff.mp q)
      obtain⟨h1,rfl⟩:=hk
      cases e
      refine⟨h1,fun x H2 y=>?_⟩
      obtain⟨rfl,rfl⟩:=y
      exact⟨Same.refl _,by rw[show hi+(i:Int)*(-1)=hi - (i:Int) by omega];exact rep_int _⟩
  · show n≤i
    unfold downto at e
    simpa using e
section
variable {X:Cx} {tg a b c:Expr} {p pos p2 pos2:Pos} {fa:Rho→R (List D)} {ta:TA}
noncomputable def rngDown:List D→R (List D)
  |[.int i,.int j,.int k]=>if k= -1∧-(2 ^ 62)≤i∧i < 2 ^ 62∧-(2 ^ 62)≤j∧j < 2 ^ 62 then .ok (downto i (i - j).toNat) else .bad
  |_=> .bad
end
section
variable {prog:Program} {w:World} {A:Around} {E:Value→Shared→Prop} {s:Shared}
theorem range_rev_meets (r:Addr) (j:Int) (t u v:Tok) (h0:0≤j) (h1:j≤1000):Meets (Builtin.«range.__reversed__» ⟨[.ref r],[]⟩) (fun _ R s=>IsRange s.heap r 0 j 1 t u v∧R (.ok (.ret (.ref s.heap.objs.size))) {s with heap:=s.heap.push {cls:= .type "range_iterator",data:= .fields #[rawInt (j - 1),rawInt j,rawInt (-1)]}}):=
  .of_wp fun prog w A R s h=>by
    obtain⟨hp,g,d,tk,os⟩:=s
    obtain⟨hr,h⟩:=h
    have e1:Builtin.Range.rangeSize 0 j 1=j:=by rw[rangeSize_one];split <;> omega
    have e2:(Builtin.Range.rangeFitsLong 0 && Builtin.Range.rangeFitsLong j && Builtin.Range.rangeFitsLong 1 && Builtin.Range.rangeFitsLong (-1) && Builtin.Range.rangeFitsLong (0 - 1) && Builtin.Range.rangeFitsLong j)=true:=by
      simp only[Builtin.Range.rangeFitsLong,Bool.and_eq_true,decide_eq_true_eq];omega
    have e3:(0:Int)+(j - 1)*1=j - 1:=by omega
    unfold Builtin.«range.__reversed__» Builtin.Range.rangeFields
    wp_walk using wpAny_loadPart' hr
    rw[e1]
    simp only[e2,e3,Bool.not_true,Bool.false_eq_true,if_false,if_true]
    unfold newFields
    refine wpAny_bind (wpAny_newObj_type (wpAny_pure ⟨_,rfl,h⟩) (by size_fits))
theorem sub_ri_reversed:isSubtype (.type "range_iterator") (.type "reversed")=pure false:=by rw[isSubtype_type];kernel_rfl
theorem code_reversedR {r:Addr} {j:Int} {t u v:Tok} {Q₁:Value→Shared→Prop} (h0:0≤j) (h1:j≤1000) (hr:IsRange s.heap r 0 j 1 t u v)
    (h:Q₁ (.ref s.heap.objs.size) {s with heap:=s.heap.push {cls:= .type "range_iterator",data:= .fields #[rawInt (j - 1),rawInt j,rawInt (-1)]}}):
    codeAny (model prog w) A (.call (.builtin "reversed.__new__") ⟨[.type "reversed",.ref r],[]⟩) (wants Q₁ E) s:=by
  have hT:s.TypeIs (.ref r) "range" :=⟨_,hr,rfl⟩
  refine codeAny_of_tree ?_
  show wpAny _ A.in1 (do checkBuiltinCall "reversed.__new__" ⟨[.type "reversed",.ref r],[]⟩;again (.builtin "reversed.__new__" ⟨[.type "reversed",.ref r],[]⟩)) _ _ s
  refine wpAny_bind (wpAny_of_eq (PySem.F.newCall_reversed_1 _) (wpAny_pure ⟨plainId_quiet PySem.F.plain_reversed_new _,codeAny_builtin PySem.F.entry_reversed_new ?_⟩))
  rw[Around.under_plainId PySem.F.plain_reversed_new _]
  unfold Builtin.«reversed.__new__»
  refine wpAny_bind (wpAny_of_eq (newClass_reversed _) ?_)
  try dsimp only
  refine wpAny_bind (wpAny_of_eq (a:=()) (by first |rfl |kernel_rfl) ?_)
  refine wpAny_bind (wpAny_of_eq (a:=()) (by first |rfl |kernel_rfl) ?_)
  try dsimp only
  refine wpAny_bind (wpAny_specialOf hT PySem.F.slot_range_reversed.lookup ?_)
  try dsimp only
  refine wpAny_bind (wpAny_of_eq (PySem.F.slot_range_reversed.bind _) ?_)
  try dsimp only
  first
  |rw [if_neg (show ¬((Value.builtin "range.__reversed__" ==Value.none)=true) from Bool.false_ne_true)]
  |(show wpAny _ _ (if (Value.builtin "range.__reversed__" ==Value.none)=true then _ else _) _ _ _;rw[if_neg (show ¬((Value.builtin "range.__reversed__" ==Value.none)=true) from Bool.false_ne_true)])
  refine wpAny_bind (wpAny_rule ?_)
  refine wpAny_bind (m:=runValue (.call (.builtin "range.__reversed__") ⟨[.ref r],[]⟩)) (show wpAny _ _ (call (.builtin "range.__reversed__") [.ref r]) _ _ _ from call_meets PySem.F.slot_range_reversed hT PySem.F.entry_range_reversed (PySem.F.args_range_reversed_1 _) (range_rev_meets r j t u v h0 h1) ⟨hr,?_⟩)
  first
  |exact wpAny_pure h
  |exact wpAny_bind (wpAny_pure (wpAny_pure h))
theorem call_reversedR {r:Addr} {j:Int} {t u v:Tok} {Q:Value→Shared→Prop} (h0:0≤j) (h1:j≤1000) (hr:IsRange s.heap r 0 j 1 t u v)
    (h:Q (.ref s.heap.objs.size) {s with heap:=s.heap.push {cls:= .type "range_iterator",data:= .fields #[rawInt (j - 1),rawInt j,rawInt (-1)]}}):wpAny (model prog w) A (call (.type "reversed") [.ref r]) Q E s:=by
  refine callType_other (U:= "range_iterator") (Q₁:=fun obj s₁=>obj= .ref s.heap.objs.size∧s₁={s with heap:=s.heap.push {cls:= .type "range_iterator",data:= .fields #[rawInt (j - 1),rawInt j,rawInt (-1)]}}) (by decide +kernel) PySem.F.create_reversed ⟨_,_,PySem.F.mro_reversed⟩ PySem.F.made_reversed sub_ri_reversed (PySem.F.typeCall_reversed_1 _) (code_reversedR h0 h1 hr ⟨rfl,rfl⟩) ?_
  rintro obj s₁ ⟨rfl,rfl⟩
  exact⟨⟨_,Heap.get?_push_size _ rfl,rfl⟩,h⟩
end
section
variable {X:Cx} {tg a:Expr} {p pos p2 pos2:Pos} {fa:Rho→R (List D)}
noncomputable def rvsR:List D→R (List D)
  |[.int j]=>if 0≤j∧j≤1000 then .ok (downto (j - 1) j.toNat) else .bad
  |_=> .bad
theorem di_revR (hg:Gl X "reversed") (hm:X.mg "reversed" =none) (hg2:Gl X "range") (hm2:X.mg "range" =none) (ha:DA X [a] fa) (hs:starEach [a] X.env=[(false,eval a X.env)]:=by rfl)
    (he:starEach [.Call (.Name "range" p2) [a] [] pos2] X.env=(false,eval (.Call (.Name "range" p2) [a] [] pos2) X.env)::starEach [] X.env:=by rfl) (hpl:(backTo pos (starEach [] X.env)).any (·.1)=false:=by rfl):
    DI X tg (.Call (.Name "reversed" p) [.Call (.Name "range" p2) [a] [] pos2] [] pos) (fun ρ=>(fa ρ).bind rvsR):=by
  intro pins s σ H R I h
  have A:=pa_cons (pe_rng (p:=p2) (pos:=pos2) hg2 hm2 ha hs) pa_nil he
  obtain⟨ρ,O,jn,h⟩:=h
  have key:tCons (tRng X.K (tG X (rDs X) fa)) tNil σ H (fun vs H1=>∃q j,vs=[.ref q]∧H1 q=some (.rng 0 j)∧0≤j∧j≤1000∧R (Its (j - 1) j.toNat (-1)) H1):=by
    refine go jn h fun ds vs H1 e1 s1 r1 j1 h1=>?_
    unfold rvsR at h1
    split at h1
    · rename_i j
      by_cases hh:0≤j∧j≤1000
      · rw[if_pos hh] at h1
        obtain⟨v,rfl,w⟩:=r1.one
        exact⟨j,by rw[w.int],hh.1,hh.2,fun q hq=>⟨q,j,rfl,upd_same,hh.1,hh.2,h1 _ _ (Same.upd hq) (YR.step _ _)⟩⟩
      · rw[if_neg hh] at h1;exact h1.elim
    · exact h1.elim
  refine Call_ (ld_blt I hg hm boot_reversed (PyProof.Rows.callWith_type1 (thn (A pos pins s σ H _ I key) fun us s1 ⟨vs,H1,I1,r1,q1⟩=>?_) he hpl))
  obtain⟨q,j,e,hq,h0,h1,q⟩:=q1
  subst e
  cases r1 with
  | cons r rr=>
    cases rr
    cases r
    obtain⟨t,u,v,hr⟩:=I1.hok _ _ hq
    refine call_reversedR h0 h1 hr ?_
    have hit:IsRangeIter (s1.heap.push {cls:= .type "range_iterator",data:= .fields #[rawInt (j - 1),rawInt j,rawInt (-1)]}) s1.heap.objs.size (j - 1) j (-1):=Heap.get?_push_size _ rfl
    refine wpAny_pyIter_rangeiter (s:={s1 with heap:=s1.heap.push {cls:= .type "range_iterator",data:= .fields #[rawInt (j - 1),rawInt j,rawInt (-1)]}}) hit ?_
    refine⟨s1.heap.objs.size,[s1.heap.objs.size],_,_,H1,rfl,I1.kept (t':=s1.toks) fun b o e=>Heap.get?_push_of_some _ e,turn_step _ (j - 1) j.toNat (-1),?_,fun b hb=>?_,q⟩
    · show IsRangeIter _ _ (j - 1+((0:Nat):Int)*(-1)) (((j.toNat:Nat):Int) - ((0:Nat):Int)) (-1)
      rw[show j - 1+((0:Nat):Int)*(-1)=j - 1 by simp,show ((j.toNat:Nat):Int) - ((0:Nat):Int)=j by omega]
      exact hit
    · have e:b=s1.heap.objs.size:=by simpa using hb
      subst e
      exact I1.fpOk (Nat.le_refl _) (I1.hok.fresh (Nat.le_refl _))
end
end Pu
namespace Pu
open PySem PySem.Spec PySem.W L2
open PyProof.Rows hiding St
noncomputable def ltL:List Int→List Int→Bool
  |[],[]=>false
  |[],_::_=>true
  |_::_,[]=>false
  |x::xs,y::ys=>if x=y then ltL xs ys else decide (x < y)
theorem ltL_irr:∀a:List Int,ltL a a=false
  |[]=>rfl
  |x::xs=>by rw[ltL,if_pos rfl];exact ltL_irr xs
theorem ltL_trans:∀{a b c:List Int},ltL a b=true→ltL b c=true→ltL a c=true
  |[],[],_,h,_=>by cases h
  |[],_::_,[],_,h=>by cases h
  |[],_::_,_::_,_,_=>rfl
  |_::_,[],_,h,_=>by cases h
  |_::_,_::_,[],_,h=>by cases h
  | x ::a,y::b,z::c,h1,h2=>by
    rw[ltL] at h1 h2 ⊢
    by_cases e1:x=y
    · rw[if_pos e1] at h1
      subst e1
      by_cases e2:x=z
      · rw[if_pos e2] at h2 ⊢;exact ltL_trans h1 h2
      · rw[if_neg e2] at h2 ⊢;exact h2
    · rw[if_neg e1] at h1
      have h1:x < y:=of_decide_eq_true h1
      by_cases e2:y=z
      · subst e2;rw[if_neg e1];exact decide_eq_true h1
      · rw[if_neg e2] at h2
        have h2:y < z:=of_decide_eq_true h2
        rw[if_neg (by omega)];exact decide_eq_true (by omega)
theorem ltL_tot:∀{a b:List Int},a≠b→ltL a b=false→ltL b a=true
  |[],[],h,_=>absurd rfl h
  |[],_::_,_,h=>by cases h
  |_::_,[],_,_=>rfl
  | x ::a,y::b,h,e=>by
    rw[ltL] at e ⊢
    by_cases e1:x=y
    · subst e1
      rw[if_pos rfl] at e ⊢
      exact ltL_tot (fun z=>h (by rw[z])) e
    · rw[if_neg e1] at e
      rw[if_neg (fun z=>e1 z.symm)]
      have e:¬x < y:=of_decide_eq_false e
      exact decide_eq_true (by omega)
section
variable {prog:Program} {w:World} {A:Around} {E:Value→Shared→Prop} {s:Shared}
theorem tup_lt_tree {a b:Addr} {oa ob:Obj} {xs ys:Array Value} {na nb:Nat} {ns ms:List Int} {P:PySem.Fin→Shared→Prop} (hoa:s.heap.get? a=some oa) (hda:oa.data= .seq xs na) (hob:s.heap.get? b=some ob) (hcb:ob.cls= .type "tuple") (hdb:ob.data= .seq ys nb)
    (hia:IntsAre xs.toList ns) (hib:IntsAre ys.toList ms) (h:P (.done (.ret (.bool (ltL ns ms)))) s):
    wpAny (model prog w) A (Builtin.«tuple.__lt__» ⟨[.ref a,.ref b],[]⟩) P E s:=by
  have hTb:s.TypeIs (.ref b) "tuple" :=⟨ob,hob,hcb⟩
  show wpAny _ _ (isInstance (.ref b) (.type "tuple") >>=_) _ _ s
  refine wpAny_bind (wpAny_isInstance hTb isSubtype_tuple_tuple ?_)
  simp only[Bool.not_true,Bool.false_eq_true,if_false]
  refine wpAny_bind (wpAny_tupleItemsOf hoa hda ?_)
  refine wpAny_bind (wpAny_tupleItemsOf hob hdb ?_)
  refine wpAny_bind ?_
  refine wpAny_forIn_list _
    (fun rest r s'=>r.1=none∧s'=s∧∃xs' ys' ns' ms',rest=List.zip xs' ys'∧IntsAre xs' ns'∧IntsAre ys' ms'∧ltL ns' ms'=ltL ns ms∧decide (xs'.length < ys'.length)=decide (xs.size < ys.size))
    _ ?_ ?_ _ _ ⟨rfl,rfl,xs.toList,ys.toList,ns,ms,rfl,hia,hib,rfl,by simp⟩
  · rintro ⟨u,v⟩ rest r s' ⟨hr,rfl,xs',ys',ns',ms',hz,hx',hy',hdec,hlen⟩
    cases hx' with
    |nil=>simp at hz
    | cons k1 t1 hx''=>
      cases hy' with
      |nil=>simp at hz
      | cons k2 t2 hy''=>
        simp only[List.zip_cons_cons,List.cons.injEq,Prod.mk.injEq] at hz
        obtain⟨⟨rfl,rfl⟩,rfl⟩:=hz
        refine wpAny_bind (wpAny_eqBool_int ?_)
        rw[ltL] at hdec
        by_cases hk:k1=k2
        · subst hk
          rw[if_pos rfl] at hdec
          simp only[beq_self_eq_true,Bool.not_true,Bool.false_eq_true,if_false]
          exact wpAny_pure ⟨rfl,rfl,_,_,_,_,rfl,hx'',hy'',hdec,by simpa using hlen⟩
        · rw[if_neg hk] at hdec
          have e:(k1 ==k2)=false:=by simpa using hk
          rw[e]
          simp only[Bool.not_false,if_true]
          rw[←hdec] at h
          refine wpAny_bind (wpAny_rule ?_)
          refine wpAny_bind (m:=richCompare .Lt (.int k1 t1) (.int k2 t2)) (show wpAny _ _ (compareOp .Lt (.int k1 t1) (.int k2 t2)) _ _ _ from lt_int ?_)
          first
            |exact wpAny_pure (wpAny_pure h)
            |exact wpAny_bind (wpAny_pure (wpAny_pure (wpAny_pure h)))
            |exact wpAny_bind (wpAny_pure (wpAny_pure h))
  · rintro⟨r1,r2⟩ s' ⟨hr,rfl,xs',ys',ns',ms',hz,hx',hy',hdec,hlen⟩
    simp only at hr
    subst hr
    refine wpAny_pure ?_
    have hfin:decide (xs.size < ys.size)=ltL ns ms:=by
      rw[←hdec,←hlen]
      cases hx' with
      | nil=>
        cases hy' with
        |nil=>rfl
        |cons _ _ _=>simp[ltL]
      | cons _ _ _=>
        cases hy' with
        |nil=>simp[ltL]
        |cons _ _ _=>simp at hz
    show P (.done (.ret (.bool (decide (xs.size < ys.size))))) s'
    rw[hfin];exact h
theorem lt_tups {a b:Addr} {oa ob:Obj} {xs ys:Array Value} {na nb:Nat} {ns ms:List Int} {Q:Value→Shared→Prop} (hu:A.units < cLine) (hoa:s.heap.get? a=some oa) (hca:oa.cls= .type "tuple") (hda:oa.data= .seq xs na) (hob:s.heap.get? b=some ob) (hcb:ob.cls= .type "tuple") (hdb:ob.data= .seq ys nb)
    (hia:IntsAre xs.toList ns) (hib:IntsAre ys.toList ms) (h:Q (.bool (ltL ns ms)) s):wpAny (model prog w) A (compareOp .Lt (.ref a) (.ref b)) Q E s:=by
  show wpAny _ _ (richCompare .Lt (.ref a) (.ref b)) _ _ _
  exact wpAny_richCompare_same_room (op:= .Lt) ⟨oa,hoa,hca⟩ ⟨ob,hob,hcb⟩ PySem.F.slot_tuple_lt
      (wpAny_call_entry PySem.F.slot_tuple_lt ⟨oa,hoa,hca⟩ PySem.F.entry_tuple_lt (tup_lt_tree hoa hda hob hcb hdb hia hib ⟨_,rfl,(fun e=>nomatch e),h⟩) (PySem.F.args_tuple_lt_2 _ _)) hu
end
section
variable {X:Cx}
end
end Pu
namespace Pu
open PySem PySem.Spec PySem.W L2
open PyProof.Rows hiding St
section
variable {prog:Program} {w:World} {A:Around} {E:Value→Shared→Prop} {s:Shared}
end
section
variable {X:Cx}
end
end Pu
namespace Pu
open PySem PySem.Spec L2
open PyProof.Rows hiding St
section
variable {K:PySem.W.Frag} {O:Addr→Prop} {H:Hp}
end
section
variable {X:Cx}
end
section
variable {X:Cx} {e:Expr} {f:Rho→R D} {pos:Pos}
end
section
variable {X:Cx} {e:Expr} {f:Rho→R D}
noncomputable def lstB:D→R Bool
  | .lst ds=> .ok (!ds.isEmpty)
  | .tup ds=> .ok (!ds.isEmpty)
  |_=> .bad
noncomputable def tstL (f:Rho→R D):Rho→R Bool:=fun ρ=>(f ρ).bind lstB
theorem Reps.empty {K:PySem.W.Frag} {O:Addr→Prop} {H:Hp} {ds:List D} {vs:List V} (r:Reps K O H ds vs):ds.isEmpty=vs.isEmpty:=by
  have:=r.length
  cases ds <;> cases vs <;> simp_all
theorem dt_lst (h:DE X e f) (he:∀whole,isTrue e X.env whole=(do let v ←whole;standAt e.pos;holding [v] (truthy v)):=by intro _;rfl):DT X e (tstL f):=by
  refine PT.imp (pt_truth h he) fun σ H Q h=>?_
  obtain⟨ρ,O,j,h⟩:=h
  refine go j h fun d v H1 e1 s1 r1 j1 h1=>?_
  cases d with
  | lst ds=>
    obtain⟨a,xs,rfl,hq,hn,rs⟩:=r1.lst
    exact⟨!xs.isEmpty,.inl ⟨xs,hq,rfl⟩,by rw[←rs.empty];exact fin h1 rfl⟩
  | tup ds=>
    obtain⟨a,xs,rfl,hq,rs⟩:=r1.tup
    exact⟨!xs.isEmpty,.inr (.inl ⟨xs,hq,rfl⟩),by rw[←rs.empty];exact fin h1 rfl⟩
  |_=>exact h1.elim
end
theorem room_2 {A:Around} {k:Nat} (hr:Room k A):A.units+2 < cLine:=by have:=hr.un;omega
noncomputable def FnS (P:Program) (w:World) (K:PySem.W.Frag) (mg:Str→Option Value) (base:Heap) (k:Nat) (x:Str) (kG n q:Nat) (F:Addr→(List D→R D)→List D→R D):Prop:=
  ∃f fd ps,FnOk P w K mg base CX0 k f fd ps (spS P w mg base kG K n q F)∧mg x=some (.ref f)∧PySem.W.keepIn K (.ref f)=true∧Binds K fd ps []
end Pu
namespace Pu
open PySem PySem.Spec L2
open PyProof.Rows hiding St
theorem vals_points:∀{xs:List V} {us:List Value},xs.length=us.length→(∀(i:Nat) x u,xs[i]?=some x→us[i]?=some u→RelV x u)→Vals xs us
  |[],[],_,_=> .nil
  |[],_::_,h,_=>by simp at h
  |_::_,[],h,_=>by simp at h
  |x::xs,u::us,h,p=> .cons (p 0 x u rfl rfl) (vals_points (by simpa using h) fun i d' v' e1 e2=>p (i+1) d' v' (by simpa using e1) (by simpa using e2))
theorem rng_valsL {lo:Int} {acc:Array Value} {n:Nat} (h:ItemsOf (fun i v=>∃t,v= .int (lo+i*1) t) acc n):Vals ((List.range n).map fun (i:Nat)=>V.int (lo+(i:Int))) acc.toList:=by
  refine vals_points (by simp[h.1]) fun i x u e1 e2=>?_
  rw[Array.getElem?_toList] at e2
  obtain⟨t,rfl⟩:=h.2 i u e2
  rw[List.getElem?_map] at e1
  cases q:(List.range n)[i]? with
  |none=>rw[q] at e1;cases e1
  | some k=>
    rw[q] at e1
    have hk:i < n∧i=k:=by simpa[List.getElem?_range] using (List.getElem?_eq_some_iff.mp q)
    obtain⟨_,rfl⟩:=hk
    cases e1
    exact⟨t,by rw[Int.mul_one]⟩
section
variable {X:Cx} {a b:Expr} {p pos p2 pos2:Pos} {fa:Rho→R (List D)} {ta:TA}
noncomputable def tRng2 (ta:TA):TE:=fun σ H Q=>ta σ H fun vs H1=>∃i j:Int,vs=[.int i,.int j]∧∀q,H1 q=none→Q (.ref q) (upd H1 q (.rng i j))
theorem pe_rng2 (hg:Gl X "range") (hm:X.mg "range" =none) (ha:PA X [a,b] ta) (hs:starEach [a,b] X.env=[(false,eval a X.env),(false,eval b X.env)]:=by rfl) (hs2:starEach [b] X.env=[(false,eval b X.env)]:=by rfl):PE X (.Call (.Name "range" p) [a,b] [] pos) (tRng2 ta):=by
  intro pins s σ H Q I h
  refine Call_ (ld_blt I hg hm boot_range (PyProof.Rows.callWith_type1 (thn (ha pos pins s σ H _ I h) fun us s1 ⟨vs,H1,I1,r1,q1⟩=>?_) (by rw[hs,hs2]) (by rw[hs2];rfl)))
  obtain⟨i,j,e,q⟩:=q1
  subst e
  cases r1 with
  | cons r rr=>
    cases rr with
    | cons r' rr=>
      cases rr
      obtain⟨t,rfl⟩:=r
      obtain⟨t',rfl⟩:=r'
      refine call_range_2 ?_
      exact⟨.ref s1.heap.objs.size,upd H1 s1.heap.objs.size (.rng i j),I1.laid (fun b o e=>Heap.get?_push_of_some _ e) (Nat.le_refl _) ⟨_,_,_,Heap.get?_push_size _ rfl⟩,rfl,q _ (I1.hok.fresh (Nat.le_refl _))⟩
theorem call_lstR (hc:X.calm=true):CallR X (.type "list") (fun xs H Q=>∃(b:Addr) (i j:Int),xs=[.ref b]∧H b=some (.rng i j)∧-1000≤i∧i≤1000∧-1000≤j∧j≤1000∧∀B,H B=none→Q (.ref B) (upd H B (.lst ((List.range (j - i).toNat).map fun (k:Nat)=>V.int (i+(k:Int)))))):=by
  intro pins s σ H xs us Q I r h
  obtain⟨b,i,j,rfl,hb,h0,h1,h2,h3,q⟩:=h
  obtain⟨u,rfl,rx⟩:=vals1 r
  cases rx
  obtain⟨t,u,v,hr⟩:=(show ObjOk X.prog X.w H s.heap b (.rng i j) from I.hok b _ hb)
  have hn:Builtin.Range.rangeSize i j 1=(((j - i).toNat:Nat):Int):=by rw[rangeSize_one];split <;> omega
  refine call_list_range (I.ok.hd hc) hr (small_one (by omega) (by omega) (by omega) (by omega)) hn (by omega) fun h' tk acc c' hk he hacc=>?_
  have hf:H s.heap.objs.size=none:=I.hok.fresh (Nat.le_refl _)
  refine⟨.ref s.heap.objs.size,_,I.laid (t':=tk) (o:= .lst ((List.range (j - i).toNat).map fun (k:Nat)=>V.int (i+(k:Int)))) hk (Nat.le_refl _) ⟨?_,acc.toList,c',rng_valsL hacc,by simpa using he⟩,rfl,q _ hf⟩
  rw[List.length_map,List.length_range]
  exact Nat.le_trans (by omega) (Nat.le_of_lt sizeLine_gt)
theorem reps_uptoL {K:PySem.W.Frag} {O:Addr→Prop} {H:Hp} {lo:Int} {n:Nat}:Reps K O H (upto lo n) ((List.range n).map fun (i:Nat)=>V.int (lo+(i:Int))):=by
  unfold upto
  generalize List.range n=l
  induction l with
  |nil=>exact .nil
  |cons x l ih=>exact .cons (rep_int _) ih
noncomputable def lstR1:List D→R D
  |[.int j]=>if 0≤j∧j≤1000 then .ok (.lst (upto 0 j.toNat)) else .bad
  |_=> .bad
noncomputable def lstR2:List D→R D
  |[.int i,.int j]=>if -1000≤i∧i≤1000∧-1000≤j∧j≤1000 then .ok (.lst (upto i (j - i).toNat)) else .bad
  |_=> .bad
theorem de_lstR1 (hc:X.calm=true) (hg:Gl X "list") (hm:X.mg "list" =none) (hg2:Gl X "range") (hm2:X.mg "range" =none) (ha:DA X [a] fa) (hs2:starEach [a] X.env=[(false,eval a X.env)]:=by rfl)
    (he:starEach [.Call (.Name "range" p) [a] [] pos] X.env=(false,eval (.Call (.Name "range" p) [a] [] pos) X.env)::starEach [] X.env:=by rfl) (hpl:(backTo pos2 (starEach [] X.env)).any (·.1)=false:=by rfl):
    DE X (.Call (.Name "list" p2) [.Call (.Name "range" p) [a] [] pos] [] pos2) (callV lstR1 fa):=by
  refine PE.imp (pe_callTy (call_lstR hc) hg hm boot_list (pa_cons (pe_rng hg2 hm2 ha hs2) pa_nil he) (by decide) (by decide) he hpl) fun σ H Q q=>?_
  obtain⟨ρ,O,j,q⟩:=q
  refine go j q fun ds vs H1 e1 s1 r1 j1 h1=>?_
  unfold lstR1 at h1
  split at h1
  · obtain⟨x,rfl,rx⟩:=r1.one
    rename_i i
    by_cases hi:0≤i∧i≤1000
    · rw[if_pos hi] at h1
      refine⟨i,by rw[rx.int],hi.1,hi.2,fun q hq=>⟨q,0,i,rfl,upd_same,by omega,by omega,by omega,hi.2,fun B hB=>?_⟩⟩
      have s2:Same H1 (upd H1 q (.rng 0 i)):=Same.upd hq
      rw[Int.sub_zero]
      exact h1 _ _ (s2.trans (Same.upd hB)) (Rep.new_lst hB ((j1.same s2).notO hB) reps_uptoL)
    · rw[if_neg hi] at h1;exact h1.elim
  · exact h1.elim
theorem de_lstR2 (hc:X.calm=true) (hg:Gl X "list") (hm:X.mg "list" =none) (hg2:Gl X "range") (hm2:X.mg "range" =none) (ha:DA X [a,b] fa) (hs2:starEach [a,b] X.env=[(false,eval a X.env),(false,eval b X.env)]:=by rfl) (hs3:starEach [b] X.env=[(false,eval b X.env)]:=by rfl)
    (he:starEach [.Call (.Name "range" p) [a,b] [] pos] X.env=(false,eval (.Call (.Name "range" p) [a,b] [] pos) X.env)::starEach [] X.env:=by rfl) (hpl:(backTo pos2 (starEach [] X.env)).any (·.1)=false:=by rfl):
    DE X (.Call (.Name "list" p2) [.Call (.Name "range" p) [a,b] [] pos] [] pos2) (callV lstR2 fa):=by
  refine PE.imp (pe_callTy (call_lstR hc) hg hm boot_list (pa_cons (pe_rng2 hg2 hm2 ha hs2 hs3) pa_nil he) (by decide) (by decide) he hpl) fun σ H Q q=>?_
  obtain⟨ρ,O,j,q⟩:=q
  refine go j q fun ds vs H1 e1 s1 r1 j1 h1=>?_
  unfold lstR2 at h1
  split at h1
  · rename_i i k
    obtain⟨x,y,rfl,rx,ry⟩:=r1.two
    by_cases hi: -1000≤i∧i≤1000∧-1000≤k∧k≤1000
    · rw[if_pos hi] at h1
      refine⟨i,k,by rw[rx.int,ry.int],fun q hq=>⟨q,i,k,rfl,upd_same,hi.1,hi.2.1,hi.2.2.1,hi.2.2.2,fun B hB=>?_⟩⟩
      have s2:Same H1 (upd H1 q (.rng i k)):=Same.upd hq
      exact h1 _ _ (s2.trans (Same.upd hB)) (Rep.new_lst hB ((j1.same s2).notO hB) reps_uptoL)
    · rw[if_neg hi] at h1;exact h1.elim
  · exact h1.elim
end
end Pu
namespace Pu
open PySem PySem.Spec L2
open PyProof.Rows hiding St
noncomputable def lamE (st:Stmt):Expr:=match defBody st with
  | .Return (some (.Call _ as _ _)) _::_=>as.getD 3 (.Name "" ⟨0,0,0,0⟩)
  |_=> .Name "" ⟨0,0,0,0⟩
noncomputable def lamArgs:Expr→Arguments
  | .Lambda a _ _ _=>a
  |_=>default
noncomputable def lamBody:Expr→Expr
  | .Lambda _ b _ _=>b
  |e=>e
noncomputable def lamScope:Expr→Scope
  | .Lambda _ _ s _=>s
  |_=>default
inductive LamAt (H:Hp) (a:Addr) (name qual:Str) (params:Arguments) (body:Expr) (scope:Scope) (clos:List (Str×Addr)):Prop
  | mk (fo:Obj) (pm:Value) (c':Addr) (ctv:Value) (oc:Obj) (vs:Array Value) (t:Tok) (h1:H a=some (.frz fo (.own a))) (h2:fo.data= .func (PySem.W.kla_fn name qual params body scope clos pm (.ref c') ctv))
    (h3:H c'=some (.frz oc (.own c'))) (h4:oc.data= .fields vs) (h5:vs[1]?=some (.str qual t)):LamAt H a name qual params body scope clos
theorem LamAt.fz {H H':Hp} {a:Addr} {name qual:Str} {params:Arguments} {body:Expr} {scope:Scope} {clos:List (Str×Addr)} (h:LamAt H a name qual params body scope clos) (s:∀b o u,H b=some (.frz o u)→H' b=some (.frz o u)):LamAt H' a name qual params body scope clos:=by
  obtain⟨fo,pm,c',ctv,oc,vs,t,h1,h2,h3,h4,h5⟩:=h
  exact⟨fo,pm,c',ctv,oc,vs,t,s _ _ _ h1,h2,s _ _ _ h3,h4,h5⟩
section
variable {X:Cx} {pins:List (Addr×Obj)} {σ:St} {H:Hp} {s:Shared}
theorem make_lam {M:Model} {A:Around} {E:Value→Shared→Prop} {name qual:Str} {params:Arguments} {body:Expr} {scope:Scope} {clos:List (Str×Addr)} {pos:Pos} {line:Nat} {c P:Addr} {ps:Array Value} {tq:Tok} {Q:Value→Shared→Prop}
    (I:Inv X pins σ H s) (hB:NestB X.base X.mg c P) (hc:X.env.code= .ref c) (e0:H P=some (.tbl ps)) (q0:ps[0]?=some (.str qual tq)) (hcl:closureFor scope X.env=pure clos)
    (h:∀a H1 s',Inv X pins σ H1 s'→Same H H1→LamAt H1 a name qual params body scope clos→Q (.ref a) s'):
    wpAny M A (makeFunction name qual params (.expr body) scope X.env [] [] [] pos line) Q E s:=by
  obtain⟨qs,hP,tr,al⟩:=I.hok P _ e0
  have hgs:s.heap.Ns mainGlobals X.mg:=I.mod.glob.keeps I.bk
  have C:PySem.W.CodeHd s.heap c P:=hB.code.keeps I.bk
  obtain⟨bm,ob,b1,b2,b3,b4,b5,b6⟩:=hB.blt
  have hgP:mainGlobals≠P:=fun q=>by
    obtain⟨o,es,ep,e,hd,_⟩:=hgs
    rw[q,hP] at e;cases e;cases hd
  have hbP:bm≠P:=fun q=>by
    have e:=I.bk _ _ b3
    rw[q,hP] at e;cases e;cases b4
  have hbG:bm≠mainGlobals:=fun q=>by
    obtain⟨o,es,ep,e,hd,_⟩:=I.mod.glob
    rw[q,e] at b3;cases b3;rw[hd] at b6;cases b6
  have hbb:s.heap.BuiltinsAt X.mg P:=⟨bm,ob,b1,b2,hbG,hbP,I.bk _ _ b3,b4,b5,b6⟩
  cases hf:codeAmong pos qs.toList with
  | some cv=>
    obtain⟨c',oc,vs,q,t,tq',rfl,h1,h2,h3,h4⟩:=al pos cv hf
    rw[q0] at h4;cases h4
    refine PySem.W.kla_makeFunctionHit (mg:=X.mg) hcl I.ok.glob hgs hc C hP tr hf hbb fun ctv h' tk hk hsz=>?_
    have I1:Inv X pins σ H {s with heap:=h',toks:=tk}:=I.kept (t':=tk) hk
    have hn:H h'.objs.size=none:=I1.hok.fresh (Nat.le_refl _)
    exact h _ _ _ (I1.laid (t':=tk) (o:= .frz _ (.own h'.objs.size)) (fun b u z=>Heap.get?_push_of_some _ z) (Nat.le_refl _) ⟨Heap.get?_push_size _ rfl,_,Heap.get?_push_size _ rfl⟩) (Same.upd hn)
      ⟨_,_,c',ctv,oc,vs,t,upd_same,rfl,by rw[upd_ne (ne_of_none h1 hn)];exact h1,h2,h3⟩
  | none =>
    refine PySem.W.kla_makeFunction (mg:=X.mg) hcl I.ok.glob hgs hc C hP tr hf hgP hbb fun c' ctv h' tk hx hge hlt hrec htb=>?_
    obtain⟨c2,oc,vs,t,e2,hoc,hd,hv⟩:=hrec
    cases e2
    have hn:H c'=none:=I.hok.fresh hge
    have old:∀b u,H b=some u→upd H c' (.frz oc (.own c')) b=some u:=fun b u z=>by rw[upd_ne (ne_of_none z hn)];exact z
    have I1 : Inv X pins σ (upd H c' (.frz oc (.own c'))) {s with heap:=h',toks:=tk}:=by
      refine I.call' (ch:=[]) rfl ⟨fun b o q n _ _=>hx b o (fun z=>by rw[z,e0] at n;cases n) q,fun b o q n _ _=>⟨o.slots,hx b o (fun z=>by rw[z,e0] at n;cases n) q⟩,fun b o q n _=>?_,fun b o q _=>?_,fun b xs q=>old _ _ q,fun b o u q=>old _ _ q,fun b p q=>⟨#[],by rw[old _ _ q];simp⟩⟩ (fun b u q=>?_) I.bare (fun b z=>absurd z (by simp))
      · rw[upd_ne (Nat.ne_of_lt (Nat.lt_of_lt_of_le (Heap.lt_size q) hge))];exact n
      · by_cases hb:b=P
        · rw[hb];exact⟨_,htb⟩
        · exact⟨o,hx b o hb q⟩
      · by_cases hb:b=c'
        · subst hb
          rw[upd_same] at q;cases q
          exact⟨hoc,oc,hoc⟩
        · rw [upd_ne hb] at q
          by_cases hp:b=P
          · subst hp
            rw[e0] at q;cases q
            refine⟨_,htb,?_,fun p cv z=>?_⟩
            · have:=triples_app (a:=pos.line) (s:=0) (b:=pos.col) (t:=0) (c:=Value.ref c') qs.toList tr
              simpa[rawInt] using this
            · have z':codeAmong p (qs.toList++[.int pos.line 0,.int pos.col 0,.ref c'])=some cv:=by simpa[rawInt] using z
              rcases among_app _ tr z' with z1 |z1
              · obtain⟨c3,o3,v3,q3,t3,tq3,y1,y2,y3⟩:=al p cv z1
                exact⟨c3,o3,v3,q3,t3,tq3,y1,old _ _ y2,y3⟩
              · exact⟨c',oc,vs,qual,t,tq,z1,upd_same,hd,hv,q0⟩
          · exact (I.hok b u q).stay (fun d v hd z=>hx d v (fun y=>hd.elim (fun x=>hp (x.symm.trans y)) fun x=>by rw[y,e0] at x;cases x) z) (fun d z=>old _ _ z) (fun d xs z=>old _ _ z) fun d o u _ z=>old _ _ z
    have hn2:upd H c' (.frz oc (.own c')) h'.objs.size=none:=I1.hok.fresh (Nat.le_refl _)
    exact h _ _ _ (I1.laid (t':=tk) (o:= .frz _ (.own h'.objs.size)) (fun b u z=>Heap.get?_push_of_some _ z) (Nat.le_refl _) ⟨Heap.get?_push_size _ rfl,_,Heap.get?_push_size _ rfl⟩) ((Same.upd hn).trans (Same.upd hn2))
      ⟨_,_,c',ctv,oc,vs,t,upd_same,rfl,by rw[upd_ne (Nat.ne_of_lt hlt),upd_same],hd,hv⟩
noncomputable def tLam (name qual:Str) (params:Arguments) (body:Expr) (scope:Scope) (clos:List (Str×Addr)):TE:=fun _ H Q=>∀a H1,Same H H1→LamAt H1 a name qual params body scope clos→Q (.ref a) H1
theorem pe_lam {qual:Str} {params:Arguments} {body:Expr} {scope:Scope} {clos:List (Str×Addr)} {pos:Pos} {c P:Addr} (hB:NestB X.base X.mg c P) (hT:Tb [(P,qual)] X.H₀) (hc:X.env.code= .ref c) (hcl:closureFor scope X.env=pure clos) (hq:X.env.qual++ "<lambda>" =qual) (hd:defaultsOf params X.env=([],[])):
    PE X (.Lambda params body scope pos) (tLam "<lambda>" qual params body scope clos):=by
  intro pins s σ H Q I h
  obtain⟨ps,tq,e0,q0⟩:=(hT.un I.base) (P,qual) (by simp)
  refine PySem.W.kla_eval hd ?_
  rw[hq]
  exact make_lam I hB hc e0 q0 hcl fun a H1 s' I1 sm fh=>⟨.ref a,H1,I1,rfl,h a H1 sm fh⟩
end
theorem cal_lam {P:Program} {w:World} {K:PySem.W.Frag} {mg:Str→Option Value} {base:Heap} {N ps:List Str} {name qual:Str} {params:Arguments} {body:Expr} {scope:Scope} {k n m:Nat} {fe:Rho→R D} {a:Addr} {H:Hp}
    (S:FnScope N ps scope) (hn:ps.length=n) (hm:N.length=n+m)
    (hbind:∀(pm:Value) (cdv ct:Value) (us:List Value),us.length=ps.length→bindArgs (PySem.W.kla_fn name qual params body scope [] pm cdv ct) ⟨us,[]⟩=pure (ps.zip us))
    (hb:∀(cdv:Value) (A:Around) (outer:List PySem.Env) (s:Shared) (H:Hp) (E:XK) (f:Addr),Room k (A.deeper (envOfC qual scope s.heap.objs.size f cdv))→DE (cxOf CX0 P w K mg base N qual scope f cdv A outer s H E).nox body fe)
    (fh:LamAt H a name qual params body scope []):CalO P w K mg base (k+1) (fun ds=>fe ((ds.map Ent.val).map some++List.replicate m none)) n a H:=by
  intro A outer s H1 us vs Q E hr e0 hz r sp
  obtain⟨O,ds,rs,hl,al,sp⟩:=sp
  obtain⟨fo,pm,c',ctv,oc,vq,t,f1,f2,f3,f4,f5⟩:=fh.fz hz
  obtain⟨hfo,_⟩:=e0.hok a _ f1
  obtain⟨hoc,_⟩:=e0.hok c' _ f3
  have lim:s.heap.NoLimit:=e0.mod.nolimit.keeps fun b o e=>(e0.bs b o e).1
  have hlu:us.length=ps.length:=by rw[←r.length,←rs.length,hl,hn]
  have hkind:∀y∈ps.zip us,scope.names.lookup y.1=some .local∨(scope.names.lookup y.1=some .cell∧((cellsFrom (s.heap.objs.size+1) scope.names []).lookup y.1).isSome=true):=fun ⟨n,v⟩ hy=>by
    rcases S.par n (List.of_mem_zip hy).1 with q |q
    · exact .inl q
    · exact .inr ⟨q,PySem.W.cellsFrom_some _ _ _ (.inl q)⟩
  refine PySem.W.kla_callFunE hr.depth hfo f2 S.co S.gen rfl ⟨c',oc,vq,t,rfl,hoc,f4,f5⟩ ?_
  rw[hbind pm _ _ us hlu]
  refine wpAny_pure (wpAny_newFunctionEnv_cells S.kind hkind fun env he s1 x=>?_)
  subst he
  refine⟨lim.keeps x.toInCall.keep,PySem.W.kla_codeExpr ?_⟩
  have I:Inv (cxOf CX0 P w K mg base N qual scope a (.ref c') A outer s H1 E) [] (start N vs) H1 s1:=inv_start S hr.hd e0 (by rw[←rs.length,hl,hn]) r x
  have hlv:N.length=vs.length+m:=by rw[hm,←rs.length,hl]
  have J:At (cxOf CX0 P w K mg base N qual scope a (.ref c') A outer s H1 E).nox H1 O O H1 ((ds.map Ent.val).map some++List.replicate m none) (start N vs):=by
    rw[start_eq hlv]
    exact at_start (X:=(cxOf CX0 P w K mg base N qual scope a (.ref c') A outer s H1 E).nox) (by rw[List.length_map,rs.length];exact hlv) (reps_ents rs) al
  refine wpAny_mono (PE.nox (hb (.ref c') A outer s H1 E a (hr.deeper _)) [] s1 (start N vs) H1 (fun v H'=>Q v H') I ⟨_,O,J.inn,?_⟩) (fun u s' hs=>?_) fun e s' hs=>hs
  · have sp:(match fe ((ds.map Ent.val).map some++List.replicate m none) with | .ok d=>∀v H',Same H1 H'→Rep K O H' d v→Q v H' |_=>False):=sp
    cases q:fe ((ds.map Ent.val).map some++List.replicate m none) with
    |ok d=>rw[q] at sp;exact fun v H' s' r'=>sp v H' s' r'
    |err c=>rw[q] at sp;exact sp.elim
    |bad=>rw[q] at sp;exact sp
  · obtain⟨v,H',J',rv,q⟩:=hs
    exact⟨v,H',J'.os,J'.bare,J'.base,J'.hok,rv,q⟩
noncomputable def lamR (f1 f2 f3:Rho→R D) (FS:Addr→(List D→R D)→List D→R D) (GG:List D→R D):Rho→So:=fun ρ=>match f1 ρ with
  | .ok a=>(match f2 ρ with
    | .ok b=>(match f3 ρ with
      | .ok d=>(match allOf (fun x=>FS x GG [a,b,d]) with
        | .ok r=> .rt r
        |_=> .bad)
      |_=> .bad)
    |_=> .bad)
  |_=> .bad
section
variable {X:Cx} {qual:Str} {params:Arguments} {body:Expr} {scope:Scope} {xS:Str} {cc P fS:Addr} {fdS:FuncData} {psS:List Str} {kS kG q:Nat} {FS:Addr→(List D→R D)→List D→R D} {GG:List D→R D} {p p4 pos2 pos3:Pos} {e1 e2 e3:Expr} {f1 f2 f3:Rho→R D}
theorem dss_lam (hB:NestB X.base X.mg cc P) (hT:Tb [(P,qual)] X.H₀) (hcode:X.env.code= .ref cc) (Sw:FnOk X.prog X.w X.K X.mg X.base CX0 kS fS fdS psS (spS X.prog X.w X.mg X.base kG X.K 3 q FS)) (hr:Room kS X.A) (hm:X.mg xS=some (.ref fS)) (hk:PySem.W.keepIn X.K (.ref fS)=true) (hb:Binds X.K fdS psS [])
    (hcal:∀a H,LamAt H a "<lambda>" qual params body scope []→CalO X.prog X.w X.K X.mg X.base kG GG q a H)
    (h1:DE X e1 f1) (h2:DE X e2 f2) (h3:DE X e3 f3)
    (hcl:closureFor scope X.env=pure []) (hq:X.env.qual++ "<lambda>" =qual) (hd:defaultsOf params X.env=([],[]))
    (hg:Gl X xS:=by rfl) (hdb:(xS ==("__debug__" :Str))=false:=by decide)
    (he1:starEach [e1,e2,e3,.Lambda params body scope p4] X.env=(false,eval e1 X.env)::starEach [e2,e3,.Lambda params body scope p4] X.env:=by rfl) (he2:starEach [e2,e3,.Lambda params body scope p4] X.env=(false,eval e2 X.env)::starEach [e3,.Lambda params body scope p4] X.env:=by rfl)
    (he3:starEach [e3,.Lambda params body scope p4] X.env=(false,eval e3 X.env)::starEach [.Lambda params body scope p4] X.env:=by rfl) (he4:starEach [.Lambda params body scope p4] X.env=(false,eval (.Lambda params body scope p4) X.env)::starEach [] X.env:=by rfl)
    (hpl:(backTo pos2 (starEach [e2,e3,.Lambda params body scope p4] X.env)).any (·.1)=false:=by rfl):
    DSs X [.Return (some (.Call (.Name xS p) [e1,e2,e3,.Lambda params body scope p4] [] pos2)) pos3] (lamR f1 f2 f3 FS GG):=by
  have A:=pa_cons h1 (pa_cons h2 (pa_cons h3 (pa_cons (pe_lam (X:=X) (pos:=p4) (body:=body) hB hT hcode hcl hq hd) pa_nil he4) he3) he2) he1
  refine PSs.imp (pss_one (ps_ret (pe_call (dvs:=[]) (pos:=pos2) Sw hr hg hm hk hb .nil pass0 A hdb he1 hpl))) fun σ H E h=>?_
  obtain⟨H0,O0,O,ρ,j,h⟩:=h
  unfold lamR at h
  refine⟨ρ,O,j.inn,?_⟩
  cases q1:f1 ρ with
  |err _=>rw[q1] at h;exact h.elim
  |bad=>rw[q1] at h;exact h.elim
  | ok d1 =>
    rw[q1] at h
    simp only at h
    intro v1 H2 s2 r1
    refine⟨ρ,O,j.inn.same s2,?_⟩
    cases q2:f2 ρ with
    |err _=>rw[q2] at h;exact h.elim
    |bad=>rw[q2] at h;exact h.elim
    | ok d2=>
      rw[q2] at h
      simp only at h
      intro v2 H3 s3 r2
      refine⟨ρ,O,(j.inn.same s2).same s3,?_⟩
      cases q3:f3 ρ with
      |err _=>rw[q3] at h;exact h.elim
      |bad=>rw[q3] at h;exact h.elim
      | ok d3=>
        rw[q3] at h
        simp only at h
        cases q4:allOf (fun x=>FS x GG [d1,d2,d3]) with
        |bad=>rw[q4] at h;exact h.elim
        |err _=>rw[q4] at h;exact h.elim
        | ok d=>
          rw[q4] at h
          intro v3 H4 s4 r3 a H5 s5 fh
          have s15:Same H H5:=((s2.trans s3).trans s4).trans s5
          obtain⟨fo,pm,c',ctv,oc,vq,t,l1,l2,l3,l4,l5⟩:=id fh
          refine⟨O,[d1,d2,d3],[v1,v2,v3],a,GG,rfl,.cons (r1.same ((s3.trans s4).trans s5)) (.cons (r2.same (s4.trans s5)) (.cons (r3.same s5) .nil)),rfl,(j.inn.same s15).al,⟨rfl,fo,_,l1,l2⟩,hcal a H5 fh,?_⟩
          rw[allOf_ok q4 a]
          exact fun v' H' s' r'=>h v' H' (j.same.trans (s15.trans s')) (r'.fewer j.sub)
end
end Pu
namespace Pu
open PySem PySem.Spec PySem.W L2
open PyProof.Rows hiding St
noncomputable def Kp (I S:Addr) (h0 h:Heap):Prop:=∀b o,b≠I→b≠S→h0.get? b=some o→h.get? b=some o
theorem nmMin:(toString "min" ++toString ".loop" :String)= "min.loop" :=by decide
section
variable {prog:Program} {w:World} {A:Around} {R:Result→Shared→Prop} {I l S:Addr} {its:Array Value} {h0:Heap} {bt:Nat→Nat→Bool}
theorem mn_loop (hh:A.handled=none) (hl:l≠I) (hS1:S≠I) (hS2:l≠S)
    (cmp:∀(s:Shared) (i j:Nat) (vi vj:Value) (Q:Value→Shared→Prop) (E:Value→Shared→Prop),Kp I S h0 s.heap→its[i]?=some vi→its[j]?=some vj→Q (.bool (bt i j)) s→wpAny (model prog w) A.in1 (richCompare .Lt vi vj) Q E s):
    ∀ (k j:Nat) (s:Shared) (vb:Value) (c:Nat),its.size=j+1+k→s.heap.IsListIter I l (j+1)→s.heap.IsList l its→its[argBest bt j]?=some vb→s.heap.get? S=some (seqObj "list" #[vb,vb] c)→Kp I S h0 s.heap→
      (∀v h' tk,its[argBest bt (its.size - 1)]?=some v→Kp I S h0 h'→R (.ok (.ret v)) {s with heap:=h',toks:=tk})→
      codeAny (model prog w) A (.builtin "min.loop" ⟨[.ref I,.none,.ref S],[]⟩) R s
  | 0,j,s,vb,c,hk,hit,hL,hb,hS,kp,hR=>by
    refine codeAny_builtin F.entry_min_loop ?_;rw[Around.under_plainId F.plain_min_loop]
    refine wpAny_bind (m:=seqItems? (.ref S)) (wpAny_seqItems hS rfl ?_)
    refine wpAny_bind (wpAny_tryCatch (wpAny_pyNext_list_end (by simp[hh]) hit hL (Array.getElem?_eq_none (by omega)) fun h' ex=>?_))
    have hS':=ex S _ hS1 hS
    refine wpAny_bind (m:=updateSeq S fun _=> #[]) (wpAny_updateSeq hS' rfl (wpAny_bind (wpAny_letGo (wpAny_pure ?_))))
    refine hR vb _ s.toks (by rw[show its.size - 1=j by omega];exact hb) fun b o b1 b2 e=>?_
    rw[Heap.get?_update_ne _ _ _ _ b2]
    exact ex b o b1 (kp b o b1 b2 e)
  | k +1,j,s,vb,c,hk,hit,hL,hb,hS,kp,hR=>by
    refine codeAny_builtin F.entry_min_loop ?_;rw[Around.under_plainId F.plain_min_loop]
    refine wpAny_bind (m:=seqItems? (.ref S)) (wpAny_seqItems hS rfl ?_)
    have hx:its[j+1]?=some (its[j+1]'(by omega)):=Array.getElem?_eq_getElem (by omega)
    refine wpAny_bind (wpAny_tryCatch (wpAny_pyNext_list_item hit hL hx fun h' hit' sb=>?_))
    have hS':=(sb.2 S hS1).trans hS
    have hL':=hL.extBut sb.extBut hl
    have kp':Kp I S h0 h':=fun b o b1 b2 e=>(sb.2 b b1).trans (kp b o b1 b2 e)
    refine wpAny_bind (wpAny_pure ?_)
    refine wpAny_bind (wpAny_tryCatch (wpAny_holding (wpAny_bind (cmp _ (j+1) (argBest bt j) _ vb _ _ kp' hx hb ?_))))
    refine wpAny_bind (wpAny_holding (wpAny_truthy_bool (wpAny_bind (wpAny_letGo (wpAny_pure ?_)))))
    cases q:bt (j+1) (argBest bt j) with
    | true=>
      simp only[if_true]
      refine wpAny_bind (m:=updateSeq S fun _=>_) (wpAny_updateSeq hS' rfl (wpAny_bind (wpAny_letGo ?_)))
      rw[nmMin]
      have g2:=get?_update_seq hS' (fun _=> #[its[j+1]'(by omega),its[j+1]'(by omega)])
      have up:∀b o,b≠S→h'.get? b=some o→(h'.update S (Obj.mapSeq fun _=> #[its[j+1]'(by omega),its[j+1]'(by omega)])).get? b=some o:=fun b o bs e=>by rw[Heap.get?_update_ne _ _ _ _ bs];exact e
      refine wpAny_pure ⟨plainId_quiet F.plain_min_loop _,mn_loop hh hl hS1 hS2 cmp k (j+1) _ _ _ (by omega) (hit'.at fun o e=>up I o (Ne.symm hS1) e) (hL'.at fun o e=>up l o hS2 e) (by rw[argBest,q,if_pos rfl];exact hx) g2 (fun b o b1 b2 e=>up b o b2 (kp' b o b1 b2 e)) fun v h2 tk hv k2=>hR v h2 tk hv k2⟩
    | false=>
      simp only[Bool.false_eq_true,if_false]
      refine wpAny_bind (wpAny_letGo ?_)
      rw[nmMin]
      exact wpAny_pure ⟨plainId_quiet F.plain_min_loop _,mn_loop hh hl hS1 hS2 cmp k (j+1) _ vb c (by omega) hit' hL' (by rw[argBest,q];exact hb) hS' kp' fun v h2 tk hv k2=>hR v h2 tk hv k2⟩
end
section
variable {prog:Program} {w:World} {A:Around} {E:Value→Shared→Prop} {s:Shared} {l:Addr} {its:Array Value} {bt:Nat→Nat→Bool} {Q:Value→Shared→Prop}
theorem mn_list (hh:A.handled=none) (hL:s.heap.IsList l its) (hn:0 < its.size)
    (cmp:∀(s2:Shared) (i j:Nat) (vi vj:Value) (Q:Value→Shared→Prop) (E:Value→Shared→Prop),(∀b o,s.heap.get? b=some o→s2.heap.get? b=some o)→its[i]?=some vi→its[j]?=some vj→Q (.bool (bt i j)) s2→wpAny (model prog w) A.in1 (richCompare .Lt vi vj) Q E s2)
    (h:∀v h' tk,its[argBest bt (its.size - 1)]?=some v→(∀b o,s.heap.get? b=some o→h'.get? b=some o)→Q v {s with heap:=h',toks:=tk}):
    wpAny (model prog w) A (call (.builtin "min") [.ref l]) Q E s:=by
  obtain⟨ol,hol,hcl,nl,hdl⟩:=id hL
  have ll:=Heap.lt_size hol
  refine call_function_tree F.kind_min F.plain_min F.entry_min (F.args_min1 _) ?_
  refine wpAny_bind (m:=Builtin.Builtins.bindParams "min" ["key","default"] 0 ⟨[],[]⟩) (wpAny_of_eq (a:=[none,none]) rfl (wpAny_bind (wpAny_pure ?_)))
  refine wpAny_bind (wpAny_pyIter_list hL (wpAny_bind (wpAny_newObj_type ?_)))
  rw[nmMin]
  have z1:(s.heap.push {cls:= .type "list_iterator",data:= .fields #[.ref l,.int 0 0]}).objs.size=s.heap.objs.size+1:=Heap.size_push ..
  have gI:(s.heap.push {cls:= .type "list_iterator",data:= .fields #[.ref l,.int 0 0]}).get? s.heap.objs.size=some {cls:= .type "list_iterator",data:= .fields #[.ref l,.int 0 0]}:=Heap.get?_push_size _ rfl
  have k1:∀b o,s.heap.get? b=some o→(s.heap.push {cls:= .type "list_iterator",data:= .fields #[.ref l,.int 0 0]}).get? b=some o:=fun b o e=>Heap.get?_push_of_some _ e
  generalize s.heap.push {cls:= .type "list_iterator",data:= .fields #[.ref l,.int 0 0]}=h1 at *
  have gS:(h1.push (seqObj "list" #[] 0)).get? h1.objs.size=some (seqObj "list" #[] 0):=Heap.get?_push_size _ rfl
  have k2:∀b o,h1.get? b=some o→(h1.push (seqObj "list" #[] 0)).get? b=some o:=fun b o e=>Heap.get?_push_of_some _ e
  show wpAny _ _ _ _ _ {s with heap:=h1.push (seqObj "list" #[] 0)}
  generalize h1.push (seqObj "list" #[] 0)=h2 at *
  have nS:h1.objs.size=s.heap.objs.size+1:=z1
  generalize h1.objs.size=S at *
  have n1:S≠s.heap.objs.size:=by rw[nS];exact Nat.succ_ne_self _
  have n2:l≠s.heap.objs.size:=Nat.ne_of_lt ll
  have n3:l≠S:=by rw[nS];exact Nat.ne_of_lt (Nat.lt_succ_of_lt ll)
  have old:∀b o,s.heap.get? b=some o→b≠s.heap.objs.size∧b≠S:=fun b o e=>by have:=Heap.lt_size e;exact⟨Nat.ne_of_lt this,by rw[nS];exact Nat.ne_of_lt (Nat.lt_succ_of_lt this)⟩
  have hit:h2.IsListIter s.heap.objs.size l 0:=⟨_,k2 _ _ gI,rfl,rfl⟩
  have hL2:h2.IsList l its:=hL.at fun o e=>k2 _ _ (k1 _ _ e)
  refine wpAny_pure ⟨plainId_quiet F.plain_min_loop _,codeAny_builtin F.entry_min_loop ?_⟩
  rw[Around.under_plainId F.plain_min_loop]
  refine wpAny_bind (m:=seqItems? (.ref S)) (wpAny_seqItems gS rfl ?_)
  have hx:its[0]?=some its[0]:=Array.getElem?_eq_getElem hn
  refine wpAny_bind (wpAny_tryCatch (wpAny_pyNext_list_item hit hL2 hx fun h' hit' sb=>wpAny_bind (wpAny_pure ?_)))
  have hS':=(sb.2 S n1).trans gS
  refine wpAny_bind (m:=updateSeq S fun _=>_) (wpAny_updateSeq hS' rfl ?_)
  rw[nmMin]
  have g2:=get?_update_seq hS' (fun _=> #[its[0],its[0]])
  have up:∀b o,b≠S→h'.get? b=some o→(h'.update S (Obj.mapSeq fun _=> #[its[0],its[0]])).get? b=some o:=fun b o bs e=>by rw[Heap.get?_update_ne _ _ _ _ bs];exact e
  refine wpAny_pure ⟨plainId_quiet F.plain_min_loop _,mn_loop (h0:=s.heap) (bt:=bt) hh n2 n1 n3 (fun s2 i j vi vj Q E kp=>cmp s2 i j vi vj Q E fun b o e=>kp b o (old b o e).1 (old b o e).2 e) (its.size - 1) 0 _ _ _ (by omega) (hit'.at fun o e=>up _ o (Ne.symm n1) e) ((hL2.extBut sb.extBut n2).at fun o e=>up l o n3 e) hx g2 (fun b o b1 b2 e=>up b o b2 ((sb.2 b b1).trans (k2 _ _ (k1 _ _ e)))) fun v h3 tk hv kp=>?_⟩
  exact h v h3 tk hv fun b o e=>kp b o (old b o e).1 (old b o e).2 e
end
end Pu
namespace Pu
open PySem PySem.Spec PySem.W L2
open PyProof.Rows hiding St
noncomputable def bestL:List (List Int)→List Int
  |[]=>[]
  |a::r=>r.foldl (fun m x=>if ltL x m then x else m) a
theorem bestL_upto (a:List Int) (r:List (List Int)):∀k:Nat,k≤r.length→(a::r).getD (argBest (fun i j=>ltL ((a::r).getD i []) ((a::r).getD j [])) k) []=bestL (a::r.take k)∧argBest (fun i j=>ltL ((a::r).getD i []) ((a::r).getD j [])) k≤k
  |0,_=>by simp[argBest,bestL]
  | k +1,h=>by
    obtain⟨ih,hb⟩:=bestL_upto a r k (Nat.le_of_succ_le h)
    have e1:r.take (k+1)=r.take k++[r.getD k []]:=by
      rw[List.take_add_one,List.getD,List.getElem?_eq_getElem h];rfl
    have e2:bestL (a::r.take (k+1))=if ltL (r.getD k []) (bestL (a::r.take k)) then r.getD k [] else bestL (a::r.take k):=by
      rw[bestL,e1,List.foldl_append];rfl
    rw[e2,←ih]
    have e3:(a::r).getD (k+1) []=r.getD k []:=by simp[List.getD]
    have eA:argBest (fun i j=>ltL ((a::r).getD i []) ((a::r).getD j [])) (k+1)=if ltL (r.getD k []) ((a::r).getD (argBest (fun i j=>ltL ((a::r).getD i []) ((a::r).getD j [])) k) []) then k+1 else argBest (fun i j=>ltL ((a::r).getD i []) ((a::r).getD j [])) k:=by rw[←e3];rfl
    rw[eA]
    by_cases q:ltL (r.getD k []) ((a::r).getD (argBest (fun i j=>ltL ((a::r).getD i []) ((a::r).getD j [])) k) [])=true
    · rw[if_pos q,if_pos q];exact⟨e3,Nat.le_refl _⟩
    · rw[if_neg q,if_neg q];exact⟨rfl,Nat.le_succ_of_le hb⟩
theorem bestL_all {ts:List (List Int)} (h:0 < ts.length):ts.getD (argBest (fun i j=>ltL (ts.getD i []) (ts.getD j [])) (ts.length - 1)) []=bestL ts∧argBest (fun i j=>ltL (ts.getD i []) (ts.getD j [])) (ts.length - 1) < ts.length:=by
  cases ts with
  |nil=>simp at h
  | cons a r=>
    have:=bestL_upto a r r.length (Nat.le_refl _)
    rw[List.take_length] at this
    exact⟨this.1,Nat.lt_succ_of_le this.2⟩
noncomputable def tupsOf:List D→Option (List (List Int))
  |[]=>some []
  | .tup es::ds=>(intsOf es).bind fun n=>(tupsOf ds).map (n:: ·)
  |_::_=>none
noncomputable def minU:List D→R D
  | [.lst ds]=>match tupsOf ds with
    |some ts=>if 0 < ts.length then .ok (.tup ((bestL ts).map .int)) else .bad
    |none=> .bad
  |_=> .bad
theorem tups_rep {K:PySem.W.Frag} {O:Addr→Prop} {H:Hp}:∀{ds:List D} {ts:List (List Int)} {vs:List V},tupsOf ds=some ts→Reps K O H ds vs→∃as:List Addr,vs=as.map V.ref∧as.length=ts.length∧∀(i:Nat) b t,as[i]?=some b→ts[i]?=some t→SqT K H b (t.map V.int)
  |[],ts,vs,e,r=>by cases e;exact⟨[],r.nil_inv,rfl,fun i b t q=>by simp at q⟩
  | d :: ds,ts,vs,e,r=>by
    obtain⟨x,t,rfl,h1,h2⟩:=r.cons_inv
    cases d with
    | tup es=>
      have e:(intsOf es).bind (fun n=>(tupsOf ds).map (n:: ·))=some ts:=e
      cases q:intsOf es with
      |none=>rw[q] at e;cases e
      | some n=>
        rw[q] at e
        have e:(tupsOf ds).map (n:: ·)=some ts:=e
        cases q2:tupsOf ds with
        |none=>rw[q2] at e;cases e
        | some ts'=>
          rw[q2] at e;cases e
          obtain⟨as,rfl,hl,ha⟩:=tups_rep q2 h2
          obtain⟨a,ys,rfl,hq,rs⟩:=h1.tup
          refine⟨a::as,rfl,by simp[hl],fun i b t e1 e2=>?_⟩
          cases i with
          | zero=>
            cases e1;cases e2
            rw[←reps_ints q rs];exact hq
          |succ i=>exact ha i b t (by simpa using e1) (by simpa using e2)
    |_=>cases e
section
variable {X:Cx}
theorem call_minU (hc:X.calm=true) (hu:X.A.units+2 < cLine):CallR X (.builtin "min") (fun xs H Q=>∃(p:Addr) (as:List Addr) (ts:List (List Int)),xs=[.ref p]∧SqL X.K H p (as.map V.ref)∧as.length=ts.length∧0 < ts.length∧(∀(i:Nat) b t,as[i]?=some b→ts[i]?=some t→SqT X.K H b (t.map V.int))∧
    ∀(k:Nat) (b:Addr),as[k]?=some b→ts[k]?=some (bestL ts)→Q (.ref b) H):=by
  intro pins s σ H xs us Q I r h
  obtain⟨p,as,ts,rfl,hq,hl,hn,ht,q⟩:=h
  obtain⟨u,rfl,rx⟩:=vals1 r
  cases rx
  obtain⟨its,rv,pl,hz⟩:=I.list hq
  have hits:its=as.map Value.ref:=by
    have:∀(as:List Addr) (its:List Value),Vals (as.map V.ref) its→its=as.map Value.ref:=by
      intro as
      induction as with
      |nil=>intro its r;cases r;rfl
      |cons b as ih=>intro its r;cases r with |cons r1 r2=>cases r1;rw[ih _ r2];rfl
    exact this as its rv
  subst hits
  have sz:(as.map Value.ref).toArray.size=ts.length:=by simp[hl]
  obtain⟨b1,b2⟩:=bestL_all hn
  refine mn_list (bt:=fun i j=>ltL (ts.getD i []) (ts.getD j [])) (I.ok.hd hc) pl.isList (by rw[sz];exact hn) (fun s2 i j vi vj Q' E' kp e1 e2 hQ=>?_) fun v h' tk hv kp=>?_
  · have at':∀{i:Nat} {v:Value},(as.map Value.ref).toArray[i]?=some v→∃(b:Addr) (o:Obj) (vs:Array Value) (n:Nat),v= .ref b∧s.heap.get? b=some o∧o.cls= .type "tuple"∧o.data= .seq vs n∧IntsAre vs.toList (ts.getD i []):=fun {i v} e=>by
      rw[List.getElem?_toArray,List.getElem?_map] at e
      cases z:as[i]? with
      |none=>rw[z] at e;cases e
      | some b=>
        rw[z] at e;cases e
        have hi:i < ts.length:=by rw[←hl];exact (List.getElem?_eq_some_iff.mp z).1
        obtain⟨us,r1,p1,_⟩:=I.tuple (ht i b ts[i] z (by simp[hi]))
        obtain⟨ob,ho,hcb,n,hd⟩:=p1
        exact⟨b,ob,us.toArray,n,rfl,ho,hcb,hd,by simpa[List.getD,hi] using intVals r1⟩
    obtain⟨b,o,vs,n,rfl,ho,hcl,hd,hi⟩:=at' e1
    obtain⟨b',o',vs',n',rfl,ho',hcl',hd',hi'⟩:=at' e2
    exact lt_tups (by first |(simp;omega) |(show X.A.units+_ < cLine;omega)) (kp _ _ ho) hcl hd (kp _ _ ho') hcl' hd' hi hi' hQ
  · rw[sz,List.getElem?_toArray,List.getElem?_map] at hv
    cases z:as[argBest (fun i j=>ltL (ts.getD i []) (ts.getD j [])) (ts.length - 1)]? with
    |none=>rw[z] at hv;cases hv
    | some b=>
      rw[z] at hv;cases hv
      refine⟨.ref b,H,I.kept kp,rfl,q _ b z ?_⟩
      rw[←b1,List.getD_eq_getElem?_getD,List.getElem?_eq_getElem b2]
      rfl
theorem cd_minU (hc:X.calm=true) (hu:X.A.units+2 < cLine):CallD X (.builtin "min") minU:=by
  refine⟨_,call_minU hc hu,fun ρ O σ H Q xs ds j r h=>?_⟩
  unfold minU at h
  split at h
  · rename_i ds
    obtain⟨x,rfl,rx⟩:=r.one
    obtain⟨a,ys,rfl,hq,_,rs⟩:=rx.lst
    cases e:tupsOf ds with
    |none=>rw[e] at h;exact h.elim
    | some ts=>
      rw[e] at h
      have h:good X (rD X) O (if 0 < ts.length then .ok (.tup ((bestL ts).map .int)) else .bad) σ H Q:=h
      by_cases hp:0 < ts.length
      · rw[if_pos hp] at h
        obtain⟨as,rfl,hl,ha⟩:=tups_rep e rs
        exact⟨a,as,ts,rfl,hq,hl,hp,ha,fun k b e1 e2=>h _ _ (Same.refl _) (by simp only[Rep];exact⟨b,_,rfl,ha k b _ e1 e2,reps_of_ints⟩)⟩
      · rw[if_neg hp] at h;exact h.elim
  · exact h.elim
end
end Pu
namespace Pu
open PySem PySem.Spec PySem.W L2
open PyProof.Rows hiding St
open PySem.SeqAt
section
variable {X:Cx} {e1 e2:Expr} {f g:Rho→R D}
end
end Pu
namespace Pu
open PySem PySem.Spec L2
open PyProof.Rows hiding St
theorem range_any (bs:List Bool):((List.range bs.length).any fun i=>(bs[i]?).getD false)=bs.any id:=by
  apply Bool.eq_iff_iff.mpr
  rw[List.any_eq_true,List.any_eq_true]
  constructor
  · rintro⟨i,hi,h⟩
    have hi:=List.mem_range.mp hi
    rw[List.getElem?_eq_getElem hi,Option.getD_some] at h
    exact⟨_,List.getElem_mem hi,h⟩
  · rintro⟨b,hb,h⟩
    obtain⟨i,hi,rfl⟩:=List.getElem_of_mem hb
    exact⟨i,List.mem_range.mpr hi,by rw[List.getElem?_eq_getElem hi];exact h⟩
section
variable {X:Cx}
theorem call_anyB (hc:X.calm=true):CallR X (.builtin "any") (fun xs H Q=>∃p,∃bs:List Bool,xs=[.ref p]∧SqL X.K H p (bs.map V.bl)∧Q (.bl (bs.any id)) H):=by
  intro pins s σ H xs us Q I r h
  obtain⟨p,bs,rfl,hq,q⟩:=h
  obtain⟨u,rfl,rx⟩:=vals1 r
  cases rx
  obtain⟨its,r',pl,hz⟩:=I.list hq
  have hb:=boolsAre r'
  have hl:=pl.isList
  have hlt:p < s.heap.objs.size:=by obtain⟨_,e,_⟩:=hl;exact Heap.lt_size e
  refine call_any_walk (wpAny_pyIter_list hl ⟨s.heap.objs.size,[s.heap.objs.size,p],[s.heap.objs.size],its.toArray.size,_,_,fun i=>(bs[i]?).getD false,rfl,Walks.list (A:=X.A.in1) (I.ok.hd hc) _ p (Nat.ne_of_lt hlt) its.toArray,⟨⟨_,Heap.get?_push_size _ rfl,rfl,rfl⟩,hl.push _⟩,fun i v s' Q' E' hP hQ=>?_,fun h' tk hk=>?_⟩)
  · obtain⟨b,e,rfl⟩:=hb.get i v (by simpa using hP)
    simp only[e,Option.getD_some] at hQ
    exact wpAny_truthy_bool hQ
  · have e:((List.range its.toArray.size).any fun i=>(bs[i]?).getD false)=bs.any id:=by
      rw[List.size_toArray,hb.length];exact range_any bs
    rw[e]
    exact⟨.bl _,H,I.kept (LSm.kept_iter hk),rfl,q⟩
noncomputable def anyD:List D→R D
  | [.lst ds]=>match boolsOf ds with
    |some bs=> .ok (.bl (bs.any id))
    |none=> .bad
  |_=> .bad
theorem cd_any (hc:X.calm=true):CallD X (.builtin "any") anyD:=by
  refine⟨_,call_anyB hc,fun ρ O σ H Q xs ds j r h=>?_⟩
  unfold anyD at h
  split at h
  · rename_i ds
    obtain⟨x,rfl,rx⟩:=r.one
    obtain⟨a,ys,rfl,hq,_,rs⟩:=rx.lst
    cases e:boolsOf ds with
    |none=>rw[e] at h;exact h.elim
    | some bs=>
      rw[e] at h
      have ey:=bools_V e rs
      subst ey
      exact⟨a,bs,rfl,hq,fin h (rep_bl _)⟩
  · exact h.elim
end
section
variable {X:Cx} {e:Expr} {f:Rho→R D} {pos:Pos}
noncomputable def augM (i:Nat) (f:Rho→R D):Rho→So:=fun ρ=>match ρ[i]? with
  | some (some (.val (.int a)))=>ofR (f ρ) ρ fun d=>match d with
    | .int b=> .nx (ρ.set i (some (.val (.int (a - b)))))
    |_=> .bad
  |_=> .bad
theorem ds_augM (i:Nat) {x:Str} {pos':Pos} (hN:X.N.Nodup) (he:DE X e f) (hi:X.N[i]?=some x:=by rfl) (hx:Loc X.env.scope x:=by first |exact Or.inl rfl |exact Or.inr rfl)
    (hf:X.fn x=true∨X.env.scope.names.lookup x=some .local:=by first |exact .inl rfl |exact .inr rfl):DS X (.AugAssign (.Name x pos') .Sub e pos) (augM i f):=by
  refine PS.imp (ps_aug hN hi hx he ip_sub hf) fun σ H E h=>?_
  obtain⟨H0,O0,O,ρ,j,h⟩:=h
  unfold augM at h
  cases e1:ρ[i]? with
  |none=>simp only[e1] at h;exact h.elim
  | some oe =>
    cases oe with
    |none=>simp only[e1] at h;exact h.elim
    | some en=>
      cases en with
      |lst _=>simp only[e1] at h;exact h.elim
      |dic _=>simp only[e1] at h;exact h.elim
      |obj _=>simp only[e1] at h;exact h.elim
      | val d=>
        cases d with
        | int a=>
          simp only[e1] at h
          obtain⟨v,hv,rv⟩:=j.inn.env.get i _ e1
          have rv:v= .int a:=Rep.int (K:=X.K) (O:=O) (H:=H) rv
          subst rv
          refine⟨.int a,hv,ρ,O,j.inn,?_⟩
          unfold ofR at h
          cases e2:f ρ with
          |bad=>rw[e2] at h;exact h
          |err c=>rw[e2] at h;exact h σ H O j
          | ok d=>
            rw[e2] at h
            intro v' H' s r
            cases d with
            |int b=>exact⟨a,b,rfl,r.int,h _ H' O ((j.grow s).set (List.getElem?_eq_some_iff.mp hi).1 (rep_int _)) (Same.rch s)⟩
            |_=>exact h.elim
        |_=>simp only[e1] at h;exact h.elim
end
end Pu
namespace Pu
open PySem PySem.Spec PySem.W L2
open PyProof.Rows hiding St
section
variable {prog:Program} {w:World} {A:Around} {E:Value→Shared→Prop} {s:Shared}
end
section
variable {X:Cx}
end
end Pu
namespace Pu
open PySem PySem.Spec L2
open PyProof.Rows hiding St
noncomputable def spXT (ts:List (Addr×Str)) (K:PySem.W.Frag) (n:Nat) (F:List D→R D):Sp:=fun vs H Q E=>Tb ts H∧spX K n F vs H Q E
section
variable {P:Program} {w:World} {K:PySem.W.Frag} {mg:Str→Option Value} {base:Heap}
theorem fnXT {ts:List (Addr×Str)} {x qual:Str} {st:Stmt} {f:Addr} {fd:FuncData} {N ps:List Str} {k n m:Nat} {g:Rho→So} (Fn:Fun K x qual st f fd) (S:FnScope N ps (defScope st)) (hn:ps.length=n) (hm:N.length=n+m)
    (hb:∀(cdv:Value) (A:Around) (outer:List PySem.Env) (s:Shared) (H:Hp) (E:XK),Room k (A.deeper (envOfC qual (defScope st) s.heap.objs.size f cdv))→Tb ts H→DSs (cxOf (CX1 P w) P w K mg base N qual (defScope st) f cdv A outer s H E) (defBody st) g):
    FnOk P w K mg base (CX1 P w) (k+1) f fd ps (spXT ts K n (runB m g)):=by
  obtain⟨oc,od,kV,doc,pm,an,cdv,ct,osl,rfl,lk,hcd⟩:=Fn.ex
  refine fn_of lk hcd S (fun vs H Q E h=>?_) fun A outer s H vs Q E hr h=>?_
  · obtain⟨_,O,ds,r,hl,_⟩:=h
    rw[hn,←hl,r.length]
  · obtain ⟨hT,O,ds,r,hl,al,h⟩:=h
    refine⟨_,hb cdv A outer s H E hr hT,H,O,O,ds.map (fun d=>some (.val d))++List.replicate m none,?_,?_⟩
    · have hst:L2.start N vs=vs.map some++List.replicate m none:=by
        unfold L2.start
        rw[show N.length - vs.length=m by rw[←r.length];omega]
      refine⟨Same.refl _,.refl,fun _ z=>z,⟨⟨fun i e q=>?_,fun i k e e' v _ hi _ oi=>?_⟩,al,?_,?_⟩,fun i e a q ho=>?_⟩
      · obtain⟨v,h1,h2,_⟩:=map_rep r m i e q
        exact⟨v,by rw[hst];exact h1,h2⟩
      · obtain⟨_,_,_,h3⟩:=map_rep r m i e hi
        rw[h3] at oi;cases oi
      · show (L2.start N vs).length=N.length
        rw[hst,List.length_append,List.length_map,List.length_replicate,←r.length];omega
      · show (ds.map (fun d=>some (Ent.val d))++List.replicate m none).length=N.length
        rw[List.length_append,List.length_map,List.length_replicate];omega
      · obtain⟨_,_,_,h3⟩:=map_rep r m i e q
        rw[h3] at ho;cases ho
    · unfold runB at h
      cases e2:g (ds.map (fun d=>some (.val d))++List.replicate m none) with
      |rt d=>rw[e2] at h;exact fun v H' s' r'=>h v H' s' r'
      |nx ρ'=>rw[e2] at h;exact fun σ' H' O' j' _=>h .non H' j'.same rep_non
      |bk _=>rw[e2] at h;exact h.elim
      |ct _=>rw[e2] at h;exact h.elim
      |bad=>rw[e2] at h;exact h.elim
      | ex c ρ'=>
        rw[e2] at h
        intro σ' H' O' j' H1 pins s1 a C T s2 H2 sm I hC rs
        have J:Inv (cxOf (CX1 P w) P w K mg base N qual (defScope st) f cdv A outer s H E) pins σ' H2 s2:=I.call' rs.os rs.un rs.hok rs.bare fun b z=>absurd z (by simp)
        have rs0:Rsd P w (frs outer) H s a C T s2 H2:=Rsd.from I rfl rs (j'.same.trans sm)
        refine leave_exc (b0:=base) (L:=s.heap.objs.size) (outer:=outer) J.ok.frames J.stack rfl rs.exc fun h' t' ld=>?_
        refine⟨a,C,some t',H2,rfl,h C H2 hC,?_⟩
        have ne:∀b o,s.heap.get? b=some o→b≠a∧T≠some b:=fun b o q=>⟨fun z=>(by rw[z,rs0.na] at q;cases q),fun z=>(by rw[(rs0.nt b z).1] at q;cases q)⟩
        have nL:∀b o,s.heap.get? b=some o→b≠s.heap.objs.size:=fun b o q=>Nat.ne_of_lt (Heap.lt_size q)
        have fr:∀b,b∈frs (envOfC qual (defScope st) s.heap.objs.size f cdv::outer)→b=s.heap.objs.size∨b∈frs outer:=fun b hb=>List.mem_cons.mp hb
        have fr':∀b,b∈frs outer→b∈frs (envOfC qual (defScope st) s.heap.objs.size f cdv::outer):=fun b hb=>List.mem_cons_of_mem _ hb
        have hfree:∀b,b∈frs (envOfC qual (defScope st) s.heap.objs.size f cdv::outer)→H2 b=none:=J.stkFree
        refine⟨rs0.same,⟨fun b o q n hb hx=>?_,fun b o q n hb hx=>?_,rs0.un.free,fun b o q hx=>?_,rs0.un.tups,rs0.un.frzs,rs0.un.tbls⟩,ld.hok rs0.hok rs0.ha (fun t z=>(rs0.nt t z).2) hfree,rs0.os,rs0.bare,ld.exc,rs0.na,rs0.ha,fun t z=>?_⟩
        · exact ld.keep b o (rs0.un.keep b o q n hb hx) (ne b o q).1 (ne b o q).2 fun z=>(fr b z).elim (nL b o q) hb
        · obtain⟨sl,e⟩:=rs0.un.slot b o q n hb hx
          obtain⟨sl',e'⟩:=ld.slot b _ e (fr' b hb)
          exact⟨sl',e'⟩
        · obtain⟨o',e⟩:=rs0.un.there b o q hx
          by_cases hb:b∈frs (envOfC qual (defScope st) s.heap.objs.size f cdv::outer)
          · obtain⟨sl',e'⟩:=ld.slot b _ e hb
            exact⟨_,e'⟩
          · exact⟨o',ld.keep b o' e (ne b o q).1 (ne b o q).2 hb⟩
        · cases z
          rcases ld.old with z |z
          · exact rs0.nt t' z
          · refine⟨?_,hok_none rs0.hok z⟩
            cases q:s.heap.get? t' with
            |none=>rfl
            | some o=>
              obtain⟨o',e⟩:=rs0.un.there t' o q (by simp)
              rw[z] at e;cases e
end
noncomputable def FnTX (P:Program) (w:World) (K:PySem.W.Frag) (mg:Str→Option Value) (base:Heap) (k:Nat) (x:Str) (n:Nat) (F:List D→R D) (fd:FuncData) (ps:List Str) (ts:List (Addr×Str)):Prop:=
  ∃f,FnOk P w K mg base (CX1 P w) k f fd ps (spXT ts K n F)∧mg x=some (.ref f)∧PySem.W.keepIn K (.ref f)=true
noncomputable def callKX (F:List D→R D) (n m:Nat) (sel:List (Sum Nat D)) (fa fk:Rho→R (List D)):Rho→R D:=fun ρ=>(fa ρ).bind fun ds=>(fk ρ).bind fun zs=>if zs.length=m then okN F n (ds++pickK .non sel zs) else .bad
section
variable {X:Cx} {k m n:Nat} {f:Addr} {fd:FuncData} {ps ks:List Str} {F:List D→R D} {x:Str} {p pos:Pos} {e:Expr} {es:List Expr} {kws:List Keyword} {fa fk:Rho→R (List D)} {ts:List (Addr×Str)}
theorem call_X (ok:FnOk X.prog X.w X.K X.mg X.base (CX1 X.prog X.w) k f fd ps (spXT ts X.K n F)) (hr:Room m X.A) (hkm:k≤m) {pins:List (Addr×Obj)} {σ:St} {H:Hp} {s:Shared} {O:Addr→Prop} {ρ:Rho} {ds:List D} {vs:List V} {us:List Value} {pa:List Value} {kw:List (Str×Value)} {Q:VK}
    (I:Inv X pins σ H s) (hT:Tb ts H) (r1:Reps X.K O H ds vs) (r:Vals vs us) (j:In X O H ρ σ) (hb:us.length=ps.length→BindsTo s fd ⟨pa,kw⟩ (ps.zip us)) (h:good X (rD X) O (okN F n ds) σ H Q):wpAny (model X.prog X.w) X.A (PySem.call (.ref f) pa kw) (EP X pins σ Q) X.xe s:=by
  unfold okN at h
  by_cases hl:ds.length=n
  · rw[if_pos hl] at h
    have sp:spXT ts X.K n F vs H Q fun u _ _=>∃c C,F ds= .err c∧u= .ref C∧PySem.W.nsIn X.K mainGlobals c=some (some (.ref C)):=by
      refine⟨hT,O,ds,r1,hl,j.al,?_⟩
      cases q:F ds with
      |ok d=>rw[q] at h;exact h
      |bad=>rw[q] at h;exact h
      |err c=>exact fun C _ hC=>⟨c,C,rfl,rfl,hC⟩
    have hll:us.length=ps.length:=by rw[←r.length];exact ok.len _ _ _ _ sp
    refine wpAny_call (codeAny_mono ((ok.mono hkm).run X.A X.stack s H ⟨pa,kw⟩ us vs Q _ hr I.env0 (hb hll) r sp) fun r s' hq=>?_)
    cases r with
    | error ev=>
      obtain⟨a,C,T,H',rfl,hE,rs⟩:=hq
      obtain⟨c,C',q,z,hC⟩:=hE
      cases z
      rw[q] at h
      exact h H pins s a C T s' H' (Same.refl _) I hC rs
    | ok fl=>
      cases fl with
      |ret u=>exact I.after hq
      |next=>exact False.elim hq
      |brk=>exact False.elim hq
      |cont=>exact False.elim hq
  · rw[if_neg hl] at h;exact h.elim
theorem de_fnXD {sa sb sc} (S:Sel sa sb sc) (G:FnTX X.prog X.w X.K X.mg X.base k x n F fd ps ts) (hT:Tb ts X.H₀) (hr:Room m X.A) (hkm:k≤m) (hb:KB X.K fd ps [] sa)
    (ha:DA X (e::es) fa) (hg:Gl X x:=by rfl) (hdb:(x ==("__debug__" :Str))=false:=by decide) (he:starEach (e::es) X.env=(false,eval e X.env)::starEach es X.env:=by rfl) (hpl:(backTo pos (starEach es X.env)).any (·.1)=false:=by rfl):
    DE X (.Call (.Name x p) (e::es) [] pos) (callKX F n 0 sc fa (fun _=> .ok [])):=by
  obtain⟨f,ok,hm,hk⟩:=G
  intro pins s σ H Q I h
  obtain⟨ρ,O,j,h⟩:=h
  refine wpAny_Call_Name_kw (ld_glob I hg hm ?_ hdb)
  have key:tG X (rDs X) fa σ H (fun vs H1=>∃ds,Same H H1∧Reps X.K O H1 ds vs∧In X O H1 ρ σ∧good X (rD X) O (okN F n (ds++pickK .non sc [])) σ H1 Q):=go j h fun ds vs H1 e1 s1 r1 j1 h1=>⟨ds,s1,r1,j1,h1⟩
  refine PySem.W.callWith_K (h₀:=X.base) I.ok.mod.kin hk (thn (ha pos pins s σ H _ I key) fun us s1 ⟨vs,H1,I1,r,q⟩=>⟨I1.kIn,?_⟩) he hpl
  obtain⟨ds,sm,r1,j1,h1⟩:=q
  exact call_X ok hr hkm I1 (hT.un I1.base) (r1.append (S.reps .nil)) (r.append (S.vals .nil)) j1 (fun hl=>hb s1 us [] I1.kIn (by rw[List.length_append,pickK_len] at hl;exact hl) rfl) h1
theorem de_fnXK {sa sb sc} (S:Sel sa sb sc) (G:FnTX X.prog X.w X.K X.mg X.base k x n F fd ps ts) (hT:Tb ts X.H₀) (hr:Room m X.A) (hkm:k≤m) (hb:KB X.K fd ps ks sa)
    (ha:DA X (e::es) fa) (hkw:DK X kws fk) (hg:Gl X x:=by rfl) (hall:(backToKw pos (keywordEach kws X.env)).all (·.1.isSome)=true:=by rfl) (hks:(backToKw pos (keywordEach kws X.env)).filterMap (·.1)=ks:=by rfl)
    (hdb:(x ==("__debug__" :Str))=false:=by decide) (he:starEach (e::es) X.env=(false,eval e X.env)::starEach es X.env:=by rfl)
    (hpl:((backTo pos (starEach (e::es) X.env)).any (·.1) || (backToKw pos (keywordEach kws X.env)).any (·.1.isNone))=false:=by rfl):
    DE X (.Call (.Name x p) (e::es) kws pos) (callKX F n ks.length sc fa fk):=by
  obtain⟨f,ok,hm,hk⟩:=G
  intro pins s σ H Q I h
  obtain⟨ρ,O,j,h⟩:=h
  refine wpAny_Call_Name_kw (ld_glob I hg hm ?_ hdb)
  have key:tG X (rDs X) fa σ H fun vs H1=>tG X (rDs X) fk σ H1 fun zs H2=>zs.length=ks.length∧∃dd,Reps X.K O H2 dd (vs++pickK .non sb zs)∧In X O H2 ρ σ∧good X (rD X) O (okN F n dd) σ H2 Q:=by
    refine go j h fun ds vs H1 e1 s1 r1 j1 h1=>?_
    refine go j1 h1 fun zd zs H2 e2 s2 r2 j2 h2=>?_
    by_cases hz:zd.length=ks.length
    · rw[if_pos hz] at h2
      exact⟨by rw[←r2.length];exact hz,_,(r1.same s2).append (S.reps r2),j2,h2⟩
    · rw[if_neg hz] at h2;exact h2.elim
  refine PySem.W.callWith_KW (h₀:=X.base) I.ok.mod.kin hk hall (thn (ha pos pins s σ H _ I key) fun us s1 ⟨vs,H1,I1,r,q⟩=>?_) hpl he
  refine thn (hkw pos pins s1 σ H1 _ I1 q) fun ws s2 ⟨zs,H2,I2,rz,q2⟩=>⟨I2.kIn,?_⟩
  rw[hks]
  obtain⟨hz,dd,r1,j1,h1⟩:=q2
  exact call_X ok hr hkm I2 (hT.un I2.base) r1 (r.append (S.vals rz)) j1 (fun hl=>hb s2 us ws I2.kIn (by rw[List.length_append,pickK_len] at hl;exact hl) (by rw[←rz.length];exact hz)) h1
theorem kb_of {K:PySem.W.Frag} (b:Binds K fd ps []):KB K fd ps [] []:=fun s us ws i hl hw=>by
  cases List.eq_nil_of_length_eq_zero hw
  have:=b s us i (by rw[List.append_nil];exact hl)
  simpa[pickK] using this
end
end Pu
namespace Pu
open PySem PySem.Spec L2
open PyProof.Rows hiding St
noncomputable def dnN (i j k:Int):Nat:=if i > j then ((i - j - 1) / (-k)+1).toNat else 0
noncomputable def dnL (i:Int) (n:Nat) (k:Int):List D:=(List.range n).map fun (t:Nat)=>D.int (i+(t:Int)*k)
theorem dn_div {i j k:Int} (hk:k < 0) (h:i > j):0≤(i - j - 1) / (-k)∧(i - j - 1) / (-k)≤i - j - 1:=
  ⟨Int.ediv_nonneg (by omega) (by omega),Int.ediv_le_self _ (by omega)⟩
theorem dnN_eq {i j k:Int} (hk:k < 0):Builtin.Range.rangeSize i j k=(dnN i j k:Int):=by
  unfold Builtin.Range.rangeSize dnN
  rw[if_neg (by omega)]
  by_cases h:i > j
  · rw[if_pos h,if_pos h]
    have:=dn_div hk h
    omega
  · rw[if_neg h,if_neg h];rfl
theorem small_c {a b c:Int} (ha: -(2 ^ 40)≤a) (ha':a < 2 ^ 40) (hb: -(2 ^ 40)≤b) (hb':b < 2 ^ 40) (hc: -(2 ^ 28)≤c) (hc':c < 0):Builtin.Range.small a b c=true:=by
  unfold Builtin.Range.small
  rw[dnN_eq hc']
  have:(dnN a b c:Int)≤2 ^ 42:=by
    unfold dnN
    by_cases h:a > b
    · rw[if_pos h]
      have:=dn_div hc' h
      omega
    · rw[if_neg h];decide
  simp only[Builtin.Range.rangeFitsLong,Bool.and_eq_true,Bool.or_eq_true,decide_eq_true_eq,beq_iff_eq,if_neg (show ¬c > 0 by omega)]
  omega
theorem YR.stepC {K:PySem.W.Frag} {O:Addr→Prop} {H:Hp} (hi:Int) (n:Nat) (k:Int):YR K O H (Its hi n k) (dnL hi n k):=by
  intro O' H' _
  intro i
  refine⟨fun d e=>?_,fun e=>?_⟩
  · unfold dnL at e
    rw[List.getElem?_map] at e
    cases q:(List.range n)[i]? with
    |none=>rw[q] at e;cases e
    | some k=>
      rw[q] at e
      have hk:i < n∧i=k:=by simpa[List.getElem?_range] using (List.getElem?_eq_some_iff.mp q)
      obtain⟨h1,rfl⟩:=hk
      cases e
      refine⟨h1,fun x H2 y=>?_⟩
      obtain⟨rfl,rfl⟩:=y
      exact⟨Same.refl _,rep_int _⟩
  · show n≤i
    unfold dnL at e
    simpa using e
section
variable {X:Cx} {tg a b c:Expr} {p pos p2 pos2:Pos} {fa:Rho→R (List D)} {ta:TA}
noncomputable def iRngC (ta:TA):TI:=fun σ H R=>ta σ H fun vs H1=>∃i j k:Int,vs=[.int i,.int j,.int k]∧(-(2 ^ 40)≤i∧i < 2 ^ 40∧-(2 ^ 40)≤j∧j < 2 ^ 40∧-(2 ^ 28)≤k∧k < 0)∧R (Its i (dnN i j k) k) H1
theorem pi_rangeC (hg:Gl X "range") (hm:X.mg "range" =none) (ha:PA X [a,b,c] ta) (hs:starEach [a,b,c] X.env=(false,eval a X.env)::starEach [b,c] X.env:=by rfl) (hpl:(backTo pos (starEach [b,c] X.env)).any (·.1)=false:=by rfl):
    PI X tg (.Call (.Name "range" p) [a,b,c] [] pos) (iRngC ta):=by
  intro pins s σ H R I h
  refine Call_ (ld_blt I hg hm boot_range (PyProof.Rows.callWith_type1 (thn (ha pos pins s σ H _ I h) fun us s1 ⟨vs,H1,I1,r1,q1⟩=>?_) hs hpl))
  obtain⟨i,j,k,e,⟨q1,q2,q3,q4,q5,q6⟩,q⟩:=q1
  subst e
  cases r1 with
  | cons r rr=>
    cases rr with
    | cons r' rr=>
      cases rr with
      | cons r'' rr=>
        cases rr
        obtain⟨t,rfl⟩:=r
        obtain⟨t',rfl⟩:=r'
        obtain⟨t'',rfl⟩:=r''
        refine call_range_3 (by omega) ?_ (Or.inl (PyProof.noPylong_small (by omega)))
        refine wpAny_pyIter_range (IsRange.new ..) (small_c q1 q2 q3 q4 q5 q6) ?_
        have I2:Inv X pins σ H1 {s1 with heap:=s1.heap.push {cls:= .type "range",data:= .fields #[.int i t,.int j t',.int k t'']}}:=I1.kept (t':=s1.toks) fun b o e=>Heap.get?_push_of_some _ e
        refine⟨(s1.heap.push {cls:= .type "range",data:= .fields #[.int i t,.int j t',.int k t'']}).objs.size,[(s1.heap.push {cls:= .type "range",data:= .fields #[.int i t,.int j t',.int k t'']}).objs.size],_,_,H1,rfl,
          I2.kept (t':=s1.toks) fun b o e=>Heap.get?_push_of_some _ e,turn_step _ i (dnN i j k) k,?_,fun b hb=>?_,q⟩
        · have e1:i+((0:Nat):Int)*k=i:=by simp
          have e2:((dnN i j k:Nat):Int) - ((0:Nat):Int)=Builtin.Range.rangeSize i j k:=by rw[dnN_eq q6];omega
          show IsRangeIter _ _ (i+((0:Nat):Int)*k) (((dnN i j k:Nat):Int) - ((0:Nat):Int)) k
          rw[e1,e2]
          exact Heap.get?_push_size _ rfl
        · have e:b=(s1.heap.push {cls:= .type "range",data:= .fields #[.int i t,.int j t',.int k t'']}).objs.size:=by simpa using hb
          subst e
          exact I2.fpOk (Nat.le_refl _) (I2.hok.fresh (Nat.le_refl _))
noncomputable def rngC:List D→R (List D)
  |[.int i,.int j,.int k]=>if -(2 ^ 40)≤i∧i < 2 ^ 40∧-(2 ^ 40)≤j∧j < 2 ^ 40∧-(2 ^ 28)≤k∧k < 0 then .ok (dnL i (dnN i j k) k) else .bad
  |_=> .bad
theorem di_rangeC (hg:Gl X "range") (hm:X.mg "range" =none) (ha:DA X [a,b,c] fa) (hs:starEach [a,b,c] X.env=(false,eval a X.env)::starEach [b,c] X.env:=by rfl) (hpl:(backTo pos (starEach [b,c] X.env)).any (·.1)=false:=by rfl):
    DI X tg (.Call (.Name "range" p) [a,b,c] [] pos) (fun ρ=>(fa ρ).bind rngC):=by
  refine PI.imp (pi_rangeC hg hm ha hs hpl) fun σ H Q q=>?_
  obtain⟨ρ,O,j,q⟩:=q
  refine go j q fun ds vs H1 e1 s1 r1 j1 h1=>?_
  unfold rngC at h1
  split at h1
  · rename_i i j k
    by_cases hh: -(2 ^ 40)≤i∧i < 2 ^ 40∧-(2 ^ 40)≤j∧j < 2 ^ 40∧-(2 ^ 28)≤k∧k < 0
    · rw[if_pos hh] at h1
      obtain⟨v1,v2,v3,rfl,w1,w2,w3⟩:=r1.three
      refine⟨i,j,k,by rw[w1.int,w2.int,w3.int],hh,fin h1 (YR.stepC i _ k)⟩
    · rw[if_neg hh] at h1;exact h1.elim
  · exact h1.elim
end
end Pu
namespace Pu
open PySem PySem.Spec PySem.W L2
open PyProof.Rows hiding St
open PySem.SeqAt
section
variable {X:Cx} {e1 e2:Expr} {f g:Rho→R D}
theorem eq_items {pins:List (Addr×Obj)} {σ:St} {H:Hp} {s:Shared} {A:Around} {O O':Addr→Prop} {d:D} {y:V} {u:Value} (I:Inv X pins σ H s) (re:Rep X.K O' H d y) (ru:RelV y u) (hA:∀(d':D) (v:V) (w:Value),dep d'≤40→Rep X.K O H d' v→RelV v w→EqAt A s w u (eqD d' d)):
    ∃e:Value→Bool,∀(ds:List D) (vs:List V) (its:List Value),Reps X.K O H ds vs→Vals vs its→(∀d'∈ds,dep d'≤40)→its.map e=ds.map (eqD · d)∧∀w∈its,EqAt A s w u (e w):=by
  classical
  have key:∀d' v w,Rep X.K O H d' v→RelV v w→(decide (∃d' v,Rep X.K O H d' v∧RelV v w∧eqD d' d=true))=eqD d' d:=fun d' v w r1 q1=>by
    cases z:eqD d' d with
    |true=>exact decide_eq_true ⟨d',v,r1,q1,z⟩
    | false=>
      refine decide_eq_false fun hpz1=>?_
      obtain⟨d2,v2,r2,q2,z2⟩:=hpz1
      have ev:v2=v:=RelV.inj q2 q1
      subst ev
      rw[Rep.inj I d2 d' v2 r2 r1,z] at z2
      cases z2
  refine⟨fun w=>decide (∃d' v,Rep X.K O H d' v∧RelV v w∧eqD d' d=true),fun ds=>?_⟩
  induction ds with
  |nil=>intro vs its r q _;rw[r.nil_inv] at q;cases q;exact⟨rfl,fun w m=>by cases m⟩
  | cons a ds ih=>
    intro vs its r q hd
    obtain⟨x,t,rfl,h1,h2⟩:=r.cons_inv
    cases q with
    | cons q1 q2=>
      obtain⟨i1,i2⟩:=ih _ _ h2 q2 fun d' m=>hd d' (List.mem_cons_of_mem _ m)
      refine⟨by rw[List.map_cons,List.map_cons,i1,key a _ _ h1 q1],fun w m=>?_⟩
      rcases List.mem_cons.mp m with rfl |m
      · show EqAt _ _ _ _ (decide _)
        rw[key a _ _ h1 q1]
        exact hA a _ _ (hd a List.mem_cons_self) h1 q1
      · exact i2 w m
theorem any_of {e:Value→Bool} {d:D} {its:List Value} {ds:List D} (h:its.map e=ds.map (eqD · d)):its.any e=ds.any (eqD · d):=by
  have a:(its.map e).any id=its.any e:=by rw[List.any_map];rfl
  have b:(ds.map (eqD · d)).any id=ds.any (eqD · d):=by rw[List.any_map];rfl
  rw[←a,h,b]
noncomputable def inUD (d:D):D→R D
  | .lst ds=>if ds.all (fun d'=>decide (dep d'≤40)) then .ok (.bl (ds.any (eqD · d))) else .bad
  |_=> .bad
theorem od_inU (hu:X.A.units+60 < cLine):OpD X (compareOp .In) inUD:=by
  refine⟨fun x y H Q=>∃(l:Addr) (ds:List D) (vs:List V) (O O':Addr→Prop) (d:D),y= .ref l∧SqL X.K H l vs∧Reps X.K O H ds vs∧Rep X.K O' H d x∧(∀d'∈ds,dep d'≤40)∧Q (.bl (ds.any (eqD · d))) H,?_,?_⟩
  · intro pins s σ H x y v u Q I rx ry h
    obtain⟨l,ds,vs,O,O',d,rfl,hq,rs,re,hd,q⟩:=h
    cases ry
    obtain⟨its,r',pl,hz⟩:=I.list hq
    obtain⟨e,he⟩:=eq_items (A:=X.A.in1) I re rx (O:=O) fun d' v' w hd' r q=>eqAt_all I 40 _ d' hd' (by simp;omega) d v' x w v r re q rx
    obtain⟨h1,h2⟩:=he ds vs its rs r' hd
    refine SeqAt.in_listAt e pl.isList (fun w hw=>h2 w (by simpa using hw)) ⟨.bl _,H,I,rfl,?_⟩
    rw[show its.toArray.any e=its.any e by simp,any_of h1]
    exact q
  · intro ρ O σ H Q x y dx dy j0 rx ry h
    cases dy with
    | lst ds=>
      obtain⟨a,xs,rfl,hq,hna,rs⟩:=ry.lst
      have h:good X (rD X) O (if ds.all (fun d'=>decide (dep d'≤40)) then .ok (.bl (ds.any (eqD · dx))) else .bad) σ H Q:=h
      by_cases hall:ds.all (fun d=>decide (dep d≤40))=true
      · rw[if_pos hall] at h
        exact⟨a,ds,xs,O,O,dx,rfl,hq,rs,rx,fun d m=>of_decide_eq_true (List.all_eq_true.mp hall d m),fin h (rep_bl _)⟩
      · rw[if_neg hall] at h;exact h.elim
    |_=>exact h.elim
theorem mt_index (hu:X.A.units+60 < cLine):MtR X "list.index" (fun x xs H Q=>∃(l:Addr) (ds:List D) (vs:List V) (O O':Addr→Prop) (d:D) (y:V),x= .ref l∧xs=[y]∧SqL X.K H l vs∧Reps X.K O H ds vs∧Rep X.K O' H d y∧(∀d'∈ds,dep d'≤40)∧ds.findIdx (eqD · d) < ds.length∧ds.length≤1000000∧Q (.int (ds.findIdx (eqD · d):Nat)) H):=by
  intro pins s σ H x xs v us Q I rx rv h
  obtain⟨l,ds,vs,O,O',d,y,rfl,rfl,hq,rs,re,hd,hlt,hln,q⟩:=h
  cases rx
  obtain⟨u,rfl,ru⟩:=rv.one
  obtain⟨its,r',pl,hz⟩:=I.list hq
  obtain⟨⟨cls,dd,data,sl⟩,ho,hc,n,hdt⟩:=id pl.isList
  simp only at hc hdt
  subst hc hdt
  obtain⟨e,he⟩:=eq_items (A:=X.A.in1) I re ru (O:=O) fun d' v' w hd' r q=>eqAt_all I 40 _ d' hd' (by simp;omega) d v' y w u r re q ru
  obtain⟨h1,h2⟩:=he ds vs its rs r' hd
  have hlen:its.length=ds.length:=by have:=congrArg List.length h1;simpa using this
  have hat:∀(i:Nat) (hi:i < its.length),e its[i]=eqD (ds[i]'(by omega)) d:=fun i hi=>by
    have:=congrArg (fun l=>l[i]?) h1
    simp only[List.getElem?_map,List.getElem?_eq_getElem hi,List.getElem?_eq_getElem (show i < ds.length by omega),Option.map_some] at this
    exact Option.some.inj this
  refine call_meets PySem.F.slot_list_index ⟨_,ho,rfl⟩ PySem.F.entry_list_index (PySem.F.args_list_index_2 _ _) (list_indexAt l its.toArray n dd sl u e (ds.findIdx (eqD · d)) (by simp;omega) (by omega) ?_ fun m hm hj=>?_) ⟨ho,fun w hw=>h2 w (by simpa using hw),?_⟩
  · rw[List.getElem_toArray,hat _ (by omega)]
    exact List.findIdx_getElem (w:=hlt)
  · rw[List.getElem_toArray,hat _ (by omega)]
    have:=List.not_of_lt_findIdx hj
    simpa using this
  · exact⟨.int _,H,I.tok _,⟨_,rfl⟩,q⟩
noncomputable def idxUD:D→D→R D
  | .lst ds,d=>if ds.all (fun d'=>decide (dep d'≤40))=true∧ds.findIdx (eqD · d) < ds.length∧ds.length≤1000000 then .ok (.int (ds.findIdx (eqD · d):Nat)) else .bad
  |_,_=> .bad
noncomputable def idxW (f g:Rho→R D):Rho→R D:=fun ρ=>(f ρ).bind fun x=>match x with
  | .lst ds=>(g ρ).bind fun y=>idxUD (.lst ds) y
  |_=> .bad
theorem de_index {apos cpos:Pos} (hu:X.A.units+60 < cLine) (h1:DE X e1 f) (h2:DE X e2 g)
    (hbase:attributeBase e1 "index" X.env (eval e1 X.env)=eval e1 X.env:=by rfl)
    (hfew:((backTo cpos (starEach [e2] X.env)).all (fun x=> !x.1) && (backToKw cpos (keywordEach [] X.env)).all (fun x=>x.1.isSome)
      && decide ([e2].length+([]:List Keyword).length+(if ([]:List Keyword).isEmpty then 0 else 1) < 30))=true:=by rfl)
    (hline:(apos.endLine ==cpos.line)=true:=by rfl) (hs1:starEach [e2] X.env=(false,eval e2 X.env)::starEach [] X.env:=by rfl) (hplain:(backTo cpos (starEach [] X.env)).any (·.1)=false:=by rfl):
    DE X (.Call (.Attribute e1 "index" apos) [e2] [] cpos) (idxW f g):=by
  refine PE.imp (pe_bm PySem.F.plainAttrs_list PySem.F.slot_list_index PySem.F.type_list_index (mt_index hu) h1 (pa_cons h2 pa_nil hs1) hbase hfew hline hs1 hplain) fun σ H Q h=>?_
  obtain⟨ρ,O,j,h⟩:=h
  refine go j h fun d v H1 e1 s1 r1 j1 h1=>?_
  cases d with
  | lst ds=>
    obtain⟨a,xs,rfl,hq,hna,rs⟩:=r1.lst
    refine⟨.inl ⟨rfl,xs,hq⟩,?_⟩
    refine go j1 h1 fun dy y H2 e2 s2 r2 j2 h2=>?_
    obtain⟨a',xs',ea,hq',_,rs'⟩:=(r1.same s2).lst
    cases ea
    have h2:good X (rD X) O (if ds.all (fun d'=>decide (dep d'≤40))=true∧ds.findIdx (eqD · dy) < ds.length∧ds.length≤1000000 then .ok (.int (ds.findIdx (eqD · dy):Nat)) else .bad) σ H2 Q:=h2
    by_cases hall:ds.all (fun d'=>decide (dep d'≤40))=true∧ds.findIdx (eqD · dy) < ds.length∧ds.length≤1000000
    · rw[if_pos hall] at h2
      exact⟨a,ds,xs',O,O,dy,y,rfl,rfl,hq',rs',r2,fun d m=>of_decide_eq_true (List.all_eq_true.mp hall.1 d m),hall.2.1,hall.2.2,fin h2 (rep_int _)⟩
    · rw[if_neg hall] at h2;exact h2.elim
  |_=>exact h1.elim
end
end Pu
namespace K20
open PySem PySem.Spec L2 Pu
open PyProof.Rows hiding St
noncomputable def subX (c t:Str):Bool:=(c == "NoSeam" && (["NoSeam","SeamError","ValueError"]:List Str).contains t) || (c == "NoNumber" && (["NoNumber","SeamError","ValueError"]:List Str).contains t) || false
theorem sub_cases {c t:Str} (h:subX c t=true):c= "NoSeam"∨c= "NoNumber" :=by
  unfold subX at h
  simp only[Bool.or_eq_true,Bool.and_eq_true,beq_iff_eq,Bool.false_eq_true,or_false] at h
  rcases h with h |h
  · exact .inl h.1
  · exact .inr (h.1)
noncomputable def g__law_drawn:Rho→So:=(seqS (asgS (bin (fun _=> .ok (.int 7)) (fun ρ=>getV ρ 1) mulI) (setV 3)) (seqS (ifS (tst (bin (fun ρ=>getV ρ 0) (lstV (fun _=> .ok [])) neK)) (seqS (asgS (bin (fun ρ=>getV ρ 0) (bin (fun ρ=>getV ρ 1) (callV lenD (consA (fun ρ=>getV ρ 0) (fun _=> .ok []))) modI) ixD) (setV 3)) (seqS (asgS (bin (fun ρ=>getV ρ 1) (callV lenD (consA (fun ρ=>getV ρ 0) (fun _=> .ok []))) divI) (setV 4)) (seqS (ifS (andT (tst (bin (fun ρ=>getV ρ 3) (bin (fun _=> .ok (.int 10)) (fun _=> .ok (.int 18)) powI) geI)) (tst (bin (fun ρ=>getV ρ 4) (fun _=> .ok (.int 60)) ltI))) (seqS (asgS (bin (fun ρ=>getV ρ 3) (bin (fun _=> .ok (.int 10)) (fun _=> .ok (.int 18)) powI) divI) (setV 5)) (seqS (whS (andT (tst (bin (fun ρ=>getV ρ 5) (fun _=> .ok (.int 0)) gtI)) (tst (bin (fun ρ=>getV ρ 4) (fun _=> .ok (.int 0)) gtI))) (seqS (asgS (bin (fun ρ=>getV ρ 5) (fun _=> .ok (.int 1000000)) divI) (setV 5)) (asgS (bin (fun ρ=>getV ρ 4) (fun _=> .ok (.int 1)) subI) (setV 4))) 64) (ifS (tst (bin (fun ρ=>getV ρ 5) (fun _=> .ok (.int 0)) gtI)) (retS (bin (bin (fun ρ=>getV ρ 5) (fun _=> .ok (.int 1000000)) modI) (fun ρ=>getV ρ 2) modI)) So.nx))) So.nx) (asgS (bin (fun ρ=>getV ρ 3) (bin (fun _=> .ok (.int 6553)) (bin (fun ρ=>getV ρ 1) (callV lenD (consA (fun ρ=>getV ρ 0) (fun _=> .ok []))) divI) mulI) catD) (setV 3))))) So.nx) (seqS (asgS (bin (bin (bin (bin (fun ρ=>getV ρ 3) (fun _=> .ok (.int 2147483563)) modI) (fun _=> .ok (.int 69069)) mulI) (bin (fun _=> .ok (.int 104723)) (bin (fun ρ=>getV ρ 1) (fun _=> .ok (.int 1)) catD) mulI) catD) (fun _=> .ok (.int 2147483563)) modI) (setV 3)) (seqS (asgS (bin (bin (bin (fun ρ=>getV ρ 3) (fun ρ=>getV ρ 3) mulI) (bin (fun ρ=>getV ρ 3) (fun _=> .ok (.int 3)) divI) catD) (fun _=> .ok (.int 2147483399)) modI) (setV 3)) (retS (bin (bin (bin (bin (bin (fun ρ=>getV ρ 3) (fun ρ=>getV ρ 3) mulI) (bin (fun ρ=>getV ρ 3) (fun _=> .ok (.int 7)) divI) catD) (fun _=> .ok (.int 2147483647)) modI) (fun _=> .ok (.int 11)) divI) (fun ρ=>getV ρ 2) modI))))))
noncomputable def F__law_drawn:List D→R D:=runB 3 g__law_drawn
noncomputable def mkB:Rho→So:=(seqS (asgS (bin (bin (fun ρ=>getV ρ 1) (fun _=> .ok (.int 1)) addD) (bin (callV lenD (consA (fun ρ=>getV ρ 6) (fun _=> .ok []))) (fun ρ=>getV ρ 5) mulD) addD) (setV 7)) (appS 3 (callV tupD (consA (compV 1 [7,0,4] (fun ρ=>((consA (callV lenD (consA (fun ρ=>getV ρ 6) (fun _=> .ok []))) (fun _=> .ok [])) ρ).bind rng1) (setV 0) (fun _=> .ok true) (bin (fun ρ=>getV ρ 3) (callV (noErr F__law_drawn 3) (consA (fun ρ=>getV ρ 2) (consA (bin (fun ρ=>getV ρ 1) (fun ρ=>getV ρ 0) addD) (consA (callV lenD (consA (fun ρ=>getV ρ 3) (fun _=> .ok []))) (fun _=> .ok []))))) ixD)) (fun _=> .ok [])))))
noncomputable def g__law_marks:Rho→So:=(seqS (newL (fun _=> .ok []) 3) (seqS (asgS (bin (lstV (consA (lstV (consA (fun _=> .ok (.int 0)) (consA (fun _=> .ok (.int 0)) (consA (fun _=> .ok (.int 0)) (consA (fun _=> .ok (.int 1)) (consA (fun _=> .ok (.int 2)) (fun _=> .ok []))))))) (consA (lstV (consA (fun _=> .ok (.int 0)) (consA (fun _=> .ok (.int 0)) (consA (fun _=> .ok (.int 0)) (consA (fun _=> .ok (.int 0)) (consA (fun _=> .ok (.int 1)) (fun _=> .ok []))))))) (consA (lstV (consA (fun _=> .ok (.int 0)) (consA (fun _=> .ok (.int 0)) (consA (fun _=> .ok (.int 2)) (consA (fun _=> .ok (.int 0)) (consA (fun _=> .ok (.int 0)) (fun _=> .ok []))))))) (consA (lstV (consA (fun _=> .ok (.int 0)) (fun _=> .ok []))) (fun _=> .ok [])))))) (callV (noErr F__law_drawn 3) (consA (fun ρ=>getV ρ 0) (consA (fun ρ=>getV ρ 1) (consA (fun _=> .ok (.int 4)) (fun _=> .ok []))))) ixD) (setV 4)) (seqS (forS (fun ρ=>((consA (fun ρ=>getV ρ 2) (fun _=> .ok [])) ρ).bind enumD) (tupG (lenG 2 (consG (setV 5) (consG (setV 6) nilG)))) mkB) (retS (callV tupD (consA (fun ρ=>getV ρ 3) (fun _=> .ok [])))))))
noncomputable def F__law_marks:List D→R D:=runB 5 g__law_marks
noncomputable def g_as_good:Rho→So:=(seqS (ifS (notT (tstL (fun ρ=>getV ρ 0))) (retS (lstV (fun _=> .ok []))) So.nx) (seqS (asgS (sliceV (callV minU (consA (fun ρ=>getV ρ 0) (fun _=> .ok []))) (fun _=> .ok none) (fun ρ=>(((fun _=> .ok (.int 2)):Rho→R D) ρ).bind asI)) (tupG (lenG 2 (consG (setV 1) (consG (setV 2) nilG))))) (seqS (asgS (compV 3 [2,1] (seqI (fun ρ=>getV ρ 0)) (tupG (lenG 3 (consG (setV 0) (consG (setV 1) (consG (setV 2) nilG))))) (andT (tst (bin (fun ρ=>getV ρ 0) (fun ρ=>getV ρ 4) eqK)) (tst (bin (fun ρ=>getV ρ 1) (fun ρ=>getV ρ 3) eqK))) (fun ρ=>getV ρ 2)) (setV 3)) (retS (lstV (consA (tupV (consA (fun ρ=>getV ρ 1) (consA (fun ρ=>getV ρ 2) (consA (callV sumD (consA (fun ρ=>getV ρ 3) (fun _=> .ok []))) (fun _=> .ok []))))) (fun _=> .ok [])))))))
noncomputable def F_as_good:List D→R D:=runB 3 g_as_good
noncomputable def g_fare_of:Rho→So:=(retS (bin (bin (fun ρ=>getV ρ 0) (fun ρ=>getV ρ 2) ixD) (bin (bin (fun ρ=>getV ρ 1) (fun ρ=>getV ρ 2) subI) (fun _=> .ok (.int 1)) addD) ixD))
noncomputable def F_fare_of:List D→R D:=runB 0 g_fare_of
noncomputable def g_near:Rho→So:=(retS (callV lstR2 (consA (callV maxD (consA (bin (fun ρ=>getV ρ 0) (fun _=> .ok (.int 1)) subI) (consA (fun _=> .ok (.int 0)) (fun _=> .ok [])))) (consA (callV minD (consA (bin (fun ρ=>getV ρ 0) (fun _=> .ok (.int 2)) addD) (consA (fun ρ=>getV ρ 1) (fun _=> .ok [])))) (fun _=> .ok [])))))
noncomputable def F_near:List D→R D:=runB 0 g_near
noncomputable def onB:Rho→So:=(seqS (asgS (callV (noErr F_fare_of 3) (consA (fun ρ=>getV ρ 1) (consA (fun ρ=>getV ρ 2) (consA (fun ρ=>getV ρ 4) (fun _=> .ok []))))) (setV 5)) (augL 3 (compV 3 [5] (seqI (bin (fun ρ=>getV ρ 0) (fun ρ=>getV ρ 4) ixD)) (tupG (lenG 3 (consG (setV 0) (consG (setV 1) (consG (setV 2) nilG))))) (fun _=> .ok true) (tupV (consA (fun ρ=>getV ρ 0) (consA (bin (fun ρ=>getV ρ 1) (fun ρ=>getV ρ 3) addD) (consA (fun ρ=>getV ρ 2) (fun _=> .ok []))))))))
noncomputable def g_onward:Rho→So:=(seqS (newL (fun _=> .ok []) 3) (seqS (forS (seqI (callV (noErr F_near 2) (consA (fun ρ=>getV ρ 2) (consA (callV lenD (consA (fun ρ=>getV ρ 0) (fun _=> .ok []))) (fun _=> .ok []))))) (setV 4) onB) (retS (fun ρ=>getV ρ 3))))
noncomputable def F_onward:List D→R D:=runB 3 g_onward
noncomputable def toldW (aG:Nat) (GG:List D→R D):Rho→So:=(ifS (tst (bin (fun ρ=>getV ρ 8) (fun _=> .ok (.int 1)) eqK)) (asgS (lstV (fun _=> .ok [])) (setV 9)) (ifS (notT (tstL (fun ρ=>getV ρ 4))) (asgS (callO 3 aG GG 2 (consA (fun ρ=>getV ρ 7) (consA (lstV (consA (tupV (consA (fun _=> .ok (.int 0)) (consA (fun _=> .ok (.int 0)) (consA (fun ρ=>getV ρ 2) (fun _=> .ok []))))) (fun _=> .ok []))) (fun _=> .ok [])))) (setV 9)) (asgS (callO 3 aG GG 2 (consA (fun ρ=>getV ρ 7) (consA (callV (noErr F_onward 3) (consA (ixO 4 (negV (fun _=> .ok (.int 1)))) (consA (bin (fun ρ=>getV ρ 0) (bin (fun ρ=>getV ρ 5) (fun _=> .ok (.int 1)) addD) ixD) (consA (fun ρ=>getV ρ 7) (fun _=> .ok []))))) (fun _=> .ok [])))) (setV 9))))
noncomputable def tailW:Rho→So:=(seqS (asgS (ifV (tst (bin (fun ρ=>getV ρ 8) (fun _=> .ok (.int 2)) eqK)) (fun _=> .ok (.int 1)) (fun _=> .ok (.int 0))) (setV 10)) (appS 6 (compV 3 [10] (seqI (fun ρ=>getV ρ 9)) (tupG (lenG 3 (consG (setV 0) (consG (setV 1) (consG (setV 2) nilG))))) (fun _=> .ok true) (tupV (consA (bin (fun ρ=>getV ρ 0) (fun ρ=>getV ρ 3) subI) (consA (fun ρ=>getV ρ 1) (consA (fun ρ=>getV ρ 2) (fun _=> .ok []))))))))
noncomputable def inW (aG:Nat) (GG:List D→R D):Rho→So:=(seqS (toldW aG GG) tailW)
noncomputable def outW (aG:Nat) (GG:List D→R D):Rho→So:=(seqS (newL (fun _=> .ok []) 6) (seqS (forS (fun ρ=>((consA (bin (fun ρ=>getV ρ 1) (fun ρ=>getV ρ 5) ixD) (fun _=> .ok [])) ρ).bind enumD) (tupG (lenG 2 (consG (setV 7) (consG (setV 8) nilG)))) (inW aG GG)) (appM 4 6)))
noncomputable def g_swept (aG:Nat) (GG:List D→R D):Rho→So:=(seqS (newL (fun _=> .ok []) 4) (seqS (forS (fun ρ=>((consA (callV lenD (consA (fun ρ=>getV ρ 1) (fun _=> .ok []))) (fun _=> .ok [])) ρ).bind rvsR) (setV 5) (outW aG GG)) (retS (revLV (fun ρ=>getV ρ 4)))))
noncomputable def F_swept (aG:Nat) (GG:List D→R D) (ds:List D):R D:=runE 7 (g_swept aG GG) (ds.map .val++[.obj (.fn aG)])
noncomputable def GG_lam_best_counts (ds:List D):R D:=(((callV (noErr F_as_good 1) (consA (fun ρ=>getV ρ 1) (fun _=> .ok []))):Rho→R D)) ((ds.map Ent.val).map some++List.replicate 0 none)
noncomputable def g_best_counts:Rho→So:=(lamR ((fun ρ=>getV ρ 0):Rho→R D) ((fun ρ=>getV ρ 1):Rho→R D) ((fun _=> .ok (.int 1)):Rho→R D) F_swept GG_lam_best_counts)
noncomputable def F_best_counts (ds:List D):R D:=runE 0 g_best_counts (ds.map .val)
noncomputable def g_gone_freed:Rho→So:=(retS (callV tupD (consA (compV 1 [] (seqI (fun ρ=>getV ρ 0)) (setV 0) (fun _=> .ok true) (callV tupD (consA (compV 1 [] (seqI (fun ρ=>getV ρ 0)) (setV 0) (fun _=> .ok true) (ifV (tst (bin (fun ρ=>getV ρ 0) (fun _=> .ok (.int 1)) eqK)) (fun _=> .ok (.int 1)) (fun _=> .ok (.int 0)))) (fun _=> .ok [])))) (fun _=> .ok []))))
noncomputable def F_gone_freed:List D→R D:=runB 0 g_gone_freed
noncomputable def g_counts_down:Rho→So:=(seqS (asgS (compV 1 [] (seqI (fun ρ=>getV ρ 0)) (setV 0) (fun _=> .ok true) (compV 1 [] (seqI (fun ρ=>getV ρ 0)) (setV 0) (fun _=> .ok true) (tupV (consA (fun _=> .ok (.int 0)) (consA (fun _=> .ok (.int 0)) (consA (fun _=> .ok (.int 0)) (fun _=> .ok []))))))) (setV 1)) (seqS (asgS (callV (noErr F_best_counts 2) (consA (fun ρ=>getV ρ 1) (consA (callV (noErr F_gone_freed 1) (consA (fun ρ=>getV ρ 0) (fun _=> .ok []))) (fun _=> .ok [])))) (setV 2)) (retS (compV 1 [] (seqI (fun ρ=>getV ρ 2)) (setV 0) (fun _=> .ok true) (compV 1 [] (seqI (fun ρ=>getV ρ 0)) (setV 0) (fun _=> .ok true) (callV sumD (consA (compV 3 [] (seqI (fun ρ=>getV ρ 0)) (tupG (lenG 3 (consG (setV 0) (consG (setV 1) (consG (setV 2) nilG))))) (fun _=> .ok true) (fun ρ=>getV ρ 2)) (fun _=> .ok []))))))))
noncomputable def F_counts_down (ds:List D):R D:=runE 2 g_counts_down (ds.map .val)
noncomputable def g_all_free:Rho→So:=(retS (bin (tupV (consA (bin (tupV (consA (fun _=> .ok (.int 0)) (fun _=> .ok []))) (callV lenD (consA (bin (fun ρ=>getV ρ 0) (fun _=> .ok (.int 0)) ixD) (fun _=> .ok []))) mulD) (fun _=> .ok []))) (callV lenD (consA (fun ρ=>getV ρ 0) (fun _=> .ok []))) mulD))
noncomputable def F_all_free:List D→R D:=runB 0 g_all_free
noncomputable def g_is_whole:Rho→So:=(retS (andV (instV ans_int (fun ρ=>getV ρ 0)) (notV (instV ans_bool (fun ρ=>getV ρ 0)))))
noncomputable def F_is_whole:List D→R D:=runB 0 g_is_whole
noncomputable def g_is_mark:Rho→So:=(retS (andV (callV (noErr F_is_whole 1) (consA (fun ρ=>getV ρ 0) (fun _=> .ok []))) (chn (fun _=> .ok (.int 0)) (fun ρ=>getV ρ 0) (fun _=> .ok (.int 2)) leI leI)))
noncomputable def F_is_mark:List D→R D:=runB 0 g_is_mark
noncomputable def g_is_marks_row:Rho→So:=(retS (andV (instV ans_tuple (fun ρ=>getV ρ 0)) (andV (bin (callV lenD (consA (fun ρ=>getV ρ 0) (fun _=> .ok []))) (fun ρ=>getV ρ 1) eqK) (callV allD (consA (compV 1 [] (seqI (fun ρ=>getV ρ 0)) (setV 0) (fun _=> .ok true) (callV (noErr F_is_mark 1) (consA (fun ρ=>getV ρ 0) (fun _=> .ok [])))) (fun _=> .ok []))))))
noncomputable def F_is_marks_row:List D→R D:=runB 0 g_is_marks_row
noncomputable def g_is_marks:Rho→So:=(seqS (ifS (orT (notT (tst (instV ans_tuple (fun ρ=>getV ρ 0)))) (tst (bin (callV lenD (consA (fun ρ=>getV ρ 0) (fun _=> .ok []))) (callV lenD (consA (fun ρ=>getV ρ 1) (fun _=> .ok []))) neK))) (retS (fun _=> .ok (.bl false))) So.nx) (retS (callV allD (consA (compV 1 [1] (seqI (fun ρ=>getV ρ 0)) (setV 0) (fun _=> .ok true) (callV (noErr F_is_marks_row 2) (consA (fun ρ=>getV ρ 0) (consA (callV lenD (consA (bin (fun ρ=>getV ρ 1) (fun _=> .ok (.int 0)) ixD) (fun _=> .ok []))) (fun _=> .ok []))))) (fun _=> .ok [])))))
noncomputable def F_is_marks:List D→R D:=runB 0 g_is_marks
noncomputable def g_full_marks:Rho→So:=(seqS (ifS (tst (bin (fun ρ=>getV ρ 0) (fun _=> .ok .non) isD)) (retS (callV (noErr F_all_free 1) (consA (fun ρ=>getV ρ 1) (fun _=> .ok [])))) So.nx) (seqS (ifS (notT (tst (callV (noErr F_is_marks 2) (consA (fun ρ=>getV ρ 0) (consA (fun ρ=>getV ρ 1) (fun _=> .ok [])))))) (fun _=> .bad) So.nx) (retS (fun ρ=>getV ρ 0))))
noncomputable def F_full_marks:List D→R D:=runB 0 g_full_marks
noncomputable def g_meets_kept:Rho→So:=(retS (callV anyD (consA (compV 2 [] (fun ρ=>((consA (fun ρ=>getV ρ 1) (consA (fun ρ=>getV ρ 0) (fun _=> .ok []))) ρ).bind zip2) (tupG (lenG 2 (consG (setV 0) (consG (setV 1) nilG)))) (fun _=> .ok true) (bin (bin (fun ρ=>getV ρ 0) (fun ρ=>getV ρ 1) ixD) (fun _=> .ok (.int 1)) eqK)) (fun _=> .ok []))))
noncomputable def F_meets_kept:List D→R D:=runB 0 g_meets_kept
noncomputable def g_is_line:Rho→So:=(retS (andV (instV ans_tuple (fun ρ=>getV ρ 0)) (chn (fun _=> .ok (.int 1)) (callV lenD (consA (fun ρ=>getV ρ 0) (fun _=> .ok []))) (fun _=> .ok (.int 20)) leI leI)))
noncomputable def F_is_line:List D→R D:=runB 0 g_is_line
noncomputable def g_is_cell:Rho→So:=(retS (andV (callV (noErr F_is_whole 1) (consA (fun ρ=>getV ρ 0) (fun _=> .ok []))) (chn (fun _=> .ok (.int 0)) (fun ρ=>getV ρ 0) (fun _=> .ok (.int 99)) leI leI)))
noncomputable def F_is_cell:List D→R D:=runB 0 g_is_cell
noncomputable def g_is_row:Rho→So:=(retS (andV (callV (noErr F_is_line 1) (consA (fun ρ=>getV ρ 0) (fun _=> .ok []))) (callV allD (consA (compV 1 [] (seqI (fun ρ=>getV ρ 0)) (setV 0) (fun _=> .ok true) (callV (noErr F_is_cell 1) (consA (fun ρ=>getV ρ 0) (fun _=> .ok [])))) (fun _=> .ok [])))))
noncomputable def F_is_row:List D→R D:=runB 0 g_is_row
noncomputable def g_is_picture:Rho→So:=(seqS (ifS (orT (notT (tst (callV (noErr F_is_line 1) (consA (fun ρ=>getV ρ 0) (fun _=> .ok []))))) (notT (tst (callV allD (consA (compV 1 [] (seqI (fun ρ=>getV ρ 0)) (setV 0) (fun _=> .ok true) (callV (noErr F_is_row 1) (consA (fun ρ=>getV ρ 0) (fun _=> .ok [])))) (fun _=> .ok [])))))) (retS (fun _=> .ok (.bl false))) So.nx) (retS (callV allD (consA (compV 1 [0] (seqI (fun ρ=>getV ρ 0)) (setV 0) (fun _=> .ok true) (bin (callV lenD (consA (fun ρ=>getV ρ 0) (fun _=> .ok []))) (callV lenD (consA (bin (fun ρ=>getV ρ 1) (fun _=> .ok (.int 0)) ixD) (fun _=> .ok []))) eqK)) (fun _=> .ok [])))))
noncomputable def F_is_picture:List D→R D:=runB 0 g_is_picture
noncomputable def g_need_picture:Rho→So:=(ifS (notT (tst (callV (noErr F_is_picture 1) (consA (fun ρ=>getV ρ 0) (fun _=> .ok []))))) (fun _=> .bad) So.nx)
noncomputable def F_need_picture:List D→R D:=runB 0 g_need_picture
noncomputable def g_is_way:Rho→So:=(seqS (ifS (orT (notT (tst (instV ans_tuple (fun ρ=>getV ρ 0)))) (tst (bin (callV lenD (consA (fun ρ=>getV ρ 0) (fun _=> .ok []))) (fun ρ=>getV ρ 2) neK))) (retS (fun _=> .ok (.bl false))) So.nx) (seqS (ifS (notT (tst (callV allD (consA (compV 1 [1] (seqI (fun ρ=>getV ρ 0)) (setV 0) (fun _=> .ok true) (andV (callV (noErr F_is_whole 1) (consA (fun ρ=>getV ρ 0) (fun _=> .ok []))) (chn (fun _=> .ok (.int 0)) (fun ρ=>getV ρ 0) (fun ρ=>getV ρ 1) leI ltI))) (fun _=> .ok []))))) (retS (fun _=> .ok (.bl false))) So.nx) (retS (callV allD (consA (compV 1 [0] (fun ρ=>((consA (fun _=> .ok (.int 1)) (consA (fun ρ=>getV ρ 2) (fun _=> .ok []))) ρ).bind rng2) (setV 0) (fun _=> .ok true) (bin (callV absD (consA (bin (bin (fun ρ=>getV ρ 1) (fun ρ=>getV ρ 0) ixD) (bin (fun ρ=>getV ρ 1) (bin (fun ρ=>getV ρ 0) (fun _=> .ok (.int 1)) subI) ixD) subI) (fun _=> .ok []))) (fun _=> .ok (.int 1)) leI)) (fun _=> .ok []))))))
noncomputable def F_is_way:List D→R D:=runB 0 g_is_way
noncomputable def g_size_of:Rho→So:=(seqS (exprS (callV (noErr F_need_picture 1) (consA (fun ρ=>getV ρ 0) (fun _=> .ok [])))) (retS (tupV (consA (callV lenD (consA (bin (fun ρ=>getV ρ 0) (fun _=> .ok (.int 0)) ixD) (fun _=> .ok []))) (consA (callV lenD (consA (fun ρ=>getV ρ 0) (fun _=> .ok []))) (fun _=> .ok []))))))
noncomputable def F_size_of:List D→R D:=runB 0 g_size_of
noncomputable def g_is_seam:Rho→So:=(seqS (asgS (callV (noErr F_size_of 1) (consA (fun ρ=>getV ρ 1) (fun _=> .ok []))) (tupG (lenG 2 (consG (setV 2) (consG (setV 3) nilG))))) (retS (callV (noErr F_is_way 3) (consA (fun ρ=>getV ρ 0) (consA (fun ρ=>getV ρ 2) (consA (fun ρ=>getV ρ 3) (fun _=> .ok [])))))))
noncomputable def F_is_seam:List D→R D:=runB 2 g_is_seam
noncomputable def g_need_seam:Rho→So:=(ifS (notT (tst (callV (noErr F_is_seam 2) (consA (fun ρ=>getV ρ 0) (consA (fun ρ=>getV ρ 1) (fun _=> .ok [])))))) (fun ρ=> .ex "NoSeam" ρ) So.nx)
noncomputable def F_need_seam:List D→R D:=runB 0 g_need_seam
noncomputable def noB:Rho→So:=(seqS (augS 5 (callV sumD (consA (compV 1 [7,6] (seqI (fun ρ=>getV ρ 4)) (setV 0) (tst (bin (fun ρ=>getV ρ 0) (fun ρ=>getV ρ 1) ltI)) (bin (fun ρ=>getV ρ 2) (fun ρ=>getV ρ 0) ixD)) (fun _=> .ok [])))) (asgS (callV (noErr F_near 2) (consA (fun ρ=>getV ρ 7) (consA (callV lenD (consA (fun ρ=>getV ρ 6) (fun _=> .ok []))) (fun _=> .ok [])))) (setV 4)))
noncomputable def g_number_of:Rho→So:=(seqS (exprS (callV (noErr F_need_picture 1) (consA (fun ρ=>getV ρ 0) (fun _=> .ok [])))) (seqS (asgS (callV (noErr F_full_marks 2) (consA (fun ρ=>getV ρ 2) (consA (fun ρ=>getV ρ 0) (fun _=> .ok [])))) (setV 3)) (seqS (exprS (callKX F_need_seam 2 0 [] (consA (fun ρ=>getV ρ 1) (consA (fun ρ=>getV ρ 0) (fun _=> .ok []))) (fun _=> .ok []))) (seqS (ifS (tst (callV (noErr F_meets_kept 2) (consA (fun ρ=>getV ρ 1) (consA (fun ρ=>getV ρ 3) (fun _=> .ok []))))) (retS (fun _=> .ok .non)) So.nx) (seqS (asgS (callV lstR1 (consA (callV lenD (consA (bin (fun ρ=>getV ρ 0) (fun _=> .ok (.int 0)) ixD) (fun _=> .ok []))) (fun _=> .ok []))) (setV 4)) (seqS (asgS (fun _=> .ok (.int 0)) (setV 5)) (seqS (forS (fun ρ=>((consA (callV (noErr F_counts_down 1) (consA (fun ρ=>getV ρ 3) (fun _=> .ok []))) (consA (fun ρ=>getV ρ 1) (fun _=> .ok []))) ρ).bind zip2) (tupG (lenG 2 (consG (setV 6) (consG (setV 7) nilG)))) noB) (retS (fun ρ=>getV ρ 5)))))))))
noncomputable def F_number_of:List D→R D:=runB 5 g_number_of
noncomputable def saL:Rho→So:=(seqS (augM 4 (bin (fun ρ=>getV ρ 7) (bin (fun ρ=>getV ρ 5) (fun ρ=>getV ρ 8) ixD) ixD)) (augS 8 (fun _=> .ok (.int 1))))
noncomputable def saT:Rho→R Bool:=(tst (bin (fun ρ=>getV ρ 4) (bin (fun ρ=>getV ρ 7) (bin (fun ρ=>getV ρ 5) (fun ρ=>getV ρ 8) ixD) ixD) geI))
noncomputable def saB:Rho→So:=(seqS (asgS (fun _=> .ok (.int 0)) (setV 8)) (seqS (whS saT saL 64) (seqS (appS 6 (bin (fun ρ=>getV ρ 5) (fun ρ=>getV ρ 8) ixD)) (asgS (callV (noErr F_near 2) (consA (bin (fun ρ=>getV ρ 5) (fun ρ=>getV ρ 8) ixD) (consA (callV lenD (consA (fun ρ=>getV ρ 7) (fun _=> .ok []))) (fun _=> .ok [])))) (setV 5)))))
noncomputable def g_seam_at:Rho→So:=(seqS (exprS (callV (noErr F_need_picture 1) (consA (fun ρ=>getV ρ 0) (fun _=> .ok [])))) (seqS (asgS (callV (noErr F_counts_down 1) (consA (callV (noErr F_full_marks 2) (consA (fun ρ=>getV ρ 2) (consA (fun ρ=>getV ρ 0) (fun _=> .ok [])))) (fun _=> .ok []))) (setV 3)) (seqS (ifS (orT (notT (tst (callV (noErr F_is_whole 1) (consA (fun ρ=>getV ρ 1) (fun _=> .ok []))))) (notT (tst (chn (fun _=> .ok (.int 0)) (fun ρ=>getV ρ 1) (callV sumD (consA (bin (fun ρ=>getV ρ 3) (fun _=> .ok (.int 0)) ixD) (fun _=> .ok []))) leI ltI)))) (fun ρ=> .ex "NoNumber" ρ) So.nx) (seqS (asgS (fun ρ=>getV ρ 1) (setV 4)) (seqS (asgS (callV lstR1 (consA (callV lenD (consA (bin (fun ρ=>getV ρ 3) (fun _=> .ok (.int 0)) ixD) (fun _=> .ok []))) (fun _=> .ok []))) (setV 5)) (seqS (newL (fun _=> .ok []) 6) (seqS (forS (seqI (fun ρ=>getV ρ 3)) (setV 7) saB) (retS (callV tupD (consA (fun ρ=>getV ρ 6) (fun _=> .ok [])))))))))))
noncomputable def F_seam_at:List D→R D:=runB 6 g_seam_at
noncomputable def g__law_no:Rho→So:=(seqS (tryS subX "SeamError" 3 (ifS (tst (bin (fun ρ=>getV ρ 0) (fun _=> .ok (.int 0)) eqK)) (exprS (callKX F_seam_at 3 0 [.inr .non] (consA (fun ρ=>getV ρ 1) (consA (fun ρ=>getV ρ 2) (fun _=> .ok []))) (fun _=> .ok []))) (exprS (callKX F_number_of 3 0 [.inr .non] (consA (fun ρ=>getV ρ 1) (consA (fun ρ=>getV ρ 2) (fun _=> .ok []))) (fun _=> .ok [])))) (retS (lstV (consA (instE subX 3 "NoNumber") (consA (instE subX 3 "NoSeam") (fun _=> .ok [])))))) (retS (lstV (fun _=> .ok []))))
noncomputable def F__law_no (ds:List D):R D:=runE 1 g__law_no (ds.map .val)
noncomputable def g__law_signs:Rho→So:=(retS (callV lenD (consA (compV 2 [2] (fun ρ=>((consA (fun ρ=>getV ρ 0) (consA (fun ρ=>getV ρ 1) (fun _=> .ok []))) ρ).bind zip2) (tupG (lenG 2 (consG (setV 0) (consG (setV 1) nilG)))) (tst (bin (bin (fun ρ=>getV ρ 0) (fun ρ=>getV ρ 1) ixD) (fun ρ=>getV ρ 2) eqK)) (fun ρ=>getV ρ 1)) (fun _=> .ok []))))
noncomputable def F__law_signs:List D→R D:=runB 0 g__law_signs
noncomputable def g__law_picture:Rho→So:=(seqS (parO 4 5 (bin (lstV (consA (fun _=> .ok (.int 2)) (consA (fun _=> .ok (.int 5)) (consA (fun _=> .ok (.int 100)) (consA (fun _=> .ok (.int 10)) (fun _=> .ok [])))))) (callV (noErr F__law_drawn 3) (consA (fun ρ=>getV ρ 0) (consA (fun ρ=>getV ρ 1) (consA (fun _=> .ok (.int 4)) (fun _=> .ok []))))) ixD) (fun _=> .ok [])) (seqS (forS (fun ρ=>((consA (fun ρ=>getV ρ 3) (fun _=> .ok [])) ρ).bind rng1) (setV 6) (appS 5 (callV tupD (consA (compV 1 [1,2,4,0,6] (fun ρ=>((consA (fun ρ=>getV ρ 2) (fun _=> .ok [])) ρ).bind rng1) (setV 0) (fun _=> .ok true) (callV (noErr F__law_drawn 3) (consA (fun ρ=>getV ρ 4) (consA (bin (bin (bin (fun ρ=>getV ρ 1) (fun _=> .ok (.int 1)) catD) (bin (fun ρ=>getV ρ 2) (fun ρ=>getV ρ 5) mulI) catD) (fun ρ=>getV ρ 0) catD) (consA (fun ρ=>getV ρ 3) (fun _=> .ok [])))))) (fun _=> .ok []))))) (retS (callV tupD (consA (fun ρ=>getV ρ 5) (fun _=> .ok []))))))
noncomputable def F__law_picture:List D→R D:=runB 3 g__law_picture
noncomputable def g__law_some:Rho→So:=(retS (callV (noErr F__law_picture 4) (consA (fun ρ=>getV ρ 0) (consA (bin (fun ρ=>getV ρ 1) (fun _=> .ok (.int 2)) catD) (consA (bin (fun _=> .ok (.int 1)) (callV (noErr F__law_drawn 3) (consA (fun ρ=>getV ρ 0) (consA (fun ρ=>getV ρ 1) (consA (fun ρ=>getV ρ 2) (fun _=> .ok []))))) catD) (consA (bin (fun _=> .ok (.int 1)) (callV (noErr F__law_drawn 3) (consA (fun ρ=>getV ρ 0) (consA (bin (fun ρ=>getV ρ 1) (fun _=> .ok (.int 1)) catD) (consA (fun ρ=>getV ρ 3) (fun _=> .ok []))))) catD) (fun _=> .ok [])))))))
noncomputable def F__law_some:List D→R D:=runB 0 g__law_some
noncomputable def wyI:Rho→So:=(asgS (bin (fun ρ=>getV ρ 4) (compV 1 [0,5] (seqI (tupV (consA (bin (bin (fun ρ=>getV ρ 5) (negV (fun _=> .ok (.int 1))) ixD) (fun _=> .ok (.int 1)) subI) (consA (bin (fun ρ=>getV ρ 5) (negV (fun _=> .ok (.int 1))) ixD) (consA (bin (bin (fun ρ=>getV ρ 5) (negV (fun _=> .ok (.int 1))) ixD) (fun _=> .ok (.int 1)) addD) (fun _=> .ok [])))))) (setV 0) (andT (tst (bin (fun _=> .ok (.int 0)) (fun ρ=>getV ρ 0) leI)) (tst (bin (fun ρ=>getV ρ 0) (fun ρ=>getV ρ 1) ltI))) (bin (fun ρ=>getV ρ 2) (tupV (consA (fun ρ=>getV ρ 0) (fun _=> .ok []))) addD)) addD) (setV 4))
noncomputable def wyO:Rho→So:=(seqS (asgS (lstV (fun _=> .ok [])) (setV 4)) (seqS (forS (seqI (fun ρ=>getV ρ 2)) (setV 5) wyI) (asgS (fun ρ=>getV ρ 4) (setV 2))))
noncomputable def g__law_ways:Rho→So:=(seqS (asgS (compV 1 [] (fun ρ=>((consA (fun ρ=>getV ρ 0) (fun _=> .ok [])) ρ).bind rng1) (setV 0) (fun _=> .ok true) (tupV (consA (fun ρ=>getV ρ 0) (fun _=> .ok [])))) (setV 2)) (seqS (forS (fun ρ=>((consA (bin (fun ρ=>getV ρ 1) (fun _=> .ok (.int 1)) subI) (fun _=> .ok [])) ρ).bind rng1) (setV 3) wyO) (retS (fun ρ=>getV ρ 2))))
noncomputable def F__law_ways:List D→R D:=runB 4 g__law_ways
noncomputable def g_how_many:Rho→So:=(seqS (exprS (callV (noErr F_need_picture 1) (consA (fun ρ=>getV ρ 0) (fun _=> .ok [])))) (retS (callV sumD (consA (bin (callV (noErr F_counts_down 1) (consA (callV (noErr F_full_marks 2) (consA (fun ρ=>getV ρ 1) (consA (fun ρ=>getV ρ 0) (fun _=> .ok [])))) (fun _=> .ok []))) (fun _=> .ok (.int 0)) ixD) (fun _=> .ok [])))))
noncomputable def F_how_many (ds:List D):R D:=runE 0 g_how_many (ds.map .val)
noncomputable def nuB:Rho→So:=(seqS (ifS (tst (bin (callKX F_seam_at 3 1 [.inl 0] (consA (fun ρ=>getV ρ 1) (consA (fun ρ=>getV ρ 8) (fun _=> .ok []))) (consA (fun ρ=>getV ρ 4) (fun _=> .ok []))) (bin (fun ρ=>getV ρ 6) (fun ρ=>getV ρ 8) ixD) neK)) (retS (fun _=> .ok (.bl false))) So.nx) (ifS (tst (bin (callKX F_number_of 3 1 [.inl 0] (consA (fun ρ=>getV ρ 1) (consA (bin (fun ρ=>getV ρ 6) (fun ρ=>getV ρ 8) ixD) (fun _=> .ok []))) (consA (fun ρ=>getV ρ 4) (fun _=> .ok []))) (fun ρ=>getV ρ 8) neK)) (retS (fun _=> .ok (.bl false))) So.nx))
noncomputable def g_law:Rho→So:=(seqS (asgS (callV (noErr F__law_some 4) (consA (fun ρ=>getV ρ 0) (consA (fun _=> .ok (.int 0)) (consA (fun _=> .ok (.int 4)) (consA (fun _=> .ok (.int 4)) (fun _=> .ok [])))))) (setV 1)) (seqS (parS 2 3 (callV lenD (consA (bin (fun ρ=>getV ρ 1) (fun _=> .ok (.int 0)) ixD) (fun _=> .ok []))) (callV lenD (consA (fun ρ=>getV ρ 1) (fun _=> .ok [])))) (seqS (asgS (callV (noErr F__law_marks 3) (consA (fun ρ=>getV ρ 0) (consA (fun _=> .ok (.int 40)) (consA (fun ρ=>getV ρ 1) (fun _=> .ok []))))) (setV 4)) (seqS (asgS (callV (noErr F__law_ways 2) (consA (fun ρ=>getV ρ 2) (consA (fun ρ=>getV ρ 3) (fun _=> .ok [])))) (setV 5)) (seqS (asgS (compV 1 [4] (seqI (fun ρ=>getV ρ 5)) (setV 0) (tst (bin (callV (noErr F__law_signs 3) (consA (fun ρ=>getV ρ 1) (consA (fun ρ=>getV ρ 0) (consA (fun _=> .ok (.int 1)) (fun _=> .ok []))))) (fun _=> .ok (.int 0)) eqK)) (fun ρ=>getV ρ 0)) (setV 6)) (seqS (ifS (orT (tst (bin (callK F_how_many 2 1 [.inl 0] (consA (fun ρ=>getV ρ 1) (fun _=> .ok [])) (consA (fun ρ=>getV ρ 4) (fun _=> .ok []))) (callV lenD (consA (fun ρ=>getV ρ 6) (fun _=> .ok []))) neK)) (tst (bin (callK F_how_many 2 0 [.inr .non] (consA (fun ρ=>getV ρ 1) (fun _=> .ok [])) (fun _=> .ok [])) (callV lenD (consA (fun ρ=>getV ρ 5) (fun _=> .ok []))) neK))) (retS (fun _=> .ok (.bl false))) So.nx) (seqS (asgS (callV (noErr F__law_drawn 3) (consA (fun ρ=>getV ρ 0) (consA (fun _=> .ok (.int 80)) (consA (callV lenD (consA (fun ρ=>getV ρ 5) (fun _=> .ok []))) (fun _=> .ok []))))) (setV 7)) (seqS (ifS (orT (tst (bin (callKX F_seam_at 3 0 [.inr .non] (consA (fun ρ=>getV ρ 1) (consA (fun ρ=>getV ρ 7) (fun _=> .ok []))) (fun _=> .ok [])) (bin (fun ρ=>getV ρ 5) (fun ρ=>getV ρ 7) ixD) neK)) (tst (bin (callKX F_number_of 3 0 [.inr .non] (consA (fun ρ=>getV ρ 1) (consA (bin (fun ρ=>getV ρ 5) (fun ρ=>getV ρ 7) ixD) (fun _=> .ok []))) (fun _=> .ok [])) (fun ρ=>getV ρ 7) neK))) (retS (fun _=> .ok (.bl false))) So.nx) (seqS (ifS (tst (bin (callKX F_number_of 3 1 [.inl 0] (consA (fun ρ=>getV ρ 1) (consA (bin (fun ρ=>getV ρ 5) (fun ρ=>getV ρ 7) ixD) (fun _=> .ok []))) (consA (fun ρ=>getV ρ 4) (fun _=> .ok []))) (ifV (tst (bin (bin (fun ρ=>getV ρ 5) (fun ρ=>getV ρ 7) ixD) (fun ρ=>getV ρ 6) inUD)) (idxW (fun ρ=>getV ρ 6) (bin (fun ρ=>getV ρ 5) (fun ρ=>getV ρ 7) ixD)) (fun _=> .ok .non)) neK)) (retS (fun _=> .ok (.bl false))) So.nx) (seqS (forS (fun ρ=>((consA (bin (callV lenD (consA (fun ρ=>getV ρ 6) (fun _=> .ok []))) (fun _=> .ok (.int 1)) subI) (consA (negV (fun _=> .ok (.int 1))) (consA (bin (negV (fun _=> .ok (.int 1))) (bin (callV lenD (consA (fun ρ=>getV ρ 6) (fun _=> .ok []))) (fun _=> .ok (.int 5)) divI) subI) (fun _=> .ok [])))) ρ).bind rngC) (setV 8) nuB) (seqS (asgS (bin (lstV (consA (negV (fun _=> .ok (.int 1))) (consA (callV lenD (consA (fun ρ=>getV ρ 5) (fun _=> .ok []))) (consA (fun _=> .ok .non) (consA (fun _=> .ok (.bl true)) (consA (fun _=> .ok (.str "0")) (consA (tupV (consA (fun _=> .ok (.int 0)) (fun _=> .ok []))) (fun _=> .ok [])))))))) (callV (noErr F__law_drawn 3) (consA (fun ρ=>getV ρ 0) (consA (fun _=> .ok (.int 81)) (consA (fun _=> .ok (.int 6)) (fun _=> .ok []))))) ixD) (setV 9)) (seqS (asgS (bin (lstV (consA (fun _=> .ok .non) (consA (bin (tupV (consA (fun ρ=>getV ρ 2) (fun _=> .ok []))) (fun ρ=>getV ρ 3) mulD) (consA (bin (tupV (consA (fun _=> .ok (.int 0)) (fun _=> .ok []))) (bin (fun ρ=>getV ρ 3) (fun _=> .ok (.int 1)) addD) mulD) (consA (bin (lstV (consA (fun _=> .ok (.int 0)) (fun _=> .ok []))) (fun ρ=>getV ρ 3) mulL) (fun _=> .ok [])))))) (callV (noErr F__law_drawn 3) (consA (fun ρ=>getV ρ 0) (consA (fun _=> .ok (.int 82)) (consA (fun _=> .ok (.int 4)) (fun _=> .ok []))))) ixD) (setV 10)) (retS (andV (bin (callV (noErr F__law_no 3) (consA (fun _=> .ok (.int 0)) (consA (fun ρ=>getV ρ 1) (consA (fun ρ=>getV ρ 9) (fun _=> .ok []))))) (lstV (consA (fun _=> .ok (.bl true)) (consA (fun _=> .ok (.bl false)) (fun _=> .ok [])))) eqK) (bin (callV (noErr F__law_no 3) (consA (fun _=> .ok (.int 1)) (consA (fun ρ=>getV ρ 1) (consA (fun ρ=>getV ρ 10) (fun _=> .ok []))))) (lstV (consA (fun _=> .ok (.bl false)) (consA (fun _=> .ok (.bl true)) (fun _=> .ok [])))) eqK)))))))))))))))
noncomputable def F_law (ds:List D):R D:=runE 10 g_law (ds.map .val)
end K20
namespace K20
open PySem PySem.Spec L2 Pu
noncomputable def row (w:Nat) (f:Nat→Int):D:= .tup ((List.range w).map fun x=> .int (f x))
noncomputable def pic (w h:Nat) (f:Nat→Nat→Int):D:= .tup ((List.range h).map fun y=>row w (f y))
structure Ok (w h:Nat) (f:Nat→Nat→Int):Prop where
  w1:1≤w
  w2:w≤20
  h1:1≤h
  h2:h≤20
  c:∀y < h,∀x < w,0≤f y x∧f y x≤99
theorem leI_t {i j:Int} (h:i≤j):leI (.int i) (.int j)= .ok (.bl true):=by
  show R.ok (D.bl (decide (i≤j)))=_
  rw[decide_eq_true h]
theorem is_line_eq {ds:List D} (h1:1≤ds.length) (h2:ds.length≤20):F_is_line [.tup ds]= .ok (.bl true):=
  ev_rt (ev_ret (ev_and rfl (ev_chn rfl (ev_call (evo rfl) rfl) (leI_t (by omega)) rfl (leI_t (by omega)))))
theorem is_whole_eq {i:Int}:F_is_whole [.int i]= .ok (.bl true):=rfl
theorem is_cell_eq {i:Int} (h0:0≤i) (h1:i≤99):F_is_cell [.int i]= .ok (.bl true):=by
  exact ev_rt (ev_ret (ev_and (ev_fn (evo rfl) is_whole_eq) (ev_chn rfl rfl (leI_t h0) rfl (leI_t h1))))
theorem is_row_eq {w:Nat} {f:Nat→Int} (h1:1≤w) (h2:w≤20) (hc:∀x < w,0≤f x∧f x≤99):F_is_row [row w f]= .ok (.bl true):=by
  refine ev_rt (ev_ret (ev_and (ev_fn (evo rfl) (is_line_eq (by simpa using h1) (by simpa using h2))) (ev_call (evo (comp_on (c:=fun x=> .int (f x)) (h:=fun _=> .bl true) (l:=List.range w) (ev_seqT rfl) (by rw[List.length_range];omega) fun x hx=>?_)) ev_allL)))
  obtain⟨a,b⟩:=hc x (List.mem_range.mp hx)
  exact ev_elt rfl (ev_fn (evo rfl) (is_cell_eq a b))
section
variable {w h:Nat} {f:Nat→Nat→Int}
theorem is_picture_eq (o:Ok w h f):F_is_picture [pic w h f]= .ok (.bl true):=by
  have e1:F_is_line [pic w h f]= .ok (.bl true):=is_line_eq (by simpa using o.h1) (by simpa using o.h2)
  refine ev_rt (ev_seq (ev_ifF (ev_orF (ev_not (ev_tst (ev_fn (evo rfl) e1))) (ev_not (ev_tst (ev_call (evo (comp_on (c:=fun y=>row w (f y)) (h:=fun _=> .bl true) (l:=List.range h) (ev_seqT rfl) (by rw[List.length_range];have:=o.h2;omega) fun y hy=>?_)) ev_allL)))) rfl) (ev_ret (ev_call (evo (comp_on (c:=fun y=>row w (f y)) (h:=fun _=> .bl true) (l:=List.range h) (ev_seqT rfl) (by rw[List.length_range];have:=o.h2;omega) fun y hy=>?_)) ev_allL)))
  · exact ev_elt rfl (ev_fn (evo rfl) (is_row_eq o.w1 o.w2 (o.c y (List.mem_range.mp hy))))
  · refine ev_elt rfl (ev_bin (ev_call (evo rfl) rfl) (ev_call (evo (ev_bin rfl rfl (ev_ix (i:=0) (d:=row w (f 0)) ?_))) rfl) (eqK_same ?_ ?_))
    · rw[List.getElem?_map,List.getElem?_range o.h1];rfl
    · simp
    · simp[dep]
theorem need_eq (o:Ok w h f):F_need_picture [pic w h f]= .ok .non:=ev_nx (ev_ifF (ev_not (ev_tst (ev_fn (evo rfl) (is_picture_eq o)))) rfl)
theorem size_eq (o:Ok w h f):F_size_of [pic w h f]= .ok (.tup [.int w,.int h]):=by
  refine ev_rt (ev_seq (ev_expr (ev_fn (evo rfl) (need_eq o))) (ev_ret (ev_tup (evc (ev_call (evo (ev_bin rfl rfl (ev_ix (i:=0) (d:=row w (f 0)) ?_))) ?_) (evo (ev_call (evo rfl) ?_))))))
  · rw[List.getElem?_map,List.getElem?_range o.h1];rfl
  · simp[row,lenD]
  · simp[pic,lenD]
end
noncomputable def appD:Rho→So:=(appS 5 (callV tupD (consA (compV 1 [1,2,4,0,6] (fun ρ=>((consA (fun ρ=>getV ρ 2) (fun _=> .ok [])) ρ).bind rng1) (setV 0) (fun _=> .ok true) (callV (noErr F__law_drawn 3) (consA (fun ρ=>getV ρ 4) (consA (bin (bin (bin (fun ρ=>getV ρ 1) (fun _=> .ok (.int 1)) catD) (bin (fun ρ=>getV ρ 2) (fun ρ=>getV ρ 5) mulI) catD) (fun ρ=>getV ρ 0) catD) (consA (fun ρ=>getV ρ 3) (fun _=> .ok [])))))) (fun _=> .ok []))))
section
variable {ns:List Int} {a m:Int} {w h:Nat}
noncomputable def vA (d:D):Option Ent:=some (.val d)
theorem app_eq (hns:ns.length≤1000000) (ha:0≤a) (hm:0 < m) (hw:w≤20) {acc:List D} {y:Nat} {tl:Option Ent} (hl:acc.length < 1000000):
    appD [vA (.lst (ns.map .int)),vA (.int a),vA (.int (w:Int)),tl,vA (.int m),some (.lst acc),vA (.int (y:Int))] =
      .nx [vA (.lst (ns.map .int)),vA (.int a),vA (.int (w:Int)),tl,vA (.int m),some (.lst (acc++[row w fun x=>dr ns (a+1+(w:Int)*(y:Int)+(x:Int)) m])),vA (.int (y:Int))]:=by
  have e:callV tupD (consA (compV 1 [1,2,4,0,6] (fun ρ=>((consA (fun ρ=>getV ρ 2) (fun _=> .ok [])) ρ).bind rng1) (setV 0) (fun _=> .ok true) (callV (noErr F__law_drawn 3) (consA (fun ρ=>getV ρ 4) (consA (bin (bin (bin (fun ρ=>getV ρ 1) (fun _=> .ok (.int 1)) catD) (bin (fun ρ=>getV ρ 2) (fun ρ=>getV ρ 5) mulI) catD) (fun ρ=>getV ρ 0) catD) (consA (fun ρ=>getV ρ 3) (fun _=> .ok [])))))) (fun _=> .ok []))
      [vA (.lst (ns.map .int)),vA (.int a),vA (.int (w:Int)),tl,vA (.int m),some (.lst acc),vA (.int (y:Int))]= .ok (row w fun x=>dr ns (a+1+(w:Int)*(y:Int)+(x:Int)) m):=by
    refine ev_call (evo (comp_on (c:=fun (x:Nat)=>D.int (x:Int)) (h:=fun (x:Nat)=>D.int (dr ns (a+1+(w:Int)*(y:Int)+(x:Int)) m)) (l:=List.range w) (ev_rng (evo rfl) (by omega)) (by rw[List.length_range];omega) fun x hx=>?_)) rfl
    refine ev_elt rfl (ev_fn (evc rfl (evc (ev_bin (ev_bin (ev_bin rfl rfl rfl) (ev_bin rfl rfl (ev_mul (.inl ⟨by omega,by omega⟩))) rfl) rfl rfl) (evo rfl))) ?_)
    have hp:(0:Int)≤(w:Int)*(y:Int):=Int.mul_nonneg (by omega) (by omega)
    exact (dr_eq hns (by omega) hm).1
  unfold appD appS
  rw[e]
  show (if acc.length < 1000000 then So.nx _ else .bad)=_
  rw[if_pos hl];rfl
theorem rowsA_eq (hns:ns.length≤1000000) (ha:0≤a) (hm:0 < m) (hw:w≤20) {tl:Option Ent}:∀{ys:List Nat} {acc:List D} {x:Option Ent},acc.length+ys.length≤1000000→
    ∃ x',forL (setV 6) appD (ys.map fun (y:Nat)=>D.int (y:Int)) [vA (.lst (ns.map .int)),vA (.int a),vA (.int (w:Int)),tl,vA (.int m),some (.lst acc),x] =
      .nx [vA (.lst (ns.map .int)),vA (.int a),vA (.int (w:Int)),tl,vA (.int m),some (.lst (acc++ys.map fun (y:Nat)=>row w fun x=>dr ns (a+1+(w:Int)*(y:Int)+(x:Int)) m)),x']
  |[],acc,x,_=>⟨x,by rw[List.map_nil,List.map_nil,List.append_nil];rfl⟩
  | y::ys,acc,x,hl=>by
    rw[List.length_cons] at hl
    obtain⟨x',e⟩:=rowsA_eq hns ha hm hw (tl:=tl) (ys:=ys) (acc:=acc++[row w fun x=>dr ns (a+1+(w:Int)*(y:Int)+(x:Int)) m]) (x:=vA (.int (y:Int))) (by rw[List.length_append];simp only[List.length_cons,List.length_nil];omega)
    refine⟨x',?_⟩
    rw[List.append_assoc] at e
    rw[List.map_cons,List.map_cons]
    exact forL_cons rfl (app_eq hns ha hm hw (by omega)) e
theorem picture_eq (hns:ns.length≤1000000) (ha:0≤a) (hw:w≤20) (hw1:1≤w) (hh:h≤20) (hh1:1≤h):∃f,F__law_picture [.lst (ns.map .int),.int a,.int (w:Int),.int (h:Int)]= .ok (pic w h f)∧Ok w h f:=by
  obtain⟨e1,h0,h4⟩:=dr_eq (k:=a) (m:=4) hns ha (by omega)
  obtain⟨d,hd,ed⟩:=atI_int (xs:=[D.int 2,.int 5,.int 100,.int 10]) h0 h4
  have hm:∃m,d= .int m∧0 < m∧m≤100:=by
    simp only[List.mem_cons,List.not_mem_nil,or_false] at hd
    rcases hd with rfl |rfl |rfl |rfl
    · exact⟨_,rfl,by omega,by omega⟩
    · exact⟨_,rfl,by omega,by omega⟩
    · exact⟨_,rfl,by omega,by omega⟩
    · exact⟨_,rfl,by omega,by omega⟩
  obtain⟨m,rfl,hm0,hm1⟩:=hm
  obtain⟨x',er⟩:=rowsA_eq hns ha hm0 hw (tl:=vA (.int (h:Int))) (ys:=List.range h) (acc:=[]) (x:=none) (by rw[List.length_range,List.length_nil];omega)
  refine⟨fun y x=>dr ns (a+1+(w:Int)*(y:Int)+(x:Int)) m,ev_rt (ev_seq (ρ':=[vA (.lst (ns.map .int)),vA (.int a),vA (.int (w:Int)),vA (.int (h:Int)),vA (.int m),some (.lst []),none]) ?_ (ev_seq (ev_for (ev_rng (m:=h) (evo rfl) (by omega)) er) (ev_ret (ev_call (evo (x:= .lst ((List.range h).map fun (y:Nat)=>row w fun x=>dr ns (a+1+(w:Int)*(y:Int)+(x:Int)) m)) rfl) rfl)))),hw1,hw,hh1,hh,fun y hy x hx=>?_⟩
  · exact ev_parO (ev_bin (x:= .lst [D.int 2,.int 5,.int 100,.int 10]) (y:= .int (dr ns a 4)) (ev_lst rfl) (ev_fn (evc rfl (evc rfl (evo rfl))) e1) (ev_ixI ed)) rfl
  · have hp:(0:Int)≤(w:Int)*(y:Int):=Int.mul_nonneg (by omega) (by omega)
    have:=(dr_eq (k:=a+1+(w:Int)*(y:Int)+(x:Int)) (m:=m) hns (by omega) hm0).2
    show 0≤dr _ _ _∧dr _ _ _≤99
    omega
end
section
variable {w h:Nat} {f g:Nat→Nat→Int}
theorem map_same {α β:Type} {p q:α→β} {l:List α} (e:∀a∈l,p a=q a):l.map p=l.map q:=List.map_congr_left e
end
structure Seam (w h:Nat) (s:Nat→Nat):Prop where
  lt:∀y < h,s y < w
  st:∀y,y+1 < h→s (y+1)≤s y+1∧s y≤s (y+1)+1
noncomputable abbrev sm (h:Nat) (s:Nat→Nat):D:=row h fun y=>((s y:Nat):Int)
section
variable {ρ:Rho} {fa:Rho→R (List D)} {α:Type} {l:List α} {p q r:α→D} {x y z:D}
theorem ev_rng2 {m:Nat} (e:fa ρ= .ok [.int 1,.int (m:Int)]) (h:m < 2 ^ 62):(fun ρ=>(fa ρ).bind rng2) ρ= .ok ((List.range (m - 1)).map fun (i:Nat)=>D.int ((i+1:Nat):Int)):=by
  show (fa ρ).bind rng2=_
  rw[e,R.bind_ok,rng2,if_pos ⟨by omega,by omega,by omega,by omega⟩]
  unfold upto
  rw[show ((m:Int) - 1).toNat=m - 1 by omega]
  refine congrArg R.ok (map_same fun i _=>?_)
  rw[show (1:Int)+(i:Int)=((i+1:Nat):Int) by omega]
theorem ev_zip2 (e:fa ρ= .ok [x,y]) (h1:itemsD x= .ok (l.map p)) (h2:itemsD y= .ok (l.map q)):(fun ρ=>(fa ρ).bind zip2) ρ= .ok (l.map fun a=> .tup [p a,q a]):=by
  show (fa ρ).bind zip2=_
  rw[e,R.bind_ok,zip2,h1,R.bind_ok,h2,R.bind_ok,zipL,List.zip_map',List.map_map];rfl
theorem ltI_t {i j:Int} (h:i < j):ltI (.int i) (.int j)= .ok (.bl true):=by
  show R.ok (D.bl (decide (i < j)))=_
  rw[decide_eq_true h]
theorem neK_int {i j:Int} (h:i=j):neK (.int i) (.int j)= .ok (.bl false):=neK_same (by rw[h]) (by simp[dep])
theorem ev_addT {xs ys:List D} (h:xs.length+ys.length≤1000000):addD (.tup xs) (.tup ys)= .ok (.tup (xs++ys)):=by
  rw[addD,if_pos h]
theorem ev_addL {xs ys:List D} (h:xs.length+ys.length≤1000000):addD (.lst xs) (.lst ys)= .ok (.lst (xs++ys)):=by
  rw[addD,if_pos h]
end
section
variable {w h:Nat} {g:Nat→Int} {n:Nat} {c:Int}
end
section
variable {w h:Nat} {f:Nat→Nat→Int} {s:Nat→Nat}
theorem is_way_eq (q:Seam w h s) (h20:h≤20):F_is_way [sm h s,.int (w:Int),.int (h:Int)]= .ok (.bl true):=by
  refine ev_rt (ev_seq (ev_ifF (ev_orF (ev_not (ev_tst (b:=true) rfl)) (ev_tst (ev_bin (ev_call (evo rfl) rfl) rfl (neK_int ?_)))) rfl)
    (ev_seq (ev_ifF (ev_not (ev_tst (ev_call (evo (comp_on (c:=fun y=> .int ((s y:Nat):Int)) (h:=fun _=> .bl true) (l:=List.range h) (ev_seqT rfl) (by rw[List.length_range];omega) fun y hy=>?_)) ev_allL))) rfl)
    (ev_ret (ev_call (evo (comp_on (c:=fun y=> .int ((y+1:Nat):Int)) (h:=fun _=> .bl true) (l:=List.range (h - 1)) (ev_rng2 (evc rfl (evo rfl)) (by omega)) (by rw[List.length_range];omega) fun y hy=>?_)) ev_allL))))
  · simp
  · have:=q.lt y (List.mem_range.mp hy)
    exact ev_elt rfl (ev_and (ev_fn (evo rfl) is_whole_eq) (ev_chn rfl rfl (leI_t (by omega)) rfl (ltI_t (by omega))))
  · have hy:y < h - 1:=List.mem_range.mp hy
    obtain⟨h1,h2⟩:=q.st y (by omega)
    refine ev_elt rfl (ev_bin (ev_call (evo (ev_bin (x:= .int ((s (y+1):Nat):Int)) (y:= .int ((s y:Nat):Int)) (ev_bin rfl rfl (ev_ix (i:=y+1) ?_)) (ev_bin rfl (ev_bin (x:= .int ((y+1:Nat):Int)) (y:= .int 1) rfl rfl ?_) (ev_ix (i:=y) ?_)) rfl)) rfl) rfl (leI_t ?_))
    · rw[List.getElem?_map,List.getElem?_range (by omega)];rfl
    · show R.ok (D.int (((y+1:Nat):Int) - 1))=_
      rw[show ((y+1:Nat):Int) - 1=(y:Int) by omega]
    · rw[List.getElem?_map,List.getElem?_range (by omega)];rfl
    · split <;> omega
theorem is_seam_eq (o:Ok w h f) (q:Seam w h s):F_is_seam [sm h s,pic w h f]= .ok (.bl true):=
  ev_rt (ev_seq (ev_asg (ev_fn (evo rfl) (size_eq o)) rfl) (ev_ret (ev_fn (evc rfl (evc rfl (evo rfl))) (is_way_eq q o.h2))))
theorem need_seam_eq (o:Ok w h f) (q:Seam w h s):F_need_seam [sm h s,pic w h f]= .ok .non:=
  ev_nx (ev_ifF (ev_not (ev_tst (ev_fn (evc rfl (evo rfl)) (is_seam_eq o q)))) rfl)
theorem len0 (o:Ok w h f) {ρ:Rho} {u:Rho→R D} (e:u ρ= .ok (pic w h f)):callV lenD (consA (bin u (fun _=> .ok (.int 0)) ixD) (fun _=> .ok [])) ρ= .ok (.int (w:Int)):=by
  refine ev_call (evo (ev_bin e rfl (ev_ix (i:=0) (d:=row w (f 0)) ?_))) ?_
  · rw[List.getElem?_map,List.getElem?_range o.h1];rfl
  · simp[row,lenD]
noncomputable def less (s:Nat→Nat) (f:Nat→Nat→Int):Nat→Nat→Int:=fun y x=>if x < s y then f y x else f y (x+1)
noncomputable def more (s:Nat→Nat) (c:Nat→Int) (f:Nat→Nat→Int):Nat→Nat→Int:=fun y x=>if x < s y then f y x else if x=s y then c y else f y (x - 1)
end
theorem ev_newL {ρ:Rho} {fa:Rho→R (List D)} {ds:List D} {i:Nat} (e:fa ρ= .ok ds) (h:ds.length≤1000000:=by exact Nat.le_of_ble_eq_true rfl):newL fa i ρ= .nx (ρ.set i (some (.lst ds))):=by
  unfold newL
  rw[e]
  show (if _ then _ else _)=_
  rw[if_pos h]
noncomputable def pl (ps:List Nat):List D:=ps.map fun p=> .int ((p:Nat):Int)
section
variable {ns:List Int} {a:Int} {w h:Nat} {t:Option Ent}
end
section
variable {w h:Nat} {f:Nat→Nat→Int}
end
section
variable {w h:Nat} {f:Nat→Nat→Int} {s:Nat→Nat} {c:Nat→Int}
end
end K20
namespace K20
open PySem PySem.Spec L2 Pu
noncomputable def ab (i:Int):Int:=if i < 0 then -i else i
noncomputable def gap (n:Nat) (g:Nat→Int) (x:Nat):Int:=ab (g (x - 1) - g (min (x+1) (n - 1)))
noncomputable def wor (w h:Nat) (f:Nat→Nat→Int) (y x:Nat):Int:=gap w (f y) x+gap h (fun y=>f y x) y
section
variable {n w h:Nat} {g:Nat→Int} {f:Nat→Nat→Int} {s:Nat→Nat} {ρ:Rho}
theorem len_row:lenD [row n g]= .ok (.int (n:Int)):=by simp[row,lenD]
theorem len_pic:lenD [pic w h f]= .ok (.int (h:Int)):=by simp[pic,lenD]
theorem sub1 {n:Nat} (h1:1≤n):subI (.int (n:Int)) (.int 1)= .ok (.int ((n - 1:Nat):Int)):=by
  show R.ok (D.int ((n:Int) - 1))=_
  rw[show (n:Int) - 1=((n - 1:Nat):Int) by omega]
theorem max0 {x:Nat}:maxD [.int ((x:Int) - 1),.int 0]= .ok (.int ((x - 1:Nat):Int)):=by
  show R.ok (D.int (if (0:Int) > (x:Int) - 1 then 0 else (x:Int) - 1))=_
  congr 2
  split <;> omega
theorem ix_row {x:Nat} (hx:x < n):ixD (row n g) (.int (x:Int))= .ok (.int (g x)):=by
  refine ev_ix (i:=x) ?_
  rw[List.getElem?_map,List.getElem?_range hx];rfl
theorem ix_pic {y:Nat} (hy:y < h):ixD (pic w h f) (.int (y:Int))= .ok (row w (f y)):=by
  refine ev_ix (i:=y) ?_
  rw[List.getElem?_map,List.getElem?_range hy];rfl
theorem ix_lst {α:Type} {p:Nat→D} {x:Nat} (hx:x < n):ixD (.lst ((List.range n).map p)) (.int (x:Int))= .ok (p x):=by
  refine ev_ixL (i:=x) ?_
  rw[List.getElem?_map,List.getElem?_range hx];rfl
noncomputable def cell3 (T:Nat→Int):D:= .tup [.int (T 0),.int (T 1),.int (T 2)]
noncomputable def tab (w h:Nat) (T:Nat→Nat→Nat→Int):D:= .lst ((List.range h).map fun y=> .lst ((List.range w).map fun x=>cell3 (T y x)))
noncomputable def joi (w:Nat) (f:Nat→Nat→Int) (y x i:Nat):Int:=gap w (f y) x+(if i=0 then ab (f (y - 1) x - f y (x - 1)) else if i=1 then 0 else ab (f (y - 1) x - f y (min (x+1) (w - 1))))
theorem ev_app {i:Nat} {u:Rho→R D} {d:D} {ds:List D} (e:u ρ= .ok d) (h:ρ[i]?=some (some (.lst ds))) (hl:ds.length < 1000000):appS i u ρ= .nx (ρ.set i (some (.lst (ds++[d])))):=by
  unfold appS
  rw[e]
  simp only[noE_ok,ofR,h]
  rw[if_pos hl]
theorem enumL_map {p:Nat→D}:∀{n m:Nat},enumL m ((List.range' m n).map p)=(List.range' m n).map fun (x:Nat)=>D.tup [.int (x:Int),p x]
  |0,_=>rfl
  |n+1,m=>by rw[List.range'_succ,List.map_cons,List.map_cons,enumL,enumL_map]
theorem ev_enum {fa:Rho→R (List D)} {x:D} {n:Nat} {p:Nat→D} (e:fa ρ= .ok [x]) (h:itemsD x= .ok ((List.range n).map p)):(fun ρ=>(fa ρ).bind enumD) ρ= .ok ((List.range n).map fun (y:Nat)=>D.tup [.int (y:Int),p y]):=by
  show (fa ρ).bind enumD=_
  rw[e,R.bind_ok,enumD,h,R.bind_ok,List.range_eq_range',enumL_map]
noncomputable def wo3 (w h:Nat) (f:Nat→Nat→Int) (y x i:Nat):Int:=wor w h f y x
noncomputable def fare (T:Nat→Nat→Nat→Int) (s:Nat→Nat) (y:Nat):Int:=T y (s y) (s (y - 1)+1 - s y)
noncomputable def cost (h:Nat) (T:Nat→Nat→Nat→Int) (s:Nat→Nat):Int:=T 0 (s 0) 1+((List.range (h - 1)).map fun y=>fare T s (y+1)).sum
theorem fare_of_eq {T:Nat→Int} {p:Nat→D} {a b:Nat} (hb:b < w) (h1:b≤a+1) (h2:a≤b+1) (hp:p b=cell3 T):F_fare_of [.lst ((List.range w).map p),.int (a:Int),.int (b:Int)]= .ok (.int (T (a+1 - b))):=by
  refine ev_rt (ev_ret (ev_bin (x:=cell3 T) (y:= .int ((a+1 - b:Nat):Int)) (ev_bin rfl rfl ((ix_lst (α:=D) hb).trans (congrArg R.ok hp))) (ev_bin (ev_bin rfl rfl rfl) rfl ?_) (ev_ix (i:=a+1 - b) ?_)))
  · show R.ok (D.int ((a:Int) - (b:Int)+1))=_
    rw[show (a:Int) - (b:Int)+1=((a+1 - b:Nat):Int) by omega]
  · have:a+1 - b=0∨a+1 - b=1∨a+1 - b=2:=by omega
    rcases this with e |e |e <;> rw[e] <;> rfl
theorem ev_aug {i:Nat} {u:Rho→R D} {a b:Int} (h:ρ[i]?=some (some (.val (.int a)))) (e:u ρ= .ok (.int b)):augS i u ρ= .nx (ρ.set i (some (.val (.int (a+b))))):=by
  unfold augS
  simp only[h]
  rw[e];rfl
noncomputable def tbl (m:Str) (w h:Nat) (f:Nat→Nat→Int):Nat→Nat→Nat→Int:=if m= "worth" then wo3 w h f else joi w f
end
section
variable {n w h:Nat} {g:Nat→Int} {f:Nat→Nat→Int} {s:Nat→Nat} {c:Int} {m:Str} {ρ:Rho}
theorem ev_callK {F:List D→R D} {n j:Nat} {sel:List (Sum Nat D)} {fa fk:Rho→R (List D)} {ds zs:List D} {d:D} (e1:fa ρ= .ok ds) (e2:fk ρ= .ok zs) (e3:F (ds++pickK .non sel zs)= .ok d) (hl:(ds++pickK .non sel zs).length=n:=by rfl) (hj:zs.length=j:=by rfl):callK F n j sel fa fk ρ= .ok d:=by
  rw[callK,e1,R.bind_ok,e2,R.bind_ok,if_pos hj,noErr,if_pos hl,e3];rfl
theorem ev_ifVT {c:Rho→R Bool} {f g:Rho→R D} {r:R D} (e:c ρ= .ok true) (h:f ρ=r):ifV c f g ρ=r:=by rw[ifV,e,R.bind_ok,if_pos rfl,h]
theorem ev_ifVF {c:Rho→R Bool} {f g:Rho→R D} {r:R D} (e:c ρ= .ok false) (h:g ρ=r):ifV c f g ρ=r:=by rw[ifV,e,R.bind_ok,if_neg (by decide),h]
theorem neK_i {i j:Int}:neK (.int i) (.int j)= .ok (.bl (!decide (i=j))):=by
  rw[neK,if_pos (by simp[dep])]
  show R.ok (D.bl (!eqD (.int i) (.int j)))=_
  by_cases h:i=j <;> simp[eqD_bb,eqD_bi,eqD_ib,eqD_ii,eqD_ss,eqD_tt,eqD_ll,h]
end
end K20
namespace K20
open PySem PySem.Spec L2 Pu
noncomputable abbrev Wy:=Int×Int×Int
noncomputable def fl (t:Wy):List Int:=[t.1,t.2.1,t.2.2]
noncomputable def wyD (t:Wy):D:= .tup [.int t.1,.int t.2.1,.int t.2.2]
noncomputable def cellD (l:List Wy):D:= .lst (l.map wyD)
section
variable {n w h:Nat} {g:Nat→Int} {f:Nat→Nat→Int} {ρ:Rho}
theorem ev_augL {i:Nat} {u:Rho→R D} {ds es:List D} (h:ρ[i]?=some (some (.lst ds))) (e:u ρ= .ok (.lst es)) (hl:ds.length+es.length≤1000000):augL i u ρ= .nx (ρ.set i (some (.lst (ds++es)))):=by
  unfold augL
  simp only[h,e,noE_ok,ofR]
  rw[if_pos hl]
theorem ev_appM {i k:Nat} {ds es:List D} (h:ρ[i]?=some (some (.lst ds))) (h2:ρ[k]?=some (some (.lst es))) (hl:ds.length < 1000000):appM i k ρ= .nx ((ρ.set i (some (.lst (ds++[.lst es])))).set k (some (.val (.lst es)))):=by
  unfold appM
  simp only[h,h2]
  rw[if_pos hl]
theorem ev_callO {i a:Nat} {G:List D→R D} {n:Nat} {fa:Rho→R (List D)} {ds:List D} {d:D} (h:ρ[i]?=some (some (.obj (.fn a)))) (e:fa ρ= .ok ds) (e2:G ds= .ok d) (hl:ds.length=n:=by rfl):callO i a G n fa ρ= .ok d:=by
  unfold callO
  simp only[h,e,if_true,R.bind_ok,noErr,hl,e2]
  rfl
theorem ev_ixO {i:Nat} {u:Rho→R D} {ds:List D} {k:Int} {d:D} (h:ρ[i]?=some (some (.lst ds))) (e:u ρ= .ok (.int k)) (e2:ixD (.lst ds) (.int k)= .ok d):ixO i u ρ= .ok d:=by
  unfold ixO
  simp only[h,e,R.bind_ok,e2]
theorem ev_tstL {u:Rho→R D} {ds:List D} (e:u ρ= .ok (.lst ds)):tstL u ρ= .ok (!ds.isEmpty):=by unfold tstL;rw[e];rfl
theorem ev_rtE {m:Nat} {s:Rho→So} {es:List Ent} {d:D} (e:s (es.map some++List.replicate m none)= .rt d):runE m s es= .ok d:=by rw[runE,e]
noncomputable def nr (w x:Nat):List Nat:=List.range' (x - 1) (min (x+2) w - (x - 1))
theorem mem_nr {x p:Nat} (hx:x < w):p∈nr w x↔p < w∧p≤x+1∧x≤p+1:=by
  unfold nr
  rw[List.mem_range'_1,Nat.add_sub_cancel' (Nat.le_min.mpr ⟨Nat.le_trans (Nat.sub_le x 1) (Nat.le_add_right x 2),Nat.le_trans (Nat.sub_le x 1) (Nat.le_of_lt hx)⟩),Nat.lt_min]
  exact⟨fun h=>⟨h.2.2,Nat.le_of_lt_succ h.2.1,Nat.le_add_of_sub_le h.1⟩,fun h=>⟨Nat.sub_le_of_le_add h.2.2,Nat.lt_succ_of_le h.2.1,h.1⟩⟩
theorem nr_len {x:Nat}:(nr w x).length≤3:=by unfold nr;rw[List.length_range'];omega
theorem near_eq {x:Nat} (hx:x < w) (hw:w≤20):F_near [.int (x:Int),.int (w:Int)]= .ok (.lst ((nr w x).map fun (p:Nat)=>D.int (p:Int))):=by
  have e2:minD [.int ((x+2:Nat):Int),.int (w:Int)]= .ok (.int ((min (x+2) w:Nat):Int)):=by
    show R.ok (D.int (if (w:Int) < ((x+2:Nat):Int) then (w:Int) else ((x+2:Nat):Int)))=_
    congr 2
    by_cases hz:w < x+2
    · rw[if_pos (Int.ofNat_lt.mpr hz),Nat.min_eq_right (Nat.le_of_lt hz)]
    · rw[if_neg (fun q=>hz (Int.ofNat_lt.mp q)),Nat.min_eq_left (Nat.le_of_not_lt hz)]
  refine ev_rt (ev_ret (ev_call (evc (x:= .int ((x - 1:Nat):Int)) (ev_call (evc (ev_bin rfl rfl rfl) (evo rfl)) max0) (evo (x:= .int ((min (x+2) w:Nat):Int)) (ev_call (evc (x:= .int ((x+2:Nat):Int)) (ev_bin rfl rfl rfl) (evo rfl)) e2))) ?_))
  show (if _ then _ else _)=_
  have b1:x - 1≤1000:=Nat.le_trans (Nat.sub_le x 1) (Nat.le_trans (Nat.le_of_lt hx) (Nat.le_trans hw (by decide)))
  have b2:min (x+2) w≤1000:=Nat.le_trans (Nat.min_le_right _ _) (Nat.le_trans hw (by decide))
  rw[if_pos ⟨Int.le_trans (by decide) (Int.natCast_nonneg _),Int.ofNat_le.mpr b1,Int.le_trans (by decide) (Int.natCast_nonneg _),Int.ofNat_le.mpr b2⟩]
  congr 2
  unfold upto nr
  rw[Int.toNat_sub,List.range'_eq_map_range,List.map_map]
  refine List.map_congr_left fun i _=>?_
  simp
noncomputable def addF (c:Int) (t:Wy):Wy:=(t.1,t.2.1+c,t.2.2)
noncomputable def cands (w:Nat) (C:Nat→List Wy) (T:Nat→Nat→Int) (x:Nat):List Wy:=(nr w x).flatMap fun p=>(C p).map (addF (T p (x+1 - p)))
variable {C:Nat→List Wy} {T:Nat→Nat→Int}
theorem onB_eq {x p:Nat} (hx:x < w) (hp:p∈nr w x) (hC:(C p).length≤1) {e5:Option Ent} {acc:List D} (hl:acc.length≤1000):
    onB [vA (.lst ((List.range w).map fun x=>cellD (C x))),vA (.lst ((List.range w).map fun x=>cell3 (T x))),vA (.int (x:Int)),some (.lst acc),vA (.int (p:Int)),e5] =
      .nx [vA (.lst ((List.range w).map fun x=>cellD (C x))),vA (.lst ((List.range w).map fun x=>cell3 (T x))),vA (.int (x:Int)),some (.lst (acc++((C p).map (addF (T p (x+1 - p)))).map wyD)),vA (.int (p:Int)),vA (.int (T p (x+1 - p)))]:=by
  obtain⟨h1,h2,h3⟩:=(mem_nr hx).mp hp
  refine ev_seq (ev_asg (ev_fn (evc rfl (evc rfl (evo rfl))) (fare_of_eq (T:=T p) (p:=fun x=>cell3 (T x)) h1 (by omega) (by omega) rfl)) rfl) ?_
  refine ev_augL (ds:=acc) rfl (comp_on (c:=wyD) (h:=fun t=>wyD (addF (T p (x+1 - p)) t)) (l:=C p) (ev_seqL (ev_bin rfl rfl (ix_lst (α:=D) h1))) (by omega) fun t ht=>?_) (by simp;omega) |>.trans ?_
  · exact ev_elt rfl (ev_tup (evc rfl (evc (x:= .int (t.2.1+T p (x+1 - p))) (ev_bin rfl rfl rfl) (evo rfl))))
  · rw[List.map_map];rfl
theorem on_loop {x:Nat} (hx:x < w) (hC:∀p < w,(C p).length≤1):∀{ps:List Nat} {acc:List D} {e4 e5:Option Ent},(∀p∈ps,p∈nr w x)→acc.length+ps.length≤1000→
    ∃ z4 z5,forL (setV 4) onB (ps.map fun (p:Nat)=>D.int (p:Int)) [vA (.lst ((List.range w).map fun x=>cellD (C x))),vA (.lst ((List.range w).map fun x=>cell3 (T x))),vA (.int (x:Int)),some (.lst acc),e4,e5] =
      .nx [vA (.lst ((List.range w).map fun x=>cellD (C x))),vA (.lst ((List.range w).map fun x=>cell3 (T x))),vA (.int (x:Int)),some (.lst (acc++(ps.flatMap fun p=>(C p).map (addF (T p (x+1 - p)))).map wyD)),z4,z5]
  |[],acc,e4,e5,_,_=>⟨e4,e5,by simp[forL]⟩
  | p::ps,acc,e4,e5,hp,hl=>by
    rw[List.length_cons] at hl
    have hpn:=hp p (by simp)
    have hpw:=((mem_nr hx).mp hpn).1
    have hc:=hC p hpw
    obtain⟨z4,z5,e⟩:=on_loop hx hC (ps:=ps) (acc:=acc++((C p).map (addF (T p (x+1 - p)))).map wyD) (e4:=vA (.int (p:Int))) (e5:=vA (.int (T p (x+1 - p)))) (fun q hq=>hp q (by simp[hq])) (by simp;omega)
    refine⟨z4,z5,forL_cons rfl (onB_eq hx hpn hc (by omega)) (e.trans ?_)⟩
    rw[List.flatMap_cons,List.map_append,List.append_assoc]
theorem onward_eq {x:Nat} (hx:x < w) (hw:w≤20) (hC:∀p < w,(C p).length≤1):F_onward [.lst ((List.range w).map fun x=>cellD (C x)),.lst ((List.range w).map fun x=>cell3 (T x)),.int (x:Int)]= .ok (.lst ((cands w C T x).map wyD)):=by
  obtain⟨z4,z5,e⟩:=on_loop (T:=T) hx hC (ps:=nr w x) (acc:=[]) (e4:=none) (e5:=none) (fun p hp=>hp) (by have:=nr_len (w:=w) (x:=x);simp;omega)
  have hlen:lenD [.lst ((List.range w).map fun x=>cellD (C x))]= .ok (.int (w:Int)):=by simp[lenD]
  refine ev_rt (ev_seq (ev_newL rfl) (ev_seq (ev_for (ev_seqL (ev_fn (evc rfl (evo (ev_call (evo rfl) hlen))) (near_eq hx hw))) e) (ev_ret rfl)))
end
end K20
namespace K20
open PySem PySem.Spec L2 Pu
section
variable {n w h:Nat} {g:Nat→Int} {f:Nat→Nat→Int} {ρ:Rho}
theorem eqK_i {i j:Int}:eqK (.int i) (.int j)= .ok (.bl (decide (i=j))):=by
  rw[eqK,if_pos (by simp[dep])]
  show R.ok (D.bl (eqD (.int i) (.int j)))=_
  by_cases h:i=j <;> simp[eqD_bb,eqD_bi,eqD_ib,eqD_ii,eqD_ss,eqD_tt,eqD_ll,h]
theorem fold_best:∀{r:List (List Int)} {a:List Int},let b:=r.foldl (fun m x=>if ltL x m then x else m) a
    (b=a∨b∈r)∧ltL a b=false∧∀t∈r,ltL t b=false
  |[],a=>⟨.inl rfl,ltL_irr a,fun t h=>by cases h⟩
  | x ::r,a=>by
    simp only[List.foldl_cons]
    have tr:∀{p q b:List Int},ltL p q=false→ltL q b=false→ltL p b=false:=fun {p q b} h1 h2=>by
      cases z:ltL p b with
      |false=>rfl
      | true=>
        by_cases e:p=q
        · rw[e] at z;rw[h2] at z;cases z
        · have:=ltL_trans (ltL_tot e h1) z;rw[h2] at this;cases this
    cases q:ltL x a with
    | true=>
      simp only[if_true]
      obtain⟨h1,h2,h3⟩:=fold_best (r:=r) (a:=x)
      have ax:ltL a x=false:=by
        cases z:ltL a x with
        |false=>rfl
        |true=>have:=ltL_trans z q;rw[ltL_irr] at this;cases this
      refine⟨.inr (h1.elim (fun e=>by rw[e];exact List.mem_cons_self) fun m=>List.mem_cons_of_mem _ m),tr ax h2,fun t ht=>?_⟩
      rcases List.mem_cons.mp ht with rfl |ht
      · exact h2
      · exact h3 t ht
    | false=>
      simp only[Bool.false_eq_true,if_false]
      obtain⟨h1,h2,h3⟩:=fold_best (r:=r) (a:=a)
      refine⟨h1.imp id fun m=>List.mem_cons_of_mem _ m,h2,fun t ht=>?_⟩
      rcases List.mem_cons.mp ht with rfl |ht
      · exact tr q h2
      · exact h3 t ht
theorem bestL_ok {ts:List (List Int)} (h:ts≠[]):bestL ts∈ts∧∀t∈ts,ltL t (bestL ts)=false:=by
  cases ts with
  |nil=>exact absurd rfl h
  | cons a r=>
    obtain⟨h1,h2,h3⟩:=fold_best (r:=r) (a:=a)
    refine⟨h1.elim (fun e=>by rw[bestL,e];exact List.mem_cons_self) fun m=>List.mem_cons_of_mem _ m,fun t ht=>?_⟩
    rcases List.mem_cons.mp ht with rfl |ht
    · exact h2
    · exact h3 t ht
noncomputable abbrev Pr:=Int×Int
noncomputable def pp (p:Pr):List Int:=[p.1,p.2]
noncomputable def ltP (a b:Pr):Bool:=ltL (pp a) (pp b)
theorem pp_inj {a b:Pr} (h:pp a=pp b):a=b:=by
  obtain⟨a1,a2⟩:=a;obtain⟨b1,b2⟩:=b
  simp[pp] at h
  rw[h.1,h.2]
noncomputable def Mn (L:List Pr) (m:Pr):Prop:=m∈L∧∀x∈L,ltP x m=false
theorem Mn.one {L:List Pr} {a b:Pr} (h1:Mn L a) (h2:Mn L b):a=b:=by
  by_cases e:a=b
  · exact e
  · have:=ltL_tot (fun z=>e (pp_inj z)) (h2.2 a h1.1)
    have q:=h1.2 b h2.1
    exact absurd (this.symm.trans q) (by decide)
noncomputable def mn (L:List Pr):Pr:=((bestL (L.map pp)).getD 0 0,(bestL (L.map pp)).getD 1 0)
theorem pp_mn {L:List Pr} (h:L≠[]):bestL (L.map pp)=pp (mn L):=by
  obtain⟨h1,_⟩:=bestL_ok (ts:=L.map pp) (by simpa using h)
  obtain⟨p,_,e⟩:=List.mem_map.mp h1
  unfold mn
  rw[←e];rfl
theorem mn_ok {L:List Pr} (h:L≠[]):Mn L (mn L):=by
  obtain⟨h1,h2⟩:=bestL_ok (ts:=L.map pp) (by simpa using h)
  rw[pp_mn h] at h1 h2
  obtain⟨p,hp,e⟩:=List.mem_map.mp h1
  exact⟨by rw[←pp_inj e];exact hp,fun x hx=>h2 _ (List.mem_map_of_mem hx)⟩
noncomputable def sumUp (L:List Pr):List Wy:=if L=[] then [] else [((mn L).1,(mn L).2,(L.count (mn L):Int))]
noncomputable abbrev pr (t:Wy):Pr:=(t.1,t.2.1)
noncomputable def bp (cs:List Wy):Pr:=((bestL (cs.map fl)).getD 0 0,(bestL (cs.map fl)).getD 1 0)
noncomputable def alike (m:Pr) (cs:List Wy):List Int:=(cs.filter fun t=>decide (t.1=m.1) && decide (t.2.1=m.2)).map (·.2.2)
noncomputable def goodW (cs:List Wy):List Wy:=if cs=[] then [] else [((bp cs).1,(bp cs).2,(alike (bp cs) cs).sum)]
theorem goodW_len {cs:List Wy}:(goodW cs).length≤1:=by unfold goodW;split <;> simp
theorem bp_ok {cs:List Wy} (h:cs≠[]):Mn (cs.map pr) (bp cs):=by
  obtain⟨h1,h2⟩:=bestL_ok (ts:=cs.map fl) (by simpa using h)
  obtain⟨t,ht,e⟩:=List.mem_map.mp h1
  have eb:bp cs=pr t:=by unfold bp;rw[←e];rfl
  rw[eb]
  refine⟨List.mem_map_of_mem ht,fun x hx=>?_⟩
  obtain⟨u,hu,rfl⟩:=List.mem_map.mp hx
  have:=h2 _ (List.mem_map_of_mem hu)
  rw[←e] at this
  cases z:ltP (pr u) (pr t) with
  |false=>rfl
  | true=>
    have z2:ltL (fl u) (fl t)=true:=by
      obtain⟨u1,u2,u3⟩:=u;obtain⟨t1,t2,t3⟩:=t
      simp only[ltP,pp,pr,fl,ltL] at z ⊢
      by_cases e1:u1=t1
      · rw[if_pos e1] at z ⊢
        by_cases e2:u2=t2
        · rw[if_pos e2] at z;cases z
        · rw[if_neg e2] at z ⊢;exact z
      · rw[if_neg e1] at z ⊢;exact z
    rw[this] at z2;cases z2
end
end K20
namespace K20
open PySem PySem.Spec L2 Pu
section
variable {w h:Nat} {T:Nat→Nat→Nat→Int} {M:Nat→Nat→Int} {f:Nat→Nat→Int} {m:Str} {ρ:Rho}
theorem mapO_f {α:Type} {k:D→R (Option D)} {c:α→D} {o:α→Option D}:∀{l:List α},(∀a∈l,k (c a)= .ok (o a))→mapO k (l.map c)= .ok (l.filterMap o)
  |[],_=>rfl
  | a::l,h=>by
    rw[List.map_cons,mapO,h a (by simp),noE_ok,R.bind_ok,mapO_f fun b hb=>h b (by simp[hb]),R.bind_ok]
    cases e:o a with
    |none=>rw[List.filterMap_cons_none e];rfl
    |some d=>rw[List.filterMap_cons_some e];rfl
theorem comp_f {α:Type} {n:Nat} {caps:List Nat} {fi:Rho→R (List D)} {gt:D→Rho→R Rho} {ft:Rho→R Bool} {fe:Rho→R D} {ρ:Rho} {c:α→D} {o:α→Option D} {l:List α} (e1:fi ρ= .ok (l.map c)) (hl:l.length≤1000000)
    (e2:∀a∈l,eltV gt ft fe (pullN n caps ρ) (c a)= .ok (o a)):compV n caps fi gt ft fe ρ= .ok (.lst (l.filterMap o)):=by
  rw[compV,e1,R.bind_ok,mapO_f e2,R.bind_ok,cap,if_pos (Nat.le_trans (List.length_filterMap_le _ _) hl)]
theorem ev_eltB {ρ ρ1:Rho} {gt:D→Rho→R Rho} {ft:Rho→R Bool} {fe:Rho→R D} {x d:D} {b:Bool} (e1:gt x ρ= .ok ρ1) (e2:ft ρ1= .ok b) (e3:fe ρ1= .ok d):eltV gt ft fe ρ x= .ok (if b=true then some d else none):=by
  rw[eltV,e1,R.bind_ok,e2,R.bind_ok]
  cases b with
  |true=>rw[if_pos rfl,if_pos rfl,e3];rfl
  |false=>rw[if_neg (by decide),if_neg (by decide)]
theorem ev_neg {u:Rho→R D} {i:Int} (e:u ρ= .ok (.int i)):negV u ρ= .ok (.int (-i)):=by rw[negV,e];rfl
theorem tupsOf_wy:∀cs:List Wy,tupsOf (cs.map wyD)=some (cs.map fl)
  |[]=>rfl
  | t::cs=>by
    rw[List.map_cons,List.map_cons]
    show (intsOf [.int t.1,.int t.2.1,.int t.2.2]).bind (fun n=>(tupsOf (cs.map wyD)).map (n:: ·))=_
    rw[tupsOf_wy cs];rfl
theorem alike_D {m:Pr} {cs:List Wy}:(cs.filterMap fun t=>if (decide (t.1=m.1) && decide (t.2.1=m.2))=true then some (D.int t.2.2) else none)=(alike m cs).map .int:=by
  unfold alike
  induction cs with
  |nil=>rfl
  | cons t cs ih=>
    cases q:(decide (t.1=m.1) && decide (t.2.1=m.2)) with
    |true=>rw[List.filterMap_cons_some (b:=D.int t.2.2) (by simp only[q];rfl),List.filter_cons_of_pos (by simpa using q),List.map_cons,List.map_cons,ih]
    |false=>rw[List.filterMap_cons_none (by simp only[q];rfl),List.filter_cons_of_neg (by simpa using q),ih]
theorem as_good_eq {cs:List Wy} (hl:cs.length < 64):F_as_good [.lst (cs.map wyD)]= .ok (cellD (goodW cs)):=by
  by_cases hc:cs=[]
  · subst hc
    exact ev_rt (ev_seqR (ev_ifT (ev_not (ev_tstL (ds:=[]) rfl)) (ev_ret (ev_lst rfl))))
  · have hcb:(cs.map wyD).isEmpty=false:=by cases cs <;> simp_all
    obtain⟨h1,_⟩:=bestL_ok (ts:=cs.map fl) (by simpa using hc)
    obtain⟨t,ht,e⟩:=List.mem_map.mp h1
    have eb:bp cs=(t.1,t.2.1):=by unfold bp;rw[←e];rfl
    have em:minU [.lst (cs.map wyD)]= .ok (.tup [.int t.1,.int t.2.1,.int t.2.2]):=by
      rw[minU,tupsOf_wy]
      show (if _ then _ else _)=_
      rw[if_pos (by rw[List.length_map];exact List.length_pos_iff.mpr hc),←e];rfl
    have eg:cellD (goodW cs)= .lst [.tup [.int t.1,.int t.2.1,.int (alike (bp cs) cs).sum]]:=by unfold goodW;rw[if_neg hc,eb];rfl
    rw[eg]
    have es:sliceV (callV minU (consA (fun ρ=>getV ρ 0) (fun _=> .ok []))) (fun _=> .ok none) (fun ρ=>(((fun _=> .ok (.int 2)):Rho→R D) ρ).bind asI) [vA (.lst (cs.map wyD)),none,none,none]= .ok (.tup [.int t.1,.int t.2.1]):=by
      unfold sliceV
      rw[ev_call (evo rfl) em]
      rfl
    refine ev_rt (ev_seq (ev_ifF ((ev_not (ev_tstL (ds:=cs.map wyD) rfl)).trans (by rw[hcb];rfl)) rfl) (ev_seq (ev_asg es rfl) (ev_seq (ev_asg (d:= .lst ((alike (bp cs) cs).map .int)) ?_ rfl) (ev_ret (ev_lst (evo (ev_tup (evc rfl (evc rfl (evo (ev_call (evo rfl) ?_)))))))))))
    · rw[←alike_D]
      refine comp_f (c:=wyD) (l:=cs) (ev_seqL rfl) (by omega) fun u hu=>?_
      rw[eb]
      refine ev_eltB rfl ?_ rfl
      by_cases q:u.1=t.1
      · rw[decide_eq_true q,Bool.true_and]
        exact ev_andT (ev_tst (ev_bin rfl rfl (by rw[eqK_i,decide_eq_true q]))) (ev_tst (ev_bin rfl rfl eqK_i))
      · rw[decide_eq_false q,Bool.false_and]
        exact ev_andF (ev_tst (ev_bin rfl rfl (by rw[eqK_i,decide_eq_false q])))
    · have:=ev_sumL (c:=fun i:Int=>i) (l:=alike (bp cs) cs)
      simpa using this
theorem lam_eq {cs:List Wy} {x:Nat} (hl:cs.length < 64):GG_lam_best_counts [.int (x:Int),.lst (cs.map wyD)]= .ok (cellD (goodW cs)):=ev_fn (evo rfl) (as_good_eq hl)
end
noncomputable def lostI (m:Int):Int:=if m=2 then 1 else 0
noncomputable def sb (c:Int) (t:Wy):Wy:=(t.1 - c,t.2.1,t.2.2)
noncomputable def top1 (m:Int) (cs:List Wy):List Wy:=if m=1 then [] else (goodW cs).map (sb (lostI m))
section
variable {w h a y:Nat} {T:Nat→Nat→Nat→Int} {M:Nat→Nat→Int} {ρ:Rho}
theorem tail_eqW {l:List Wy} (hl:l.length≤1) {m:Int} {e0 e1 e2 e3 e4 e5 e7 e10:Option Ent} {acc:List D} (ha:acc.length≤1000):
    tailW [e0,e1,e2,e3,e4,e5,some (.lst acc),e7,vA (.int m),vA (cellD l),e10]= .nx [e0,e1,e2,e3,e4,e5,some (.lst (acc++[cellD (l.map (sb (lostI m)))])),e7,vA (.int m),vA (cellD l),vA (.int (lostI m))]:=by
  have e:(ifV (tst (bin (fun ρ=>getV ρ 8) (fun _=> .ok (.int 2)) eqK)) (fun _=> .ok (.int 1)) (fun _=> .ok (.int 0))) [e0,e1,e2,e3,e4,e5,some (.lst acc),e7,vA (.int m),vA (cellD l),e10]= .ok (.int (lostI m)):=by
    unfold lostI
    by_cases hm:m=2
    · rw[if_pos hm];exact ev_ifVT (ev_tst (ev_bin rfl rfl (by rw[eqK_i,decide_eq_true hm]))) rfl
    · rw[if_neg hm];exact ev_ifVF (ev_tst (ev_bin rfl rfl (by rw[eqK_i,decide_eq_false hm]))) rfl
  refine ev_seq (ev_asg e rfl) ?_
  have e2:cellD (l.map (sb (lostI m)))= .lst (l.map fun t=>wyD (sb (lostI m) t)):=by unfold cellD;rw[List.map_map];rfl
  rw[e2]
  refine ev_app (ds:=acc) (comp_on (c:=wyD) (h:=fun t=>wyD (sb (lostI m) t)) (l:=l) (ev_seqL rfl) (by omega) fun t ht=>?_) rfl (by omega)
  exact ev_elt rfl (ev_tup (evc (x:= .int (t.1 - lostI m)) (ev_bin rfl rfl rfl) (evc rfl (evo rfl))))
inductive Ben (w:Nat) (T:Nat→Nat→Nat→Int) (y:Nat):List D→(Nat→List Wy)→Prop
  |last:Ben w T y [] fun _=>[(0,0,1)]
  |more (rs:List D) (C:Nat→List Wy):(∀p < w,(C p).length≤1)→Ben w T y (rs++[.lst ((List.range w).map fun x=>cellD (C x))]) (cands w C (T (y+1)))
theorem told_eqW {rows:List D} {cs:Nat→List Wy} (B:Ben w T y rows cs) (hy:rows≠[]→y+1 < h) {x:Nat} (hx:x < w) (hw:w≤20) (hl:(cs x).length < 64) {m:Int} {e1 e6 e9 e10:Option Ent}:
    toldW a GG_lam_best_counts [vA (tab w h T),e1,vA (.int 1),some (.obj (.fn a)),some (.lst rows),vA (.int (y:Int)),e6,vA (.int (x:Int)),vA (.int m),e9,e10] =
      .nx [vA (tab w h T),e1,vA (.int 1),some (.obj (.fn a)),some (.lst rows),vA (.int (y:Int)),e6,vA (.int (x:Int)),vA (.int m),vA (cellD (if m=1 then [] else goodW (cs x))),e10]:=by
  have th:∀(u:Option Ent),thawE (vA (.int m))=vA (.int m):=fun _=>rfl
  by_cases hm:m=1
  · rw[if_pos hm]
    exact ev_ifT (ev_tst (ev_bin rfl rfl (by rw[eqK_i,decide_eq_true hm]))) (ev_asg (ev_lst rfl) rfl)
  · rw [if_neg hm]
    refine ev_ifF (ev_tst (ev_bin rfl rfl (by rw[eqK_i,decide_eq_false hm]))) ?_
    cases B with
    | last=>
      refine ev_ifT (ev_not (ev_tstL (ds:=[]) rfl)) (ev_asg (ev_callO rfl (evc rfl (evo (ev_lst (evo (ev_tup (evc rfl (evc rfl (evo rfl)))))))) (lam_eq (cs:=[(0,0,1)]) hl)) rfl)
    | more rs C hC=>
      have hy:=hy (by simp)
      refine ev_ifF (ev_not (ev_tstL (ds:=rs++[.lst ((List.range w).map fun x=>cellD (C x))]) rfl) |>.trans (by simp)) (ev_asg (ev_callO rfl (evc rfl (evo (ev_fn (evc (x:= .lst ((List.range w).map fun x=>cellD (C x))) (ev_ixO rfl (k:= -1) rfl ?_) (evc (ev_bin rfl (ev_bin (x:= .int (y:Int)) (y:= .int 1) (r:= .ok (.int ((y+1:Nat):Int))) rfl rfl rfl) (ix_lst (α:=D) hy)) (evo rfl))) (onward_eq (C:=C) (T:=T (y+1)) hx hw hC)))) (lam_eq hl)) rfl)
      rw[ixD]
      have:L2.atI (rs++[D.lst ((List.range w).map fun x=>cellD (C x))]) (-1)=some (.lst ((List.range w).map fun x=>cellD (C x))):=by
        unfold L2.atI ixN
        rw[if_neg (by decide),if_pos (by simp;omega)]
        simp only[List.length_append,List.length_singleton,Option.bind_some]
        rw[show ((-1:Int)+((rs.length+1:Nat):Int)).toNat=rs.length by omega,List.getElem?_append_right (Nat.le_refl _)]
        simp
      rw[this]
end
end K20
namespace K20
open PySem PySem.Spec L2 Pu
noncomputable def csk (w h:Nat) (T:Nat→Nat→Nat→Int) (M:Nat→Nat→Int):Nat→Nat→List Wy
  |0,_=>[(0,0,1)]
  |k+1,x=>cands w (fun p=>top1 (M (h - 1 - k) p) (csk w h T M k p)) (T (h - 1 - k)) x
noncomputable def rwk (w h:Nat) (T:Nat→Nat→Nat→Int) (M:Nat→Nat→Int) (k x:Nat):List Wy:=top1 (M (h - 1 - k) x) (csk w h T M k x)
section
variable {w h a:Nat} {T:Nat→Nat→Nat→Int} {M:Nat→Nat→Int} {ρ:Rho}
theorem csk_succ {k x:Nat}:csk w h T M (k+1) x=cands w (rwk w h T M k) (T (h - 1 - k)) x:=rfl
theorem top1_len {m:Int} {cs:List Wy}:(top1 m cs).length≤1:=by
  unfold top1
  split
  · simp
  · have:=goodW_len (cs:=cs);simpa using this
theorem flat_len {α β:Type} {F:α→List β}:∀{l:List α},(∀a∈l,(F a).length≤1)→(l.flatMap F).length≤l.length
  |[],_=>by simp
  | a::l,h=>by
    rw[List.flatMap_cons,List.length_append,List.length_cons]
    have h1:=h a (by simp)
    have h2:=flat_len (l:=l) fun b hb=>h b (by simp[hb])
    omega
theorem csk_len:∀{k x:Nat},(csk w h T M k x).length < 64
  |0,_=>by simp[csk]
  | k+1,x=>by
    rw[csk_succ]
    unfold cands
    have:=flat_len (F:=fun p=>(rwk w h T M k p).map (addF (T (h - 1 - k) p (x+1 - p)))) (l:=nr w x) fun p _=>by rw[List.length_map];exact top1_len
    have h2:=nr_len (w:=w) (x:=x)
    omega
noncomputable def rowW (w h:Nat) (T:Nat→Nat→Nat→Int) (M:Nat→Nat→Int) (k:Nat):D:= .lst ((List.range w).map fun x=>cellD (rwk w h T M k x))
theorem in_loop {y:Nat} {rows:List D} {cs:Nat→List Wy} (B:Ben w T y rows cs) (hy:rows≠[]→y+1 < h) (hw:w≤20) (hl:∀x,(cs x).length < 64) {e1:Option Ent}:∀{xs:List Nat} {acc:List D} {e7 e8 e9 e10:Option Ent},(∀x∈xs,x < w)→acc.length+xs.length≤1000→
    ∃ z7 z8 z9 z10,forL (tupG (lenG 2 (consG (setV 7) (consG (setV 8) nilG)))) (inW a GG_lam_best_counts) (xs.map fun (x:Nat)=>D.tup [.int (x:Int),.int (M y x)]) [vA (tab w h T),e1,vA (.int 1),some (.obj (.fn a)),some (.lst rows),vA (.int (y:Int)),some (.lst acc),e7,e8,e9,e10] =
      .nx [vA (tab w h T),e1,vA (.int 1),some (.obj (.fn a)),some (.lst rows),vA (.int (y:Int)),some (.lst (acc++xs.map fun x=>cellD (top1 (M y x) (cs x)))),z7,z8,z9,z10]
  |[],acc,e7,e8,e9,e10,_,_=>⟨e7,e8,e9,e10,by simp[forL]⟩
  | x ::xs,acc,e7,e8,e9,e10,hx,hle=>by
    rw[List.length_cons] at hle
    have hxw:=hx x (by simp)
    obtain⟨z7,z8,z9,z10,e⟩:=in_loop B hy hw hl (e1:=e1) (xs:=xs) (acc:=acc++[cellD (top1 (M y x) (cs x))]) (e7:=vA (.int (x:Int))) (e8:=vA (.int (M y x))) (e9:=vA (cellD (if M y x=1 then [] else goodW (cs x)))) (e10:=vA (.int (lostI (M y x)))) (fun q hq=>hx q (by simp[hq])) (by simp;omega)
    refine⟨z7,z8,z9,z10,forL_cons rfl (ev_seq (told_eqW B hy hxw hw (hl x)) (tail_eqW ?_ (by omega) |>.trans ?_)) (e.trans ?_)⟩
    · split
      · simp
      · have:=goodW_len (cs:=cs x);simpa using this
    · have:top1 (M y x) (cs x)=(if M y x=1 then [] else goodW (cs x)).map (sb (lostI (M y x))):=by unfold top1;split <;> rfl
      rw[this]
    · rw[List.map_cons,List.append_assoc];rfl
noncomputable def dn (r:Nat):List D:=(List.range r).map fun (i:Nat)=>D.int ((r:Int) - 1 - (i:Int))
theorem dn_succ (r:Nat):dn (r+1)=D.int (r:Int)::dn r:=by
  unfold dn
  rw[List.range_succ_eq_map,List.map_cons,List.map_map]
  congr 1
  · congr 1;omega
  · refine List.map_congr_left fun i _=>?_
    show D.int _=D.int _
    congr 1
    simp only[Nat.succ_eq_add_one]
    omega
theorem ben_at {k y:Nat} (hk:k < h) (hy:y=h - 1 - k):Ben w T y ((List.range k).map (rowW w h T M)) (csk w h T M k):=by
  cases k with
  |zero=>exact .last
  | succ k=>
    rw[List.range_succ,List.map_append]
    have e:csk w h T M (k+1)=cands w (rwk w h T M k) (T (y+1)):=by
      funext x
      rw[csk_succ,show y+1=h - 1 - k by omega]
    rw[e]
    exact .more _ _ fun p _=>top1_len
theorem out_eq {k y:Nat} (hk:k < h) (hy:y=h - 1 - k) (hh:h≤20) (hw:w≤20) {e6 e7 e8 e9 e10:Option Ent}:∃z6 z7 z8 z9 z10,outW a GG_lam_best_counts [vA (tab w h T),vA (pic w h M),vA (.int 1),some (.obj (.fn a)),some (.lst ((List.range k).map (rowW w h T M))),vA (.int (y:Int)),e6,e7,e8,e9,e10] =
    .nx [vA (tab w h T),vA (pic w h M),vA (.int 1),some (.obj (.fn a)),some (.lst ((List.range (k+1)).map (rowW w h T M))),vA (.int (y:Int)),z6,z7,z8,z9,z10]:=by
  obtain⟨z7,z8,z9,z10,e⟩:=in_loop (h:=h) (a:=a) (M:=M) (e1:=vA (pic w h M)) (ben_at (w:=w) (T:=T) (M:=M) hk hy) (fun hne=>by
    have:k≠0:=fun z=>hne (by rw[z];rfl)
    omega) hw (fun x=>csk_len) (xs:=List.range w) (acc:=[]) (e7:=e7) (e8:=e8) (e9:=e9) (e10:=e10) (fun x hx=>List.mem_range.mp hx) (by simp;omega)
  refine⟨vA (.lst ([]++(List.range w).map fun x=>cellD (top1 (M y x) (csk w h T M k x)))),z7,z8,z9,z10,ev_seq (ev_newL rfl) (ev_seq (ev_for (ev_enum (evo (ev_bin rfl rfl (ix_pic (by omega)))) rfl) e) ((ev_appM (ds:=(List.range k).map (rowW w h T M)) (es:=[]++(List.range w).map fun x=>cellD (top1 (M y x) (csk w h T M k x))) rfl rfl (by rw[List.length_map,List.length_range];omega)).trans ?_))⟩
  rw[List.range_succ,List.map_append]
  have er:((List.range w).map fun x=>cellD (top1 (M y x) (csk w h T M k x)))=(List.range w).map fun x=>cellD (rwk w h T M k x):=by
    refine List.map_congr_left fun x _=>?_
    unfold rwk
    rw[hy]
  simp only[List.nil_append]
  rw[er]
  rfl
theorem out_loop (hh:h≤20) (hw:w≤20):∀{r k:Nat} {e5 e6 e7 e8 e9 e10:Option Ent},k+r=h→∃z5 z6 z7 z8 z9 z10,forL (setV 5) (outW a GG_lam_best_counts) (dn r) [vA (tab w h T),vA (pic w h M),vA (.int 1),some (.obj (.fn a)),some (.lst ((List.range k).map (rowW w h T M))),e5,e6,e7,e8,e9,e10] =
    .nx [vA (tab w h T),vA (pic w h M),vA (.int 1),some (.obj (.fn a)),some (.lst ((List.range h).map (rowW w h T M))),z5,z6,z7,z8,z9,z10]
  |0,k,e5,e6,e7,e8,e9,e10,hk=>⟨e5,e6,e7,e8,e9,e10,by rw[show k=h by omega];rfl⟩
  | r+1,k,e5,e6,e7,e8,e9,e10,hk=>by
    obtain⟨y6,y7,y8,y9,y10,e1⟩:=out_eq (a:=a) (w:=w) (T:=T) (M:=M) (k:=k) (y:=r) (by omega) (by omega) hh hw (e6:=e6) (e7:=e7) (e8:=e8) (e9:=e9) (e10:=e10)
    obtain⟨z5,z6,z7,z8,z9,z10,e2⟩:=out_loop hh hw (r:=r) (k:=k+1) (e5:=vA (.int (r:Int))) (e6:=y6) (e7:=y7) (e8:=y8) (e9:=y9) (e10:=y10) (by omega)
    rw[dn_succ]
    exact⟨z5,z6,z7,z8,z9,z10,forL_cons rfl e1 e2⟩
theorem swept_eq (hh:h≤20) (hw:w≤20):F_swept a GG_lam_best_counts [tab w h T,pic w h M,.int 1]= .ok (.lst ((List.range h).map (rowW w h T M)).reverse):=by
  obtain⟨z5,z6,z7,z8,z9,z10,e⟩:=out_loop (a:=a) (w:=w) (T:=T) (M:=M) hh hw (r:=h) (k:=0) (e5:=none) (e6:=none) (e7:=none) (e8:=none) (e9:=none) (e10:=none) (by omega)
  have er:rvsR [.int (h:Int)]= .ok (dn h):=by
    show (if _ then _ else _)=_
    rw[if_pos (by omega)]
    rfl
  refine ev_rtE (ev_seq (ev_newL rfl) (ev_seq (ev_for ?_ e) (ev_ret ?_)))
  · show ((consA (callV lenD (consA (fun ρ=>getV ρ 1) (fun _=> .ok []))) (fun _=> .ok [])) _).bind rvsR=_
    rw[evo (ev_call (evo rfl) len_pic)]
    exact er
  · show revLV _ _=_
    unfold revLV
    rfl
end
end K20
namespace K20
open PySem PySem.Spec L2 Pu
section
variable {w h:Nat} {T:Nat→Nat→Nat→Int} {M:Nat→Nat→Int} {f:Nat→Nat→Int} {m:Str} {ρ:Rho}
theorem best_eq (hh:h≤20) (hw:w≤20):F_best_counts [tab w h T,pic w h M]= .ok (.lst ((List.range h).map (rowW w h T M)).reverse):=by
  refine ev_rtE ?_
  show (match allOf (fun x=>F_swept x GG_lam_best_counts [tab w h T,pic w h M,.int 1]) with | .ok r=>So.rt r |_=> .bad)=_
  rw[allOf_eq fun a=>swept_eq hh hw]
theorem rev_range {F:Nat→D}:((List.range h).map F).reverse=(List.range h).map fun y=>F (h - 1 - y):=by
  apply List.ext_getElem?
  intro i
  by_cases hi:i < h
  · rw[List.getElem?_reverse (by simpa using hi),List.getElem?_map,List.getElem?_map,List.getElem?_range hi,List.length_map,List.length_range,List.getElem?_range (by omega)]
    rfl
  · rw[List.getElem?_eq_none (by simp;omega),List.getElem?_eq_none (by simp;omega)]
noncomputable def Mk (w h:Nat) (M:Nat→Nat→Int):Prop:=∀y x,0≤M y x∧M y x≤2
theorem whole_i {i:Int}:F_is_whole [.int i]= .ok (.bl true):=by rfl
theorem le_t {i j:Int} (h:i≤j):leI (.int i) (.int j)= .ok (.bl true):=by
  show R.ok (D.bl (decide _))=_
  rw[decide_eq_true h]
theorem is_mark_eq {i:Int} (h:0≤i∧i≤2):F_is_mark [.int i]= .ok (.bl true):=
  ev_rt (ev_ret (ev_and (ev_fn (evo rfl) whole_i) (ev_chn rfl rfl (le_t h.1) rfl (le_t h.2))))
theorem all_t {α:Type} {l:List α}:allD [.lst (l.map fun _=> .bl true)]= .ok (.bl true):=ev_allL
theorem is_marks_row_eq {g:Nat→Int} (hw:w≤20) (hg:∀x,0≤g x∧g x≤2):F_is_marks_row [row w g,.int (w:Int)]= .ok (.bl true):=by
  refine ev_rt (ev_ret (ev_and rfl (ev_and (ev_bin (ev_call (evo rfl) len_row) rfl (by rw[eqK_i,decide_eq_true rfl])) (ev_call (evo (comp_on (c:=fun x=>D.int (g x)) (h:=fun _=>D.bl true) (l:=List.range w) (ev_seqT rfl) (by rw[List.length_range];omega) fun x hx=>?_)) all_t))))
  exact ev_elt rfl (ev_fn (evo rfl) (is_mark_eq (hg x)))
theorem neK_same {i:Int}:neK (.int i) (.int i)= .ok (.bl false):=by rw[neK_i,decide_eq_true rfl];rfl
theorem is_marks_eq (o:Ok w h f) (hM:Mk w h M):F_is_marks [pic w h M,pic w h f]= .ok (.bl true):=by
  have h20:=o.h2
  refine ev_rt (ev_seq (ev_ifF (ev_orF (ev_not (b:=true) (ev_tst rfl)) (ev_tst (ev_bin (ev_call (evo rfl) len_pic) (ev_call (evo rfl) len_pic) neK_same))) rfl) (ev_ret (ev_call (evo (comp_on (c:=fun y=>row w (M y)) (h:=fun _=>D.bl true) (l:=List.range h) (ev_seqT rfl) (by rw[List.length_range];omega) fun y hy=>?_)) all_t)))
  exact ev_elt rfl (ev_fn (evc rfl (evo (len0 o rfl))) (is_marks_row_eq o.w2 (hM y)))
theorem mul_one {d:D} {k:Nat} (h1:1≤k) (h20:k≤20):mulD (.tup [d]) (.int (k:Int))= .ok (.tup ((List.range k).map fun _=>d)):=by
  rw[mulD,if_pos ⟨by simp,by omega,by omega,by simp;omega⟩]
  congr 2
  rw[show ((k:Nat):Int).toNat=k by omega]
  clear h1 h20
  induction k with
  |zero=>rfl
  |succ k ih=>rw[List.replicate_succ,List.flatten_cons,ih,List.range_succ_eq_map,List.map_cons,List.map_map];rfl
theorem all_free_eq (o:Ok w h f):F_all_free [pic w h f]= .ok (pic w h fun _ _=>0):=
  ev_rt (ev_ret (ev_bin (ev_tup (evo (ev_bin (ev_tup (evo rfl)) (len0 o rfl) (mul_one o.w1 o.w2)))) (ev_call (evo rfl) len_pic) (mul_one o.h1 o.h2)))
theorem full_none (o:Ok w h f):F_full_marks [.non,pic w h f]= .ok (pic w h fun _ _=>0):=
  ev_rt (ev_seqR (ev_ifT (ev_tst (b:=true) (ev_bin rfl rfl rfl)) (ev_ret (ev_fn (evo rfl) (all_free_eq o)))))
theorem full_some (o:Ok w h f) (hM:Mk w h M):F_full_marks [pic w h M,pic w h f]= .ok (pic w h M):=
  ev_rt (ev_seq (ev_ifF (ev_tst (b:=false) (ev_bin rfl rfl rfl)) rfl) (ev_seq (ev_ifF (ev_not (b:=true) (ev_tst (ev_fn (evc rfl (evo rfl)) (is_marks_eq o hM)))) rfl) (ev_ret rfl)))
end
end K20
namespace K20
open PySem PySem.Spec L2 Pu
section
variable {w h:Nat} {T:Nat→Nat→Nat→Int} {M:Nat→Nat→Int}
noncomputable def addP (c:Int) (v:Pr):Pr:=(v.1,v.2+c)
noncomputable def sbP (c:Int) (v:Pr):Pr:=(v.1 - c,v.2)
theorem ltP_add {c:Int} {a b:Pr}:ltP (addP c a) (addP c b)=ltP a b:=by
  obtain⟨a1,a2⟩:=a;obtain⟨b1,b2⟩:=b
  simp only[ltP,pp,addP,ltL]
  by_cases e1:a1=b1
  · rw[if_pos e1,if_pos e1]
    by_cases e:a2=b2
    · rw[if_pos (by omega),if_pos e]
    · rw[if_neg (by omega),if_neg e];exact decide_eq_decide.mpr (by omega)
  · rw[if_neg e1,if_neg e1]
theorem ltP_sb {c:Int} {a b:Pr}:ltP (sbP c a) (sbP c b)=ltP a b:=by
  obtain⟨a1,a2⟩:=a;obtain⟨b1,b2⟩:=b
  simp only[ltP,pp,sbP,ltL]
  by_cases e:a1=b1
  · rw[if_pos (by omega),if_pos e]
  · rw[if_neg (by omega),if_neg e];exact decide_eq_decide.mpr (by omega)
theorem add_inj {c:Int} {a b:Pr} (h:addP c a=addP c b):a=b:=by
  obtain⟨a1,a2⟩:=a;obtain⟨b1,b2⟩:=b
  simp only[addP,Prod.mk.injEq] at h ⊢
  exact⟨h.1,by omega⟩
theorem sb_inj {c:Int} {a b:Pr} (h:sbP c a=sbP c b):a=b:=by
  obtain⟨a1,a2⟩:=a;obtain⟨b1,b2⟩:=b
  simp only[sbP,Prod.mk.injEq] at h ⊢
  exact⟨by omega,h.2⟩
theorem count_inj {g:Pr→Pr} (hi:∀a b,g a=g b→a=b) (m:Pr):∀L:List Pr,(L.map g).count (g m)=L.count m
  |[]=>rfl
  | a ::L=>by
    rw[List.map_cons,List.count_cons,List.count_cons,count_inj hi m L]
    by_cases e:a=m
    · rw[e];simp
    · have e2:¬g a=g m:=fun z=>e (hi _ _ z)
      simp[e,e2]
theorem sumUp_map {g:Pr→Pr} {gW:Wy→Wy} (hi:∀a b,g a=g b→a=b) (hlt:∀a b,ltP (g a) (g b)=ltP a b) (hg:∀t,gW t=((g (pr t)).1,(g (pr t)).2,t.2.2)) (L:List Pr):sumUp (L.map g)=(sumUp L).map gW:=by
  by_cases hL:L=[]
  · subst hL;rfl
  · have hm:=mn_ok hL
    have e:mn (L.map g)=g (mn L):=Mn.one (mn_ok (by simpa using hL)) ⟨List.mem_map_of_mem hm.1,fun x hx=>by
      obtain⟨u,hu,rfl⟩:=List.mem_map.mp hx
      rw[hlt];exact hm.2 u hu⟩
    unfold sumUp
    rw[if_neg hL,if_neg (by simpa using hL),e,count_inj hi,List.map_cons,hg]
    rfl
theorem alike_app {m:Pr} {a b:List Wy}:alike m (a++b)=alike m a++alike m b:=by unfold alike;rw[List.filter_append,List.map_append]
theorem alike_one {m:Pr} {L:List Pr} (h:∀x∈L,ltP x m=false):(alike m (sumUp L)).sum=(L.count m:Int):=by
  by_cases hL:L=[]
  · subst hL;rfl
  · have hm:=mn_ok hL
    unfold sumUp
    rw[if_neg hL]
    by_cases e:mn L=m
    · rw[e];simp[alike]
    · have n:m∉L:=fun z=>e (Mn.one hm ⟨z,h⟩)
      have e2:(decide ((mn L).1=m.1) && decide ((mn L).2=m.2))=false:=by
        cases q:(decide ((mn L).1=m.1) && decide ((mn L).2=m.2)) with
        |false=>rfl
        | true=>
          simp only[Bool.and_eq_true,decide_eq_true_eq] at q
          exact absurd (Prod.ext q.1 q.2) e
      rw[List.count_eq_zero.mpr n]
      unfold alike
      rw[List.filter_cons_of_neg (by simp only[e2];exact Bool.false_ne_true)]
      rfl
theorem alike_sum {α:Type} {m:Pr} {L:α→List Pr}:∀{P:List α},(∀p∈P,∀x∈L p,ltP x m=false)→(alike m (P.flatMap fun p=>sumUp (L p))).sum=((P.flatMap L).count m:Int)
  |[],_=>rfl
  | p::P,h=>by
    rw[List.flatMap_cons,List.flatMap_cons,alike_app,List.sum_append,alike_one fun x hx=>h p List.mem_cons_self x hx,alike_sum fun q hq=>h q (List.mem_cons_of_mem _ hq),List.count_append]
    omega
theorem good_flat {α:Type} (P:List α) (L:α→List Pr):goodW (P.flatMap fun p=>sumUp (L p))=sumUp (P.flatMap L):=by
  by_cases hA:P.flatMap L=[]
  · have hp:∀p∈P,L p=[]:=fun p hp=>by
      cases q:L p with
      |nil=>rfl
      | cons a r=>
        have:a∈P.flatMap L:=List.mem_flatMap.mpr ⟨p,hp,by rw[q];exact List.mem_cons_self⟩
        rw[hA] at this;cases this
    have:P.flatMap (fun p=>sumUp (L p))=[]:=List.flatMap_eq_nil_iff.mpr fun p hq=>by rw[hp p hq];rfl
    rw[this,hA];rfl
  · have hm:=mn_ok hA
    obtain⟨p0,hp0,hm0⟩:=List.mem_flatMap.mp hm.1
    have ne0:L p0≠[]:=List.ne_nil_of_mem hm0
    have e0:mn (L p0)=mn (P.flatMap L):=Mn.one (mn_ok ne0) ⟨hm0,fun x hx=>hm.2 x (List.mem_flatMap.mpr ⟨p0,hp0,hx⟩)⟩
    have t0:((mn (L p0)).1,(mn (L p0)).2,((L p0).count (mn (L p0)):Int))∈P.flatMap fun p=>sumUp (L p):=List.mem_flatMap.mpr ⟨p0,hp0,by unfold sumUp;rw[if_neg ne0];exact List.mem_cons_self⟩
    have hne:=List.ne_nil_of_mem t0
    have eb:bp (P.flatMap fun p=>sumUp (L p))=mn (P.flatMap L):=by
      refine Mn.one (bp_ok hne) ⟨?_,fun x hx=>?_⟩
      · rw[←e0];exact List.mem_map.mpr ⟨_,t0,rfl⟩
      · obtain⟨t,ht,rfl⟩:=List.mem_map.mp hx
        obtain⟨p,hp,ht⟩:=List.mem_flatMap.mp ht
        unfold sumUp at ht
        by_cases q:L p=[]
        · rw[if_pos q] at ht;cases ht
        · rw[if_neg q] at ht
          have ht:=List.mem_singleton.mp ht
          subst ht
          exact hm.2 _ (List.mem_flatMap.mpr ⟨p,hp,(mn_ok q).1⟩)
    unfold goodW
    rw[if_neg hne,eb,alike_sum fun p hp x hx=>hm.2 x (List.mem_flatMap.mpr ⟨p,hp,hx⟩)]
    unfold sumUp
    rw[if_neg hA]
noncomputable def Pa (w:Nat) (M:Nat→Nat→Int):Nat→List Nat→Prop
  |_,[]=>True
  |y,[x]=>x < w∧M y x≠1
  |y,x::p::l=>x < w∧M y x≠1∧p≤x+1∧x≤p+1∧Pa w M (y+1) (p::l)
theorem Pa.lt {y x:Nat} {l:List Nat} (h:Pa w M y (x::l)):x < w:=by
  cases l with
  |nil=>exact h.1
  |cons p l=>exact h.1
theorem Pa.ne {y x:Nat} {l:List Nat} (h:Pa w M y (x::l)):M y x≠1:=by
  cases l with
  |nil=>exact h.2
  |cons p l=>exact h.2.1
noncomputable def vp (T:Nat→Nat→Nat→Int) (M:Nat→Nat→Int):Nat→List Nat→Pr
  |_,[]=>(0,0)
  |y,[x]=>sbP (lostI (M y x)) (0,0)
  |y,x::p::l=>sbP (lostI (M y x)) (addP (T (y+1) p (x+1 - p)) (vp T M (y+1) (p::l)))
noncomputable def pth (w:Nat) (M:Nat→Nat→Int):Nat→Nat→Nat→List (List Nat)
  |0,y,x=>if M y x=1 then [] else [[x]]
  |k+1,y,x=>if M y x=1 then [] else ((nr w x).flatMap fun p=>pth w M k (y+1) p).map (x:: ·)
theorem pth_head:∀{k y x:Nat} {l:List Nat},l∈pth w M k y x→∃l',l=x::l'
  | 0,y,x,l,h=>by
    unfold pth at h
    by_cases q:M y x=1
    · rw[if_pos q] at h;cases h
    · rw[if_neg q] at h;exact⟨[],List.mem_singleton.mp h⟩
  | k +1,y,x,l,h=>by
    unfold pth at h
    by_cases q:M y x=1
    · rw[if_pos q] at h;cases h
    · rw[if_neg q] at h
      obtain⟨l',_,rfl⟩:=List.mem_map.mp h
      exact⟨l',rfl⟩
theorem mem_pth:∀{k y x:Nat} {l:List Nat},x < w→(l∈pth w M k y x↔∃l',l=x::l'∧l'.length=k∧Pa w M y l)
  | 0, y,x,l,hx=>by
    unfold pth
    by_cases q:M y x=1
    · rw[if_pos q]
      refine⟨fun z=>absurd z (by simp),?_⟩
      rintro⟨l',rfl,hl,hP⟩
      exact absurd q hP.ne
    · rw[if_neg q,List.mem_singleton]
      refine⟨?_,?_⟩
      · rintro rfl;exact⟨[],rfl,rfl,hx,q⟩
      · rintro⟨l',rfl,hl,_⟩
        rw[List.length_eq_zero_iff.mp hl]
  | k + 1,y,x,l,hx=>by
    unfold pth
    by_cases q:M y x=1
    · rw[if_pos q]
      refine⟨fun z=>absurd z (by simp),?_⟩
      rintro⟨l',rfl,hl,hP⟩
      exact absurd q hP.ne
    · rw [if_neg q,List.mem_map]
      refine⟨?_,?_⟩
      · rintro⟨l1,h1,rfl⟩
        obtain⟨p,hp,hl⟩:=List.mem_flatMap.mp h1
        obtain⟨a1,a2,a3⟩:=(mem_nr hx).mp hp
        obtain⟨l2,rfl,h2,h3⟩:=(mem_pth a1).mp hl
        exact⟨p::l2,rfl,by rw[List.length_cons,h2],hx,q,a2,a3,h3⟩
      · rintro⟨l1,rfl,hl,hP⟩
        cases l1 with
        |nil=>cases hl
        | cons p l2=>
          obtain⟨_,_,b1,b2,b3⟩:=hP
          exact⟨p::l2,List.mem_flatMap.mpr ⟨p,(mem_nr hx).mpr ⟨b3.lt,b1,b2⟩,(mem_pth b3.lt).mpr ⟨l2,rfl,by simpa using hl,b3⟩⟩,rfl⟩
theorem heads_nd {P:List Nat} (hP:P.Nodup) {F:Nat→List (List Nat)} (hF:∀p,(F p).Nodup) (hh:∀p l,l∈F p→∃l',l=p::l'):(P.flatMap F).Nodup:=by
  unfold List.Nodup
  rw[List.pairwise_flatMap]
  refine⟨fun p _=>hF p,hP.imp fun {p q} hpq a ha b hb e=>?_⟩
  obtain⟨a',rfl⟩:=hh p a ha
  obtain⟨b',rfl⟩:=hh q b hb
  exact hpq (List.cons.inj e).1
theorem pth_nd:∀{k y x:Nat},(pth w M k y x).Nodup
  |0,y,x=>by unfold pth;split <;> simp
  | k +1,y,x=>by
    unfold pth
    by_cases q:M y x=1
    · rw[if_pos q];exact .nil
    · rw[if_neg q]
      have:((nr w x).flatMap fun p=>pth w M k (y+1) p).Nodup:=heads_nd List.nodup_range' (fun p=>pth_nd) fun p l hl=>pth_head hl
      exact List.pairwise_map.mpr (this.imp fun {a b} hab e=>hab (List.cons.inj e).2)
noncomputable def pv (w:Nat) (T:Nat→Nat→Nat→Int) (M:Nat→Nat→Int) (k y x:Nat):List Pr:=(pth w M k y x).map (vp T M y)
theorem pv_succ {k y x:Nat}:pv w T M (k+1) y x=if M y x=1 then [] else ((nr w x).flatMap fun p=>(pv w T M k (y+1) p).map (addP (T (y+1) p (x+1 - p)))).map (sbP (lostI (M y x))):=by
  unfold pv
  rw[pth]
  by_cases q:M y x=1
  · rw[if_pos q,if_pos q];rfl
  · rw[if_neg q,if_neg q,List.map_map,List.map_flatMap,List.map_flatMap]
    congr 1
    funext p
    rw[List.map_map,List.map_map]
    refine List.map_congr_left fun l hl=>?_
    obtain⟨l',rfl⟩:=pth_head hl
    rfl
theorem sub_up {h k:Nat} (hk:k+1 < h):h - 1 - k=h - 1 - (k+1)+1:=by omega
theorem rwk_pv:∀{k x:Nat},k < h→rwk w h T M k x=sumUp (pv w T M k (h - 1 - k) x)
  | 0, x,hk=>by
    unfold rwk top1 pv pth
    by_cases q:M (h - 1 - 0) x=1
    · rw[if_pos q,if_pos q];rfl
    · rw[if_neg q,if_neg q]
      have e1:goodW (csk w h T M 0 x)=sumUp [((0:Int),(0:Int))]:=by
        show goodW ([()].flatMap fun _=>sumUp [((0:Int),(0:Int))])=_
        rw[good_flat];rfl
      rw[e1,←sumUp_map (g:=sbP (lostI (M (h - 1 - 0) x))) (gW:=sb (lostI (M (h - 1 - 0) x))) (fun a b=>sb_inj) (fun a b=>ltP_sb) (fun t=>rfl)]
      rfl
  | k + 1,x,hk=>by
    have ey:h - 1 - k=h - 1 - (k+1)+1:=sub_up hk
    unfold rwk top1
    rw[pv_succ]
    by_cases q:M (h - 1 - (k+1)) x=1
    · rw[if_pos q,if_pos q];rfl
    · rw[if_neg q,if_neg q,csk_succ]
      have e1:cands w (rwk w h T M k) (T (h - 1 - k)) x=(nr w x).flatMap fun p=>sumUp ((pv w T M k (h - 1 - (k+1)+1) p).map (addP (T (h - 1 - (k+1)+1) p (x+1 - p)))):=by
        unfold cands
        congr 1
        funext p
        rw[rwk_pv (k:=k) (x:=p) (by omega),ey,sumUp_map (g:=addP (T (h - 1 - (k+1)+1) p (x+1 - p))) (gW:=addF (T (h - 1 - (k+1)+1) p (x+1 - p))) (fun a b=>add_inj) (fun a b=>ltP_add) (fun t=>rfl)]
      rw[e1,good_flat,←sumUp_map (g:=sbP (lostI (M (h - 1 - (k+1)) x))) (gW:=sb (lostI (M (h - 1 - (k+1)) x))) (fun a b=>sb_inj) (fun a b=>ltP_sb) (fun t=>rfl)]
noncomputable def allP (w h:Nat) (M:Nat→Nat→Int):List (List Nat):=(List.range w).flatMap fun x=>pth w M (h - 1) 0 x
noncomputable def vt (T:Nat→Nat→Nat→Int) (M:Nat→Nat→Int) (l:List Nat):Pr:=addP (T 0 (l.headD 0) 1) (vp T M 0 l)
theorem allP_nd:(allP w h M).Nodup:=heads_nd List.nodup_range (fun p=>pth_nd) fun p l hl=>pth_head hl
theorem mem_allP (h1:1≤h) {l:List Nat}:l∈allP w h M↔l.length=h∧Pa w M 0 l:=by
  unfold allP
  rw[List.mem_flatMap]
  constructor
  · rintro⟨x,hx,hl⟩
    obtain⟨l',rfl,h2,h3⟩:=(mem_pth (List.mem_range.mp hx)).mp hl
    exact⟨by rw[List.length_cons,h2];omega,h3⟩
  · rintro⟨hl,hP⟩
    cases l with
    |nil=>simp at hl;omega
    |cons x l'=>exact⟨x,List.mem_range.mpr hP.lt,(mem_pth hP.lt).mpr ⟨l',rfl,by simp at hl;omega,hP⟩⟩
noncomputable def cm (L:List Pr):Int:=((sumUp L).map (·.2.2)).sum
theorem cm_ne {L:List Pr} (h:L≠[]) {m:Pr} (hm:Mn L m):cm L=(L.count m:Int):=by
  unfold cm sumUp
  rw[if_neg h,Mn.one (mn_ok h) hm]
  simp
theorem cm_const {L:List Pr} {m:Pr} (h:∀x∈L,x=m):cm L=(L.length:Int):=by
  cases L with
  |nil=>rfl
  | cons a r=>
    have ha:=h a List.mem_cons_self
    subst ha
    rw[cm_ne (by simp) (m:=a) ⟨List.mem_cons_self,fun x hx=>by rw[h x hx];exact ltL_irr _⟩]
    congr 1
    exact List.count_eq_length.mpr fun b hb=>(h b hb).symm
end
end K20
namespace K20
open PySem PySem.Spec L2 Pu
section
variable {w h:Nat} {T:Nat→Nat→Nat→Int} {M:Nat→Nat→Int} {f:Nat→Nat→Int} {m:Str} {ρ:Rho}
structure Fre (w h:Nat) (M:Nat→Nat→Int) (s:Nat→Nat):Prop where
  sm:Seam w h s
  ne:∀y < h,M y (s y)≠1
theorem pa_s {s : Nat → Nat} : ∀ {k y : Nat},Pa w M y ((List.range' y (k+1)).map s)↔(∀z,y≤z→z≤y+k→s z < w∧M z (s z)≠1)∧∀z,y≤z→z < y+k→s (z+1)≤s z+1∧s z≤s (z+1)+1
  | 0, y => ⟨fun h => ⟨fun z h1 h2 => by have:z=y:=by omega
                                         subst this;exact h,fun z h1 h2=>by omega⟩,fun h=>h.1 y (Nat.le_refl _) (Nat.le_refl _)⟩
  | k + 1,y=>by
    have ih:=pa_s (s:=s) (k:=k) (y:=y+1)
    rw[List.range'_succ (s:=y),List.map_cons]
    rw[List.range'_succ (s:=y+1),List.map_cons] at ih ⊢
    constructor
    · rintro⟨h1,h2,h3,h4,h5⟩
      obtain⟨q1,q2⟩:=ih.mp h5
      refine⟨fun z z1 z2=>?_,fun z z1 z2=>?_⟩
      · by_cases e:z=y
        · subst e;exact⟨h1,h2⟩
        · exact q1 z (by omega) (by omega)
      · by_cases e:z=y
        · subst e;exact⟨h3,h4⟩
        · exact q2 z (by omega) (by omega)
    · rintro⟨q1,q2⟩
      have a:=q1 y (Nat.le_refl _) (by omega)
      have b:=q2 y (Nat.le_refl _) (by omega)
      exact⟨a.1,a.2,b.1,b.2,ih.mpr ⟨fun z z1 z2=>q1 z (by omega) (by omega),fun z z1 z2=>q2 z (by omega) (by omega)⟩⟩
theorem pa_fre {s:Nat→Nat} (h1:1≤h):Pa w M 0 ((List.range h).map s)↔Fre w h M s:=by
  obtain⟨k,rfl⟩:∃k,h=k+1:=⟨h - 1,by omega⟩
  rw[List.range_eq_range',pa_s]
  constructor
  · rintro⟨a,b⟩
    exact⟨⟨fun y hy=>(a y (by omega) (by omega)).1,fun y hy=>b y (by omega) (by omega)⟩,fun y hy=>(a y (by omega) (by omega)).2⟩
  · rintro⟨⟨a,b⟩,c⟩
    exact⟨fun z _ z2=>⟨a z (by omega),c z (by omega)⟩,fun z _ z2=>b z (by omega)⟩
theorem of_list (l:List Nat):∃s:Nat→Nat,l=(List.range l.length).map s:=
  ⟨fun y=>l.getD y 0,by
    apply List.ext_getElem?
    intro i
    rw[List.getElem?_map]
    by_cases hi:i < l.length
    · rw[List.getElem?_range hi];simp[hi]
    · rw[List.getElem?_eq_none (by omega),List.getElem?_eq_none (by simp;omega)];rfl⟩
noncomputable def cnt (M:Nat→Nat→Int) (h:Nat) (s:Nat→Nat) (k:Int):Int:=((List.range h).map fun y=>if M y (s y)=k then (1:Int) else 0).sum
theorem fm_len {α:Type} {p:α→Bool} {g:α→D}:∀{l:List α},((l.filterMap fun a=>if p a=true then some (g a) else none).length:Int)=(l.map fun a=>if p a=true then (1:Int) else 0).sum
  |[]=>rfl
  | a::l=>by
    rw[List.map_cons,List.sum_cons]
    cases e:p a with
    |true=>rw[List.filterMap_cons_some (b:=g a) (by simp[e]),List.length_cons,if_pos rfl,←fm_len (g:=g)];omega
    |false=>rw[List.filterMap_cons_none (by simp[e]),if_neg (by decide),←fm_len (g:=g)];omega
theorem signs_eq {s:Nat→Nat} (hh:h≤20) (q:Seam w h s) {k:Int}:F__law_signs [pic w h M,sm h s,.int k]= .ok (.int (cnt M h s k)):=by
  have e:cnt M h s k=(((List.range h).filterMap fun y=>if decide (M y (s y)=k)=true then some (D.int ((s y:Nat):Int)) else none).length:Int):=by
    rw[fm_len]
    unfold cnt
    simp only[decide_eq_true_eq]
  rw[e]
  refine ev_rt (ev_ret (ev_call (evo (x:= .lst ((List.range h).filterMap fun y=>if decide (M y (s y)=k)=true then some (D.int ((s y:Nat):Int)) else none)) (comp_f (l:=List.range h) (c:=fun y=> .tup [row w (M y),.int ((s y:Nat):Int)]) (ev_zip2 (evc rfl (evo rfl)) rfl rfl) (by rw[List.length_range];omega) fun y hy=>?_)) rfl))
  exact ev_eltB rfl (ev_tst (ev_bin (ev_bin rfl rfl (ix_row (q.lt y (List.mem_range.mp hy)))) rfl eqK_i)) rfl
theorem sum_zero {p:Nat→Bool}:∀{l:List Nat},(l.map fun a=>if p a=true then (1:Int) else 0).sum=0↔∀a∈l,p a=false
  |[]=>by simp
  | a ::l=>by
    have ih:=sum_zero (p:=p) (l:=l)
    have hp:∀l:List Nat,0≤(l.map fun a=>if p a=true then (1:Int) else 0).sum:=fun l=>by
      induction l with
      |nil=>exact Int.le_refl 0
      |cons a l ih=>rw[List.map_cons,List.sum_cons];split <;> omega
    have:=hp l
    rw[List.map_cons,List.sum_cons]
    cases e:p a with
    | true=>
      rw[if_pos rfl]
      exact⟨fun z=>by omega,fun z=>by have:=z a (by simp);rw[e] at this;cases this⟩
    | false=>
      rw[if_neg (by decide),Int.zero_add,ih]
      exact⟨fun z b hb=>by rcases List.mem_cons.mp hb with q |q;(· rw[q];exact e);exact z b q,fun z b hb=>z b (by simp[hb])⟩
theorem cnt_zero {s:Nat→Nat} {k:Int}:cnt M h s k=0↔∀y < h,M y (s y)≠k:=by
  have:cnt M h s k=((List.range h).map fun y=>if decide (M y (s y)=k)=true then (1:Int) else 0).sum:=by unfold cnt;simp only[decide_eq_true_eq]
  rw[this,sum_zero]
  exact⟨fun z y hy=>of_decide_eq_false (z y (List.mem_range.mpr hy)),fun z y hy=>decide_eq_false (z y (List.mem_range.mp hy))⟩
end
end K20
namespace K20
open PySem PySem.Spec L2 Pu
section
variable {w h:Nat} {T:Nat→Nat→Nat→Int} {M M':Nat→Nat→Int} {f:Nat→Nat→Int} {ρ:Rho}
noncomputable abbrev T0:Nat→Nat→Nat→Int:=fun _ _ _=>0
noncomputable def fre (M:Nat→Nat→Int):Nat→Nat→Int:=fun y x=>if M y x=1 then 1 else 0
theorem fre_one {y x:Nat}:fre M y x=1↔M y x=1:=by unfold fre;split <;> simp_all
theorem pth_congr (hM:∀y x,M y x=1↔M' y x=1):∀{k y x:Nat},pth w M k y x=pth w M' k y x
  | 0,y,x=>by
    unfold pth
    by_cases q:M y x=1
    · rw[if_pos q,if_pos ((hM y x).mp q)]
    · rw[if_neg q,if_neg fun z=>q ((hM y x).mpr z)]
  | k +1,y,x=>by
    unfold pth
    by_cases q:M y x=1
    · rw[if_pos q,if_pos ((hM y x).mp q)]
    · rw[if_neg q,if_neg fun z=>q ((hM y x).mpr z)]
      congr 2
      funext p
      exact pth_congr hM
theorem lost_fre {y x:Nat}:lostI (fre M y x)=0:=by unfold lostI fre;split <;> rfl
theorem vp_zero:∀{l:List Nat} {y:Nat},vp T0 (fre M) y l=(0,0)
  |[],_=>rfl
  |[x],y=>by show sbP (lostI (fre M y x)) (0,0)=_;rw[lost_fre];rfl
  | x::p::l,y=>by
    show sbP (lostI (fre M y x)) (addP 0 (vp T0 (fre M) (y+1) (p::l)))=_
    rw[lost_fre,vp_zero];rfl
noncomputable def cn (w:Nat) (M:Nat→Nat→Int) (k y x:Nat):Nat:=(pth w M k y x).length
theorem gone_freed_eq (hh:h≤20) (hw:w≤20):F_gone_freed [pic w h M]= .ok (pic w h (fre M)):=by
  refine ev_rt (ev_ret (ev_call (evo (comp_on (c:=fun y=>row w (M y)) (h:=fun y=>row w (fre M y)) (l:=List.range h) (ev_seqT rfl) (by rw[List.length_range];omega) fun y _=>?_)) rfl))
  refine ev_elt rfl (ev_call (evo (comp_on (c:=fun x=>D.int (M y x)) (h:=fun x=>D.int (fre M y x)) (l:=List.range w) (ev_seqT rfl) (by rw[List.length_range];omega) fun x _=>?_)) rfl)
  unfold fre
  by_cases q:M y x=1
  · rw[if_pos q];exact ev_elt rfl (ev_ifVT (ev_tst (ev_bin rfl rfl (by rw[eqK_i,decide_eq_true q]))) rfl)
  · rw[if_neg q];exact ev_elt rfl (ev_ifVF (ev_tst (ev_bin rfl rfl (by rw[eqK_i,decide_eq_false q]))) rfl)
noncomputable def cnD (w h:Nat) (M:Nat→Nat→Int) (y:Nat):D:= .lst ((List.range w).map fun x=> .int (cn w M (h - 1 - y) y x:Nat))
theorem rwk_sum {y x:Nat} (hy:y < h):((rwk w h T0 (fre M) (h - 1 - y) x).map (·.2.2)).sum=(cn w M (h - 1 - y) y x:Int):=by
  rw[rwk_pv (by omega),show h - 1 - (h - 1 - y)=y by omega]
  show cm (pv w T0 (fre M) (h - 1 - y) y x)=_
  rw[cm_const (m:=((0:Int),(0:Int))) fun v hv=>?_]
  · unfold pv cn;rw[List.length_map,pth_congr (M:=fre M) (M':=M) fun y x=>fre_one]
  · obtain⟨l,_,rfl⟩:=List.mem_map.mp hv
    exact vp_zero
theorem counts_eq (h1:1≤h) (hh:h≤20) (hw:w≤20):F_counts_down [pic w h M]= .ok (.lst ((List.range h).map (cnD w h M))):=by
  have eb:=(best_eq (w:=w) (T:=T0) (M:=fre M) hh hw).trans (by rw[rev_range])
  refine ev_rtE (ev_seq (ev_asg (d:=tab w h T0) (comp_on (c:=fun y=>row w (M y)) (h:=fun y=> .lst ((List.range w).map fun x=>cell3 (T0 y x))) (l:=List.range h) (ev_seqT rfl) (by rw[List.length_range];omega) fun y _=>?_) rfl) (ev_seq (ev_asg (ev_fn (evc rfl (evo (ev_fn (evo rfl) (gone_freed_eq hh hw)))) eb) rfl) (ev_ret (comp_on (c:=fun y=>rowW w h T0 (fre M) (h - 1 - y)) (h:=cnD w h M) (l:=List.range h) (ev_seqL rfl) (by rw[List.length_range];omega) fun y hy=>?_))))
  · exact ev_elt rfl (comp_on (c:=fun x=>D.int (M y x)) (h:=fun x=>cell3 (T0 y x)) (l:=List.range w) (ev_seqT rfl) (by rw[List.length_range];omega) fun x _=>ev_elt rfl (ev_tup rfl))
  · refine ev_elt rfl (comp_on (c:=fun x=>cellD (rwk w h T0 (fre M) (h - 1 - y) x)) (h:=fun x=> .int (cn w M (h - 1 - y) y x:Nat)) (l:=List.range w) (ev_seqL rfl) (by rw[List.length_range];omega) fun x _=>?_)
    rw[←rwk_sum (List.mem_range.mp hy)]
    have hl:(rwk w h T0 (fre M) (h - 1 - y) x).length≤1:=top1_len
    exact ev_elt rfl (ev_call (evo (comp_on (c:=wyD) (h:=fun t=>D.int t.2.2) (l:=rwk w h T0 (fre M) (h - 1 - y) x) (ev_seqL rfl) (by omega) fun t _=>ev_elt rfl rfl)) ev_sumL)
theorem sum_len {α β:Type} {F:α→List β}:∀l:List α,(l.map fun x=>((F x).length:Int)).sum=((l.flatMap F).length:Int)
  |[]=>rfl
  |a::l=>by rw[List.map_cons,List.sum_cons,List.flatMap_cons,List.length_append,sum_len l];omega
theorem row_sum (h1:1≤h):sumD [cnD w h M 0]= .ok (.int ((allP w h M).length:Int)):=by
  unfold cnD
  rw[ev_sumL (c:=fun x=>((cn w M (h - 1 - 0) 0 x:Nat):Int))]
  unfold allP cn
  rw[sum_len];rfl
theorem how_many_eq {d:D} (o:Ok w h f) (e:F_full_marks [d,pic w h f]= .ok (pic w h M)):F_how_many [pic w h f,d]= .ok (.int ((allP w h M).length:Int)):=by
  refine ev_rtE (ev_seq (ev_expr (ev_fn (evo rfl) (need_eq o))) (ev_ret (ev_call (evo (ev_bin (ev_fn (evo (ev_fn (evc rfl (evo rfl)) e)) (counts_eq o.h1 o.h2 o.w2)) rfl (ix_lst (α:=D) (x:=0) o.h1))) (row_sum o.h1))))
noncomputable def plD (P:List Nat):D:= .lst (P.map fun p=>D.int ((p:Nat):Int))
theorem ix_pl {P:List Nat} {i p:Nat} (h:P[i]?=some p):ixD (plD P) (.int (i:Int))= .ok (.int (p:Int)):=by
  refine ev_ixL (i:=i) ?_
  rw[List.getElem?_map,h];rfl
theorem sa_while {y:Nat} {e0 e1 e2 e3 e6:Option Ent} {P:List Nat} (hP:∀p∈P,p < w):∀{n i a:Nat},P.length < i+n→a < ((P.drop i).flatMap fun p=>pth w M (h - 1 - y) y p).length→
    ∃ (j a' p:Nat),P[j]?=some p∧a' < (pth w M (h - 1 - y) y p).length∧((P.drop i).flatMap fun p=>pth w M (h - 1 - y) y p)[a]?=(pth w M (h - 1 - y) y p)[a']?∧
      whS saT saL n [e0,e1,e2,e3,vA (.int (a:Int)),vA (plD P),e6,vA (cnD w h M y),vA (.int (i:Int))]= .nx [e0,e1,e2,e3,vA (.int (a':Int)),vA (plD P),e6,vA (cnD w h M y),vA (.int (j:Int))]
  |0,i,a,hn,ha=>by rw[List.drop_eq_nil_of_le (by omega)] at ha;simp at ha
  | n + 1,i,a,hn,ha=>by
    have hi:i < P.length:=by
      by_cases q:i < P.length
      · exact q
      · rw[List.drop_eq_nil_of_le (by omega)] at ha;simp at ha
    have ep:P[i]?=some P[i]:=List.getElem?_eq_getElem hi
    have ed:P.drop i=P[i]::P.drop (i+1):=List.drop_eq_getElem_cons hi
    have hpw:=hP _ (List.getElem_mem hi)
    rw[ed,List.flatMap_cons] at ha ⊢
    have et:bin (fun ρ=>getV ρ 7) (bin (fun ρ=>getV ρ 5) (fun ρ=>getV ρ 8) ixD) ixD (thaw [e0,e1,e2,e3,vA (.int (a:Int)),vA (plD P),e6,vA (cnD w h M y),vA (.int (i:Int))])= .ok (.int (cn w M (h - 1 - y) y P[i]:Nat)):=ev_bin rfl (ev_bin rfl rfl (ix_pl ep)) (ix_lst (α:=D) hpw)
    rw[whS]
    by_cases q:a < (pth w M (h - 1 - y) y P[i]).length
    · refine⟨i,a,P[i],ep,q,List.getElem?_append_left q,?_⟩
      have:saT (thaw [e0,e1,e2,e3,vA (.int (a:Int)),vA (plD P),e6,vA (cnD w h M y),vA (.int (i:Int))])= .ok false:=by
        refine ev_tst (ev_bin rfl et ?_)
        show R.ok (D.bl (decide ((cn w M (h - 1 - y) y P[i]:Int)≤(a:Int))))=_
        rw[decide_eq_false (by unfold cn;omega)]
      rw[this]
    · have q':(pth w M (h - 1 - y) y P[i]).length≤a:=by omega
      rw[List.length_append] at ha
      obtain⟨j,a',p,h1,h2,h3,h4⟩:=sa_while (y:=y) (e0:=e0) (e1:=e1) (e2:=e2) (e3:=e3) (e6:=e6) hP (n:=n) (i:=i+1) (a:=a - (pth w M (h - 1 - y) y P[i]).length) (by omega) (by omega)
      refine⟨j,a',p,h1,h2,by rw[List.getElem?_append_right q',h3],?_⟩
      have t1:saT (thaw [e0,e1,e2,e3,vA (.int (a:Int)),vA (plD P),e6,vA (cnD w h M y),vA (.int (i:Int))])= .ok true:=by
        refine ev_tst (ev_bin rfl et ?_)
        show R.ok (D.bl (decide ((cn w M (h - 1 - y) y P[i]:Int)≤(a:Int))))=_
        rw[decide_eq_true (by unfold cn;omega)]
      have et2:bin (fun ρ=>getV ρ 7) (bin (fun ρ=>getV ρ 5) (fun ρ=>getV ρ 8) ixD) ixD [e0,e1,e2,e3,vA (.int (a:Int)),vA (plD P),e6,vA (cnD w h M y),vA (.int (i:Int))]= .ok (.int (cn w M (h - 1 - y) y P[i]:Nat)):=ev_bin rfl (ev_bin rfl rfl (ix_pl ep)) (ix_lst (α:=D) hpw)
      have b1:saL [e0,e1,e2,e3,vA (.int (a:Int)),vA (plD P),e6,vA (cnD w h M y),vA (.int (i:Int))]= .nx [e0,e1,e2,e3,vA (.int ((a - (pth w M (h - 1 - y) y P[i]).length:Nat):Int)),vA (plD P),e6,vA (cnD w h M y),vA (.int ((i+1:Nat):Int))]:=by
        refine ev_seq (ρ':=[e0,e1,e2,e3,vA (.int ((a - (pth w M (h - 1 - y) y P[i]).length:Nat):Int)),vA (plD P),e6,vA (cnD w h M y),vA (.int (i:Int))]) ?_ ?_
        · unfold augM
          show ofR (bin _ _ ixD _) _ _=_
          rw[et2]
          show So.nx _=_
          rw[show (a:Int) - (cn w M (h - 1 - y) y P[i]:Int)=((a - (pth w M (h - 1 - y) y P[i]).length:Nat):Int) by unfold cn;omega]
          rfl
        · exact ev_aug (i:=8) (u:=fun _=> .ok (.int 1)) (a:=(i:Int)) (b:=1) rfl rfl
      rw[t1,b1]
      exact h4
end
end K20
namespace K20
open PySem PySem.Spec L2 Pu
section
variable {w h:Nat} {T:Nat→Nat→Nat→Int} {M M':Nat→Nat→Int} {f:Nat→Nat→Int} {s:Nat→Nat} {ρ:Rho}
theorem ev_callKX {F:List D→R D} {n j:Nat} {sel:List (Sum Nat D)} {fa fk:Rho→R (List D)} {ds zs:List D} {r:R D} (e1:fa ρ= .ok ds) (e2:fk ρ= .ok zs) (e3:F (ds++pickK .non sel zs)=r) (hl:(ds++pickK .non sel zs).length=n:=by rfl) (hj:zs.length=j:=by rfl):callKX F n j sel fa fk ρ=r:=by
  unfold callKX
  rw[e1,R.bind_ok,e2,R.bind_ok,if_pos hj,okN,if_pos hl,e3]
theorem len_cn {y:Nat}:lenD [cnD w h M y]= .ok (.int (w:Int)):=by simp[cnD,lenD]
theorem saB_eq (hw:w≤20) {y a:Nat} {P:List Nat} (hP:∀p∈P,p < w) (hl:P.length≤20) (ha:a < (P.flatMap fun p=>pth w M (h - 1 - y) y p).length) {e0 e1 e2 e3 e8:Option Ent} {acc:List D} (hacc:acc.length≤1000):
    ∃ (a' p:Nat) (z8:Option Ent),p < w∧a' < (pth w M (h - 1 - y) y p).length∧(P.flatMap fun p=>pth w M (h - 1 - y) y p)[a]?=(pth w M (h - 1 - y) y p)[a']?∧
      saB [e0,e1,e2,e3,vA (.int (a:Int)),vA (plD P),some (.lst acc),vA (cnD w h M y),e8]= .nx [e0,e1,e2,e3,vA (.int (a':Int)),vA (plD (nr w p)),some (.lst (acc++[.int (p:Int)])),vA (cnD w h M y),z8]:=by
  obtain⟨j,a',p,h1,h2,h3,h4⟩:=sa_while (y:=y) (e0:=e0) (e1:=e1) (e2:=e2) (e3:=e3) (e6:=some (.lst acc)) hP (n:=64) (i:=0) (a:=a) (by omega) (by rw[List.drop_zero];exact ha)
  rw[List.drop_zero] at h3
  have hp:p < w:=hP p (List.mem_of_getElem? h1)
  refine⟨a',p,vA (.int (j:Int)),hp,h2,h3,?_⟩
  refine ev_seq (ev_asg rfl rfl) (ev_seq h4 (ev_seq (ev_app (ds:=acc) (ev_bin rfl rfl (ix_pl h1)) rfl (by omega)) (ev_asg (ev_fn (evc (ev_bin rfl rfl (ix_pl h1)) (evo (ev_call (evo rfl) len_cn))) (near_eq hp hw)) rfl)))
theorem sa_loop (hw:w≤20) {e0 e1 e2 e3:Option Ent}:∀{r y a:Nat} {P l:List Nat} {acc:List D} {e7 e8:Option Ent},y+r+1=h→(∀p∈P,p < w)→P.length≤20→acc.length+r≤900→(P.flatMap fun p=>pth w M (h - 1 - y) y p)[a]?=some l→
    ∃z4 z5 z7 z8,forL (setV 7) saB ((List.range' y (r+1)).map (cnD w h M)) [e0,e1,e2,e3,vA (.int (a:Int)),vA (plD P),some (.lst acc),e7,e8]= .nx [e0,e1,e2,e3,z4,z5,some (.lst (acc++l.map fun (p:Nat)=>D.int (p:Int))),z7,z8]
  | 0,y,a,P,l,acc,e7,e8,hy,hP,hl,hacc,hg=>by
    obtain⟨ha,_⟩:=List.getElem?_eq_some_iff.mp hg
    obtain⟨a',p,z8,hp,ha',e,eb⟩:=saB_eq (M:=M) hw hP hl ha (e0:=e0) (e1:=e1) (e2:=e2) (e3:=e3) (e8:=e8) (acc:=acc) (by omega)
    rw[hg] at e
    have k0:h - 1 - y=0:=by omega
    rw[k0] at e ha'
    unfold pth at e ha'
    by_cases q:M y p=1
    · rw[if_pos q] at ha';simp at ha'
    · rw[if_neg q] at e ha'
      have a0:a'=0:=by simpa using ha'
      subst a0
      have el:l=[p]:=by simpa using e
      subst el
      exact⟨_,_,_,_,forL_cons rfl eb rfl⟩
  | r + 1,y,a,P,l,acc,e7,e8,hy,hP,hl,hacc,hg=>by
    obtain⟨ha,_⟩:=List.getElem?_eq_some_iff.mp hg
    obtain⟨a',p,z8,hp,ha',e,eb⟩:=saB_eq (M:=M) hw hP hl ha (e0:=e0) (e1:=e1) (e2:=e2) (e3:=e3) (e8:=e8) (acc:=acc) (by omega)
    rw[hg] at e
    have k1:h - 1 - y=(h - 1 - (y+1))+1:=by omega
    rw[k1] at e ha'
    unfold pth at e ha'
    by_cases q:M y p=1
    · rw[if_pos q] at ha';simp at ha'
    · rw[if_neg q] at e ha'
      rw[List.getElem?_map] at e
      cases z:((nr w p).flatMap fun p=>pth w M (h - 1 - (y+1)) (y+1) p)[a']? with
      |none=>rw[z] at e;cases e
      | some l'=>
        rw[z] at e
        have e:l=p::l':=Option.some.inj e
        subst e
        have hn:=nr_len (w:=w) (x:=p)
        obtain⟨z4,z5,z7,z8',er⟩:=sa_loop hw (e0:=e0) (e1:=e1) (e2:=e2) (e3:=e3) (r:=r) (y:=y+1) (a:=a') (P:=nr w p) (l:=l') (acc:=acc++[.int (p:Int)]) (e7:=vA (cnD w h M y)) (e8:=z8) (by omega) (fun q hq=>((mem_nr hp).mp hq).1) (by omega) (by simp;omega) z
        refine⟨z4,z5,z7,z8',?_⟩
        rw[List.range'_succ,List.map_cons]
        refine forL_cons rfl eb (er.trans ?_)
        simp
noncomputable def smL (l:List Nat):D:= .tup (l.map fun (p:Nat)=>D.int (p:Int))
theorem smL_s:smL ((List.range h).map s)=sm h s:=by unfold smL sm row;rw[List.map_map];rfl
theorem is_whole_i {i:Int}:F_is_whole [.int i]= .ok (.bl true):=by rfl
theorem seam_at_eq {d:D} (o:Ok w h f) (e:F_full_marks [d,pic w h f]= .ok (pic w h M)) {n:Nat} {l:List Nat} (hl:(allP w h M)[n]?=some l):F_seam_at [pic w h f,.int (n:Int),d]= .ok (smL l):=by
  have h1:=o.h1
  have hw2:=o.w2
  have hh2:=o.h2
  obtain⟨hn,_⟩:=List.getElem?_eq_some_iff.mp hl
  obtain⟨r,hr⟩:∃r,h=r+1:=⟨h - 1,by omega⟩
  obtain⟨z4,z5,z7,z8,el⟩:=sa_loop (M:=M) (h:=h) hw2 (e0:=vA (pic w h f)) (e1:=vA (.int (n:Int))) (e2:=vA d) (e3:=vA (.lst ((List.range h).map (cnD w h M)))) (r:=r) (y:=0) (a:=n) (P:=List.range w) (l:=l) (acc:=[]) (e7:=none) (e8:=none) (by omega) (fun p hp=>List.mem_range.mp hp) (by simp;omega) (by simp;omega) hl
  have er:(List.range' 0 (r+1)).map (cnD w h M)=(List.range h).map (cnD w h M):=by rw[hr,List.range_eq_range']
  rw[er,List.nil_append] at el
  have eR:lstR1 [.int (w:Int)]= .ok (plD (List.range w)):=by
    show (if _ then _ else _)=_
    rw[if_pos (by omega)]
    unfold upto plD
    simp
  refine ev_rt (ev_seq (ev_expr (ev_fn (evo rfl) (need_eq o))) (ev_seq (ev_asg (ev_fn (evo (ev_fn (evc rfl (evo rfl)) e)) (counts_eq h1 hh2 hw2)) rfl) (ev_seq (ev_ifF (ev_orF (ev_not (b:=true) (ev_tst (ev_fn (evo rfl) is_whole_i))) (ev_not (b:=true) (ev_tst (ev_chn rfl rfl (le_t (Int.natCast_nonneg _)) (ev_call (evo (ev_bin rfl rfl (ix_lst (α:=D) (x:=0) h1))) (row_sum h1)) ?_)))) rfl) (ev_seq (ev_asg rfl rfl) (ev_seq (ev_asg (ev_call (evo (ev_call (evo (ev_bin rfl rfl (ix_lst (α:=D) (x:=0) h1))) len_cn)) eR) rfl) (ev_seq (ev_newL rfl) (ev_seq (ev_for (ev_seqL rfl) el) (ev_ret (ev_call (evo rfl) rfl)))))))))
  show R.ok (D.bl (decide ((n:Int) < ((allP w h M).length:Int))))=_
  rw[decide_eq_true (by omega)]
end
end K20
namespace K20
open PySem PySem.Spec L2 Pu
section
variable {w h:Nat} {T:Nat→Nat→Nat→Int} {M M':Nat→Nat→Int} {f:Nat→Nat→Int} {s:Nat→Nat} {ρ:Rho}
theorem asc_split {P:List Nat} {p:Nat} (hs:P.Pairwise (· < ·)) (hp:p∈P):∃P1 P2,P=P1++p::P2∧P.filter (fun q=>decide (q < p))=P1:=by
  obtain⟨P1,P2,rfl⟩:=List.append_of_mem hp
  refine⟨P1,P2,rfl,?_⟩
  obtain⟨h1,h2,h3⟩:=List.pairwise_append.mp hs
  obtain⟨h4,h5⟩:=List.pairwise_cons.mp h2
  rw[List.filter_append,List.filter_eq_self.mpr fun q hq=>decide_eq_true (h3 q hq p List.mem_cons_self),List.filter_cons_of_neg (by simp),List.filter_eq_nil_iff.mpr fun q hq=>by have:=h4 q hq;simp;omega,List.append_nil]
theorem fm_filter {F:Nat→Int} {p:Nat}:∀{P:List Nat},(P.filterMap fun q=>if decide (((q:Nat):Int) < ((p:Nat):Int))=true then some (D.int (F q)) else none)=(P.filter fun q=>decide (q < p)).map fun q=>D.int (F q)
  |[]=>rfl
  | q::P=>by
    by_cases z:q < p
    · rw[List.filterMap_cons_some (b:=D.int (F q)) (by rw[if_pos (decide_eq_true (by omega))]),List.filter_cons_of_pos (by simpa using z),List.map_cons,fm_filter]
    · rw[List.filterMap_cons_none (by rw[if_neg (by rw[decide_eq_false (by omega)];decide)]),List.filter_cons_of_neg (by simpa using z),fm_filter]
theorem noB_eq (hw:w≤20) {y p:Nat} {P P1 P2:List Nat} (hP:∀q∈P,q < w) (hl:P.length≤20) (hp:p < w) (e1:P=P1++p::P2) (e2:P.filter (fun q=>decide (q < p))=P1) {n:Int} {e0 e1' e2' e3:Option Ent}:
    noB [e0,e1',e2',e3,vA (plD P),vA (.int n),vA (cnD w h M y),vA (.int (p:Int))]= .nx [e0,e1',e2',e3,vA (plD (nr w p)),vA (.int (n+((P1.flatMap fun q=>pth w M (h - 1 - y) y q).length:Int))),vA (cnD w h M y),vA (.int (p:Int))]:=by
  have es:callV sumD (consA (compV 1 [7,6] (seqI (fun ρ=>getV ρ 4)) (setV 0) (tst (bin (fun ρ=>getV ρ 0) (fun ρ=>getV ρ 1) ltI)) (bin (fun ρ=>getV ρ 2) (fun ρ=>getV ρ 0) ixD)) (fun _=> .ok [])) [e0,e1',e2',e3,vA (plD P),vA (.int n),vA (cnD w h M y),vA (.int (p:Int))]= .ok (.int ((P1.flatMap fun q=>pth w M (h - 1 - y) y q).length:Int)):=by
    rw[←sum_len]
    refine ev_call (evo (x:= .lst (P1.map fun q=>D.int ((cn w M (h - 1 - y) y q:Nat):Int))) ?_) ev_sumL
    rw[←e2,←fm_filter (F:=fun q=>((cn w M (h - 1 - y) y q:Nat):Int))]
    refine comp_f (c:=fun (q:Nat)=>D.int (q:Int)) (l:=P) (ev_seqL rfl) (by omega) fun q hq=>?_
    exact ev_eltB rfl (ev_tst (ev_bin rfl rfl rfl)) (ev_bin rfl rfl (ix_lst (α:=D) (hP q hq)))
  refine ev_seq (ev_aug rfl es) (ev_asg (ev_fn (evc rfl (evo (ev_call (evo rfl) len_cn))) (near_eq hp hw)) rfl)
theorem nr_asc {x:Nat}:(nr w x).Pairwise (· < ·):=List.pairwise_lt_range'
theorem no_loop (hw:w≤20) {e0 e1 e2 e3:Option Ent}:∀{r y:Nat} {P:List Nat} {n:Int} {e6 e7:Option Ent},y+r+1=h→(∀p∈P,p < w)→P.length≤20→P.Pairwise (· < ·)→s y∈P→Pa w M y ((List.range' y (r+1)).map s)→
    ∃ (i:Nat) (z4 z6 z7:Option Ent),(P.flatMap fun p=>pth w M (h - 1 - y) y p)[i]?=some ((List.range' y (r+1)).map s)∧forL (tupG (lenG 2 (consG (setV 6) (consG (setV 7) nilG)))) noB ((List.range' y (r+1)).map fun y=>D.tup [cnD w h M y,.int ((s y:Nat):Int)]) [e0,e1,e2,e3,vA (plD P),vA (.int n),e6,e7] =
      .nx [e0,e1,e2,e3,z4,vA (.int (n+(i:Int))),z6,z7]
  | 0,y,P,n,e6,e7,hy,hP,hl,hs,hm,hp=>by
    obtain⟨P1,P2,q1,q2⟩:=asc_split hs hm
    have eb:=noB_eq (M:=M) (h:=h) hw (y:=y) hP hl (hP _ hm) q1 q2 (n:=n) (e0:=e0) (e1':=e1) (e2':=e2) (e3:=e3)
    have k0:h - 1 - y=0:=by omega
    have hp:s y < w∧M y (s y)≠1:=hp
    refine⟨(P1.flatMap fun q=>pth w M (h - 1 - y) y q).length,_,_,_,?_,forL_cons rfl eb rfl⟩
    rw[q1,List.flatMap_append,List.getElem?_append_right (Nat.le_refl _),Nat.sub_self,List.flatMap_cons,k0]
    show ((if M y (s y)=1 then [] else [[s y]])++_)[0]?=_
    rw[if_neg hp.2];rfl
  | r +1,y,P,n,e6,e7,hy,hP,hl,hs,hm,hp=>by
    obtain⟨P1,P2,q1,q2⟩:=asc_split hs hm
    have eb:=noB_eq (M:=M) (h:=h) hw (y:=y) hP hl (hP _ hm) q1 q2 (n:=n) (e0:=e0) (e1':=e1) (e2':=e2) (e3:=e3)
    have k1:h - 1 - y=(h - 1 - (y+1))+1:=by omega
    rw[List.range'_succ,List.map_cons] at hp ⊢
    rw[List.range'_succ,List.map_cons] at hp
    obtain⟨a1,a2,a3,a4,a5⟩:=hp
    have hn:=nr_len (w:=w) (x:=s y)
    obtain⟨i,z4,z6,z7,hi,er⟩:=no_loop hw (e0:=e0) (e1:=e1) (e2:=e2) (e3:=e3) (r:=r) (y:=y+1) (P:=nr w (s y)) (n:=n+((P1.flatMap fun q=>pth w M (h - 1 - y) y q).length:Int)) (e6:=vA (cnD w h M y)) (e7:=vA (.int ((s y:Nat):Int))) (by omega) (fun q hq=>((mem_nr a1).mp hq).1) (by omega) nr_asc ((mem_nr a1).mpr ⟨a5.lt,a3,a4⟩) (by rw[List.range'_succ,List.map_cons];exact a5)
    refine⟨(P1.flatMap fun q=>pth w M (h - 1 - y) y q).length+i,z4,z6,z7,?_,?_⟩
    · rw[q1,List.flatMap_append,List.getElem?_append_right (Nat.le_add_right _ _),Nat.add_sub_cancel_left,List.flatMap_cons,k1]
      have lt:=(List.getElem?_eq_some_iff.mp hi).1
      have ep:pth w M (h - 1 - (y+1)+1) y (s y)=((nr w (s y)).flatMap fun p=>pth w M (h - 1 - (y+1)) (y+1) p).map (s y:: ·):=by rw[pth,if_neg a2]
      rw[ep,List.getElem?_append_left (by simpa using lt),List.getElem?_map,hi]
      rfl
    · rw[List.map_cons]
      refine forL_cons rfl eb (er.trans ?_)
      rw[Int.add_assoc]
      rfl
theorem bools_on {α:Type} {c:α→Bool}:∀{l:List α},boolsOf (l.map fun a=>D.bl (c a))=some (l.map c)
  |[]=>rfl
  | a::l=>by
    show (boolsOf (l.map fun a=>D.bl (c a))).map (c a:: ·)=_
    rw[bools_on];rfl
theorem meets_eq (hh:h≤20) (q:Seam w h s):F_meets_kept [sm h s,pic w h M]= .ok (.bl (!decide (cnt M h s 1=0))):=by
  have ea:anyD [.lst ((List.range h).map fun y=>D.bl (decide (M y (s y)=1)))]= .ok (.bl (!decide (cnt M h s 1=0))):=by
    show (match boolsOf ((List.range h).map fun y=>D.bl (decide (M y (s y)=1))) with |some bs=>R.ok (D.bl (bs.any id)) |none=> .bad)=_
    rw[bools_on]
    show R.ok (D.bl _)=_
    congr 2
    by_cases hc:cnt M h s 1=0
    · rw[decide_eq_true hc]
      have:=cnt_zero.mp hc
      rw[Bool.not_true,List.any_eq_false]
      intro b hb
      obtain⟨y,hy,rfl⟩:=List.mem_map.mp hb
      simpa using this y (List.mem_range.mp hy)
    · rw[decide_eq_false hc]
      show _=true
      have:∃y,y < h∧M y (s y)=1:=by
        apply Classical.byContradiction
        intro z
        exact hc (cnt_zero.mpr fun y hy e=>z ⟨y,hy,e⟩)
      obtain⟨y,hy,e⟩:=this
      exact List.any_eq_true.mpr ⟨true,List.mem_map.mpr ⟨y,List.mem_range.mpr hy,decide_eq_true e⟩,rfl⟩
  refine ev_rt (ev_ret (ev_call (evo (comp_on (c:=fun y=> .tup [row w (M y),.int ((s y:Nat):Int)]) (h:=fun y=>D.bl (decide (M y (s y)=1))) (l:=List.range h) (ev_zip2 (evc rfl (evo rfl)) rfl rfl) (by rw[List.length_range];omega) fun y hy=>?_)) ea))
  exact ev_elt rfl (ev_bin (ev_bin rfl rfl (ix_row (q.lt y (List.mem_range.mp hy)))) rfl eqK_i)
theorem number_none {d:D} (o:Ok w h f) (e:F_full_marks [d,pic w h f]= .ok (pic w h M)) (q:Seam w h s) (hc:cnt M h s 1≠0):F_number_of [pic w h f,sm h s,d]= .ok .non:=by
  have em:=meets_eq (M:=M) o.h2 q
  rw[decide_eq_false hc] at em
  exact ev_rt (ev_seq (ev_expr (ev_fn (evo rfl) (need_eq o))) (ev_seq (ev_asg (ev_fn (evc rfl (evo rfl)) e) rfl) (ev_seq (ev_expr (ev_callKX (evc rfl (evo rfl)) rfl (need_seam_eq o q))) (ev_seqR (ev_ifT (ev_tst (ev_fn (evc rfl (evo rfl)) em)) (ev_ret rfl))))))
theorem number_some {d:D} (o:Ok w h f) (e:F_full_marks [d,pic w h f]= .ok (pic w h M)) (q:Fre w h M s):∃i:Nat,(allP w h M)[i]?=some ((List.range h).map s)∧F_number_of [pic w h f,sm h s,d]= .ok (.int (i:Int)):=by
  have h1:=o.h1
  have hw2:=o.w2
  have em:=meets_eq (M:=M) o.h2 q.sm
  rw[decide_eq_true (cnt_zero.mpr q.ne)] at em
  obtain⟨r,hr⟩:∃r,h=r+1:=⟨h - 1,by omega⟩
  have er:List.range h=List.range' 0 (r+1):=by rw[hr,List.range_eq_range']
  have hPa:=(pa_fre h1).mpr q
  rw[er] at hPa
  obtain⟨i,z4,z6,z7,hi,el⟩:=no_loop (M:=M) (s:=s) (h:=h) hw2 (e0:=vA (pic w h f)) (e1:=vA (sm h s)) (e2:=vA d) (e3:=vA (pic w h M)) (r:=r) (y:=0) (P:=List.range w) (n:=0) (e6:=none) (e7:=none) (by omega) (fun p hp=>List.mem_range.mp hp) (by simp;omega) List.pairwise_lt_range (List.mem_range.mpr (q.sm.lt 0 (by omega))) hPa
  rw[←er] at hi el
  have eR:lstR1 [.int (w:Int)]= .ok (plD (List.range w)):=by
    show (if _ then _ else _)=_
    rw[if_pos (by omega)]
    unfold upto plD
    simp
  refine⟨i,hi,ev_rt (ev_seq (ev_expr (ev_fn (evo rfl) (need_eq o))) (ev_seq (ev_asg (ev_fn (evc rfl (evo rfl)) e) rfl) (ev_seq (ev_expr (ev_callKX (evc rfl (evo rfl)) rfl (need_seam_eq o q.sm))) (ev_seq (ev_ifF (ev_tst (ev_fn (evc rfl (evo rfl)) em)) rfl) (ev_seq (ev_asg (ev_call (evo (len0 o rfl)) eR) rfl) (ev_seq (ev_asg rfl rfl) (ev_seq (ev_for (ev_zip2 (evc (ev_fn (evo rfl) (counts_eq h1 o.h2 hw2)) (evo rfl)) rfl rfl) el) (ev_ret ?_)))))))) ⟩
  show R.ok (D.int (0+(i:Int)))=_
  rw[Int.zero_add]
end
end K20
namespace K20
open PySem PySem.Spec L2 Pu
section
variable {w h:Nat} {M M':Nat→Nat→Int} {f:Nat→Nat→Int} {s:Nat→Nat} {ρ:Rho}
noncomputable def cst (l:List Nat):List Int:=l.map fun (p:Nat)=>(p:Int)
theorem cst_same {x:Nat} {a b:List Nat}:ltL (cst (x::a)) (cst (x::b))=ltL (cst a) (cst b):=by
  show (if (x:Int)=(x:Int) then ltL (cst a) (cst b) else _)=_
  rw[if_pos rfl]
theorem cst_less {x y:Nat} {a b:List Nat} (h:x < y):ltL (cst (x::a)) (cst (y::b))=true:=by
  show (if (x:Int)=(y:Int) then _ else decide ((x:Int) < (y:Int)))=_
  rw[if_neg (by omega)]
  exact decide_eq_true (by omega)
theorem heads_asc {P:List Nat} (hP:P.Pairwise (· < ·)) {F:Nat→List (List Nat)} (hF:∀p,(F p).Pairwise fun a b=>ltL (cst a) (cst b)=true) (hh:∀p l,l∈F p→∃l',l=p::l'):(P.flatMap F).Pairwise fun a b=>ltL (cst a) (cst b)=true:=by
  rw[List.pairwise_flatMap]
  refine⟨fun p _=>hF p,hP.imp fun {p q} hpq a ha b hb=>?_⟩
  obtain⟨a',rfl⟩:=hh p a ha
  obtain⟨b',rfl⟩:=hh q b hb
  exact cst_less hpq
theorem pth_asc:∀{k y x:Nat},(pth w M k y x).Pairwise fun a b=>ltL (cst a) (cst b)=true
  |0,y,x=>by unfold pth;split <;> simp
  | k +1,y,x=>by
    unfold pth
    by_cases q:M y x=1
    · rw[if_pos q];exact .nil
    · rw[if_neg q]
      have:((nr w x).flatMap fun p=>pth w M k (y+1) p).Pairwise fun a b=>ltL (cst a) (cst b)=true:=heads_asc nr_asc (fun p=>pth_asc) fun p l hl=>pth_head hl
      exact List.pairwise_map.mpr (this.imp fun {a b} hab=>by rw[cst_same];exact hab)
theorem allP_asc:(allP w h M).Pairwise fun a b=>ltL (cst a) (cst b)=true:=heads_asc List.pairwise_lt_range (fun p=>pth_asc) fun p l hl=>pth_head hl
theorem at_lt {i j:Nat} {a b:List Nat} (ha:(allP w h M)[i]?=some a) (hb:(allP w h M)[j]?=some b) (h:i < j):ltL (cst a) (cst b)=true:=by
  obtain⟨h1,rfl⟩:=List.getElem?_eq_some_iff.mp ha
  obtain⟨h2,rfl⟩:=List.getElem?_eq_some_iff.mp hb
  exact List.pairwise_iff_getElem.mp allP_asc i j h1 h2 h
theorem at_one {i j:Nat} {a:List Nat} (ha:(allP w h M)[i]?=some a) (hb:(allP w h M)[j]?=some a):i=j:=by
  have z:=ltL_irr (cst a)
  rcases Nat.lt_trichotomy i j with q |q |q
  · rw[at_lt ha hb q] at z;cases z
  · exact q
  · rw[at_lt hb ha q] at z;cases z
theorem mem_fre (h1:1≤h) {l:List Nat}:l∈allP w h M↔∃s,l=(List.range h).map s∧Fre w h M s:=by
  rw[mem_allP h1]
  constructor
  · rintro⟨hl,hP⟩
    obtain⟨s,hs⟩:=of_list l
    rw[hl] at hs
    subst hs
    exact⟨s,rfl,(pa_fre h1).mp hP⟩
  · rintro⟨s,rfl,q⟩
    exact⟨by simp,(pa_fre h1).mpr q⟩
end
end K20
namespace K20
open PySem PySem.Spec L2 Pu
section
variable {ns:List Int} {w h:Nat} {f M:Nat→Nat→Int} {T:Nat→Nat→Nat→Int} {m:Str} {s:Nat→Nat} {ρ:Rho}
noncomputable def tI (l:List Int):D:= .tup (l.map .int)
noncomputable def wayL (h:Nat) (s:Nat→Nat):List Int:=(List.range h).map fun y=>((s y:Nat):Int)
theorem tI_sm:tI (wayL h s)=sm h s:=by unfold tI wayL;rw[List.map_map];rfl
noncomputable def ext (w:Nat) (l:List Int) (a:Int):List (List Int):=[a - 1,a,a+1].filterMap fun x=>if (decide (0≤x) && decide (x < (w:Int)))=true then some (l++[x]) else none
noncomputable def lst (l:List Int):Int:=l.getD (l.length - 1) 0
noncomputable def wys (w:Nat):Nat→List (List Int)
  |0=>(List.range w).map fun x=>[((x:Nat):Int)]
  |k+1=>(wys w k).flatMap fun l=>ext w l (lst l)
theorem lst_way {k:Nat}:lst (wayL (k+1) s)=((s k:Nat):Int):=by simp[lst,wayL]
theorem way_succ {k:Nat}:wayL (k+1) s=wayL k s++[((s k:Nat):Int)]:=by unfold wayL;rw[List.range_succ,List.map_append];rfl
theorem mem_ext {l r:List Int} {a:Int}:r∈ext w l a↔∃x,(x=a - 1∨x=a∨x=a+1)∧0≤x∧x < (w:Int)∧r=l++[x]:=by
  unfold ext
  rw[List.mem_filterMap]
  constructor
  · rintro⟨x,hx,e⟩
    split at e
    · rename_i hb
      cases e
      simp only[List.mem_cons,List.not_mem_nil,or_false] at hx
      simp only[Bool.and_eq_true,decide_eq_true_eq] at hb
      exact⟨x,hx,hb.1,hb.2,rfl⟩
    · cases e
  · rintro⟨x,hx,h0,h1,rfl⟩
    refine⟨x,by simpa using hx,?_⟩
    rw[if_pos (by simp[h0,h1])]
theorem way_congr {s':Nat→Nat} {k:Nat} (e:∀y < k,s y=s' y):wayL k s=wayL k s':=by
  unfold wayL
  exact List.map_congr_left fun y hy=>by rw[e y (List.mem_range.mp hy)]
theorem mem_wys:∀{k:Nat} {l:List Int},l∈wys w k↔∃s,Seam w (k+1) s∧l=wayL (k+1) s
  | 0,l=>by
    unfold wys
    rw[List.mem_map]
    constructor
    · rintro⟨x,hx,rfl⟩
      exact⟨fun _=>x,⟨fun _ _=>List.mem_range.mp hx,fun y hy=>by omega⟩,rfl⟩
    · rintro⟨s,q,rfl⟩
      exact⟨s 0,List.mem_range.mpr (q.lt 0 (by omega)),rfl⟩
  | k + 1,l=>by
    unfold wys
    rw[List.mem_flatMap]
    constructor
    · rintro⟨l',h',hl⟩
      obtain⟨s,q,rfl⟩:=mem_wys.mp h'
      rw[lst_way] at hl
      obtain⟨x,hx,h0,h1,rfl⟩:=mem_ext.mp hl
      obtain⟨p,rfl⟩:=Int.eq_ofNat_of_zero_le h0
      have e1:∀y < k+1,(fun y=>if y=k+1 then p else s y) y=s y:=fun y hy=>if_neg (by omega)
      refine⟨fun y=>if y=k+1 then p else s y,⟨fun y hy=>?_,fun y hy=>?_⟩,?_⟩
      · by_cases e:y=k+1
        · simp only[e,if_true];omega
        · simp only[e,if_false];exact q.lt y (by omega)
      · by_cases e:y=k
        · subst e
          simp only[if_true,show ¬y=y+1 by omega,if_false];omega
        · simp only[show ¬y+1=k+1 by omega,show ¬y=k+1 by omega,if_false];exact q.st y (by omega)
      · rw[way_succ (k:=k+1),way_congr e1];simp
    · rintro⟨s,q,rfl⟩
      refine⟨wayL (k+1) s,mem_wys.mpr ⟨s,⟨fun y hy=>q.lt y (by omega),fun y hy=>q.st y (by omega)⟩,rfl⟩,?_⟩
      rw[lst_way,mem_ext]
      have a:=q.st k (by omega)
      have b:=q.lt (k+1) (by omega)
      exact⟨((s (k+1):Nat):Int),by omega,by omega,by omega,way_succ⟩
theorem ext_len {l:List Int} {a:Int}:(ext w l a).length≤3:=by unfold ext;exact List.length_filterMap_le _ _
theorem flat_len3 {F:List Int→List (List Int)}:∀{l:List (List Int)},(∀a∈l,(F a).length≤3)→(l.flatMap F).length≤3*l.length
  |[],_=>by simp
  | a::l,h=>by
    rw[List.flatMap_cons,List.length_append,List.length_cons]
    have h1:=h a (by simp)
    have h2:=flat_len3 (l:=l) fun b hb=>h b (by simp[hb])
    omega
theorem wys_len:∀{k:Nat},(wys w k).length≤w*3 ^ k
  |0=>by simp[wys]
  | k+1=>by
    unfold wys
    have:=flat_len3 (F:=fun l=>ext w l (lst l)) (l:=wys w k) fun a _=>ext_len
    have h2:=wys_len (k:=k)
    rw[Nat.pow_succ]
    have:w*(3 ^ k*3)=3*(w*3 ^ k):=by rw[Nat.mul_comm (3 ^ k) 3,←Nat.mul_assoc,Nat.mul_comm w 3,Nat.mul_assoc]
    omega
theorem wys_len4 {k:Nat} (hw:w≤4) (hk:k≤3):(wys w k).length≤108:=by
  have:=wys_len (w:=w) (k:=k)
  have h3:3 ^ k≤27:=by
    have:k=0∨k=1∨k=2∨k=3:=by omega
    rcases this with rfl |rfl |rfl |rfl <;> decide
  have:w*3 ^ k≤4*27:=Nat.mul_le_mul hw h3
  omega
theorem last_tI {k:Nat}:ixD (tI (wayL (k+1) s)) (.int (-1))= .ok (.int ((s k:Nat):Int)):=by
  have:atI ((wayL (k+1) s).map D.int) (-1)=some (.int ((s k:Nat):Int)):=by
    unfold atI ixN
    rw[if_neg (by omega),if_pos (by simp[wayL];omega)]
    show ((wayL (k+1) s).map D.int)[_]?=_
    have e:(-1+(((wayL (k+1) s).map D.int).length:Int)).toNat=k:=by simp[wayL];omega
    rw[e]
    simp[wayL]
  show ixD (.tup ((wayL (k+1) s).map D.int)) (.int (-1))=_
  rw[ixD,this]
theorem ext_map {l:List Int} {a:Int}:(ext w l a).map tI=[a - 1,a,a+1].filterMap fun x=>if (decide (0≤x) && decide (x < (w:Int)))=true then some (tI (l++[x])) else none:=by
  unfold ext
  rw[List.map_filterMap]
  congr 1
  funext x
  split <;> rfl
theorem wyI_eq {k:Nat} (hk:k < 20) (q:Seam w (k+1) s) {e1 e2 e3:Option Ent} {acc:List D} (hl:acc.length≤1000):
    wyI [vA (.int (w:Int)),e1,e2,e3,vA (.lst acc),vA (tI (wayL (k+1) s))]= .nx [vA (.int (w:Int)),e1,e2,e3,vA (.lst (acc++(ext w (wayL (k+1) s) (lst (wayL (k+1) s))).map tI)),vA (tI (wayL (k+1) s))]:=by
  have hlen:=ext_len (w:=w) (l:=wayL (k+1) s) (a:=lst (wayL (k+1) s))
  have hwl:(wayL (k+1) s).length=k+1:=by simp[wayL]
  rw[lst_way] at hlen ⊢
  refine ev_asg (ev_bin rfl (y:= .lst ((ext w (wayL (k+1) s) ((s k:Nat):Int)).map tI)) ?_ (ev_addL (by rw[List.length_map];omega))) rfl
  rw[ext_map]
  refine comp_f (l:=[((s k:Nat):Int) - 1,((s k:Nat):Int),((s k:Nat):Int)+1]) (c:=D.int) (ev_seqT (ev_tup (evc (ev_bin (ev_bin rfl rfl last_tI) rfl rfl) (evc (ev_bin rfl rfl last_tI) (evo (ev_bin (ev_bin rfl rfl last_tI) rfl rfl)))))) (by simp) fun x hx=>?_
  refine ev_eltB rfl ?_ (ev_bin rfl (ev_tup (evo rfl)) ((ev_addT (by rw[List.length_map,hwl];simp;omega)).trans (by rw[tI,List.map_append];rfl)))
  by_cases h0:0≤x
  · rw[decide_eq_true h0,Bool.true_and]
    exact ev_andT (ev_tst (ev_bin rfl rfl (leI_t h0))) (ev_tst (ev_bin rfl rfl rfl))
  · rw[decide_eq_false h0,Bool.false_and]
    refine ev_andF (ev_tst (ev_bin rfl rfl ?_))
    show R.ok (D.bl (decide _))=_
    rw[decide_eq_false h0]
theorem wyI_loop {k:Nat} (hk:k < 20) {e1 e2 e3:Option Ent}:∀{ws:List (List Int)} {acc:List D} {e5:Option Ent},(∀l∈ws,∃s,Seam w (k+1) s∧l=wayL (k+1) s)→acc.length+3*ws.length≤1000→
    ∃z5,forL (setV 5) wyI (ws.map tI) [vA (.int (w:Int)),e1,e2,e3,vA (.lst acc),e5]= .nx [vA (.int (w:Int)),e1,e2,e3,vA (.lst (acc++(ws.flatMap fun l=>ext w l (lst l)).map tI)),z5]
  |[],acc,e5,_,_=>⟨e5,by simp[forL]⟩
  | l::ws,acc,e5,hw,hl=>by
    rw[List.length_cons] at hl
    obtain⟨s,q,rfl⟩:=hw l (by simp)
    have hlen:=ext_len (w:=w) (l:=wayL (k+1) s) (a:=lst (wayL (k+1) s))
    obtain⟨z5,e⟩:=wyI_loop hk (e1:=e1) (e2:=e2) (e3:=e3) (ws:=ws) (acc:=acc++(ext w (wayL (k+1) s) (lst (wayL (k+1) s))).map tI) (e5:=vA (tI (wayL (k+1) s))) (fun l hl=>hw l (by simp[hl])) (by rw[List.length_append,List.length_map];omega)
    refine⟨z5,forL_cons rfl (wyI_eq hk q (by omega)) (e.trans ?_)⟩
    rw[List.flatMap_cons,List.map_append,List.append_assoc]
theorem wyO_eq {k:Nat} (hk:k < 3) (hw:w≤4) {e1 e3 e4 e5:Option Ent}:∃z4 z5,wyO [vA (.int (w:Int)),e1,vA (.lst ((wys w k).map tI)),e3,e4,e5]= .nx [vA (.int (w:Int)),e1,vA (.lst ((wys w (k+1)).map tI)),e3,z4,z5]:=by
  have hl:=wys_len4 (k:=k) hw (by omega)
  obtain⟨z5,e⟩:=wyI_loop (w:=w) (k:=k) (by omega) (e1:=e1) (e2:=vA (.lst ((wys w k).map tI))) (e3:=e3) (ws:=wys w k) (acc:=[]) (e5:=e5) (fun l hl=>mem_wys.mp hl) (by simp;omega)
  exact⟨_,z5,ev_seq (ev_asg (ev_lst rfl) rfl) (ev_seq (ev_for (ev_seqL rfl) e) (ev_asg (d:= .lst ((wys w (k+1)).map tI)) rfl rfl))⟩
theorem wyO_loop (hw:w≤4) {e1:Option Ent}:∀{r k:Nat} {ys:List Nat} {e3 e4 e5:Option Ent},ys.length=r→k+r≤3→∃z3 z4 z5,forL (setV 3) wyO (ys.map fun (y:Nat)=>D.int (y:Int)) [vA (.int (w:Int)),e1,vA (.lst ((wys w k).map tI)),e3,e4,e5]= .nx [vA (.int (w:Int)),e1,vA (.lst ((wys w (k+r)).map tI)),z3,z4,z5]
  |0,k,ys,e3,e4,e5,hl,_=>by cases List.length_eq_zero_iff.mp hl;exact⟨e3,e4,e5,rfl⟩
  | r +1,k,ys,e3,e4,e5,hl,hk=>by
    cases ys with
    |nil=>cases hl
    | cons y ys=>
      obtain⟨y4,y5,e⟩:=wyO_eq (k:=k) (by omega) hw (e1:=e1) (e3:=vA (.int (y:Int))) (e4:=e4) (e5:=e5)
      obtain⟨z3,z4,z5,e'⟩:=wyO_loop hw (e1:=e1) (r:=r) (k:=k+1) (ys:=ys) (e3:=vA (.int (y:Int))) (e4:=y4) (e5:=y5) (by simpa using hl) (by omega)
      rw[show k+1+r=k+(r+1) by omega] at e'
      exact⟨z3,z4,z5,forL_cons rfl e e'⟩
theorem ways_eq (hw:w≤4) (h1:1≤h) (hh:h≤4):F__law_ways [.int (w:Int),.int (h:Int)]= .ok (.lst ((wys w (h - 1)).map tI)):=by
  obtain⟨z3,z4,z5,e⟩:=wyO_loop hw (e1:=vA (.int (h:Int))) (r:=h - 1) (k:=0) (ys:=List.range (h - 1)) (e3:=none) (e4:=none) (e5:=none) (by simp) (by omega)
  rw[Nat.zero_add] at e
  refine ev_rt (ev_seq (ev_asg (d:= .lst ((wys w 0).map tI)) ?_ rfl) (ev_seq (ev_for (ev_rng (m:=h - 1) (evo (ev_bin rfl rfl (sub1 h1))) (by omega)) e) (ev_ret rfl)))
  have:(wys w 0).map tI=(List.range w).map fun (x:Nat)=>D.tup [.int (x:Int)]:=by unfold wys;rw[List.map_map];rfl
  rw[this]
  exact comp_on (c:=fun (x:Nat)=>D.int (x:Int)) (h:=fun (x:Nat)=>D.tup [.int (x:Int)]) (l:=List.range w) (ev_rng (evo rfl) (by omega)) (by rw[List.length_range];omega) fun x hx=>ev_elt rfl (ev_tup (evo rfl))
theorem ext_nd {l:List Int} {a:Int}:(ext w l a).Nodup:=by
  have key:∀xs:List Int,xs.Nodup→(xs.filterMap fun x=>if (decide (0≤x) && decide (x < (w:Int)))=true then some (l++[x]) else none).Nodup:=by
    intro xs
    induction xs with
    |nil=>intro _;exact .nil
    | cons x xs ih=>
      intro hn
      obtain⟨h1,h2⟩:=List.nodup_cons.mp hn
      cases q:(decide (0≤x) && decide (x < (w:Int))) with
      |false=>rw[List.filterMap_cons_none (by simp only[q];rfl)];exact ih h2
      | true=>
        rw[List.filterMap_cons_some (b:=l++[x]) (by simp only[q];rfl)]
        refine List.nodup_cons.mpr ⟨fun z=>?_,ih h2⟩
        obtain⟨y,hy,e⟩:=List.mem_filterMap.mp z
        by_cases qy:(decide (0≤y) && decide (y < (w:Int)))=true
        · rw[if_pos qy] at e
          have e:=List.append_cancel_left (Option.some.inj e)
          have e:y=x:=by simpa using e
          exact h1 (by rw[←e];exact hy)
        · rw[if_neg qy] at e;cases e
  exact key _ (by simp;omega)
theorem wys_nd:∀{k:Nat},(wys w k).Nodup
  | 0=>by
    unfold wys
    refine List.pairwise_map.mpr (List.nodup_range.imp fun {a b} hab e=>hab ?_)
    have:((a:Nat):Int)=((b:Nat):Int):=(List.cons.inj e).1
    omega
  | k+1=>by
    unfold wys List.Nodup
    rw[List.pairwise_flatMap]
    refine⟨fun l _=>ext_nd,(wys_nd (k:=k)).imp fun {a b} hab x hx y hy e=>?_⟩
    obtain⟨p,_,_,_,rfl⟩:=mem_ext.mp hx
    obtain⟨q,_,_,_,rfl⟩:=mem_ext.mp hy
    exact hab (List.append_inj_left' e rfl)
noncomputable def ndL (l:List Int):List Nat:=l.map Int.toNat
theorem nd_way:ndL (wayL h s)=(List.range h).map s:=by
  unfold ndL wayL
  rw[List.map_map]
  exact List.map_congr_left fun y _=>by show ((s y:Nat):Int).toNat=s y;omega
noncomputable def frL (w h:Nat) (M:Nat→Nat→Int) (l:List Int):Bool:= @decide (Pa w M 0 (ndL l)) (Classical.propDecidable _)
theorem frL_iff {l:List Int}:frL w h M l=true↔Pa w M 0 (ndL l):=by unfold frL;exact @decide_eq_true_iff _ (Classical.propDecidable _)
theorem frL_way (h1:1≤h) (q:Seam w h s):frL w h M (wayL h s)=decide (cnt M h s 1=0):=by
  have:Pa w M 0 ((List.range h).map s)↔cnt M h s 1=0:=by
    rw[pa_fre h1,cnt_zero]
    exact⟨fun z=>z.ne,fun z=>⟨q,z⟩⟩
  by_cases hc:cnt M h s 1=0
  · rw[decide_eq_true hc,frL_iff,nd_way];exact this.mpr hc
  · rw[decide_eq_false hc]
    cases q:frL w h M (wayL h s) with
    |false=>rfl
    |true=>rw[frL_iff,nd_way] at q;exact absurd (this.mp q) hc
theorem ways_perm (h1:1≤h):(((wys w (h - 1)).filter (frL w h M)).map ndL).Perm (allP w h M):=by
  have hk:h - 1+1=h:=by omega
  have sh:∀l∈wys w (h - 1),∃s,Seam w h s∧l=wayL h s:=fun l hl=>by have:=mem_wys.mp hl;rwa [hk] at this
  refine perm_nd ?_ allP_nd fun l=>?_
  · have nd:((wys w (h - 1)).filter (frL w h M)).Nodup:=wys_nd.sublist List.filter_sublist
    unfold List.Nodup
    rw[List.pairwise_map]
    refine List.Pairwise.imp_of_mem (fun {a b} ha hb hab e=>?_) nd
    obtain⟨s1,_,rfl⟩:=sh a (List.mem_filter.mp ha).1
    obtain⟨s2,_,rfl⟩:=sh b (List.mem_filter.mp hb).1
    rw[nd_way,nd_way] at e
    refine hab (way_congr fun y hy=>?_)
    have:=congrArg (fun l:List Nat=>l[y]?) e
    simpa[List.getElem?_map,List.getElem?_range hy] using this
  · rw[mem_allP h1,List.mem_map]
    constructor
    · rintro⟨l',hl',rfl⟩
      obtain⟨h2,h3⟩:=List.mem_filter.mp hl'
      obtain⟨s,q,rfl⟩:=sh l' h2
      refine⟨by rw[nd_way];simp,?_⟩
      exact frL_iff.mp h3
    · rintro⟨hl,hP⟩
      obtain⟨s,hs⟩:=of_list l
      rw[hl] at hs
      subst hs
      have fr:=(pa_fre h1).mp hP
      refine⟨wayL h s,List.mem_filter.mpr ⟨mem_wys.mpr ⟨s,by rw[hk];exact⟨fr.sm,rfl⟩⟩,?_⟩,nd_way⟩
      rw[frL_way h1 fr.sm]
      exact decide_eq_true (cnt_zero.mpr fr.ne)
end
end K20
namespace K20
open PySem PySem.Spec L2 Pu
section
variable {ns:List Int} {w h:Nat} {f M:Nat→Nat→Int} {s:Nat→Nat} {ρ:Rho}
theorem some44 (hns:ns.length≤1000000):∃w h f,F__law_some [.lst (ns.map .int),.int 0,.int 4,.int 4]= .ok (pic w h f)∧Ok w h f∧w≤4∧h≤4:=by
  obtain⟨e1,h1,h2⟩:=dr_eq (k:=0) (m:=4) hns (by omega) (by omega)
  obtain⟨e2,h3,h4⟩:=dr_eq (k:=0+1) (m:=4) hns (by omega) (by omega)
  obtain⟨w,hw⟩:=Int.eq_ofNat_of_zero_le (show 0≤1+dr ns 0 4 by omega)
  obtain⟨h,hh⟩:=Int.eq_ofNat_of_zero_le (show 0≤1+dr ns (0+1) 4 by omega)
  obtain⟨f,e,o⟩:=picture_eq (ns:=ns) (a:=0+2) (w:=w) (h:=h) hns (by omega) (by omega) (by omega) (by omega) (by omega)
  refine⟨w,h,f,ev_rt (ev_ret (ev_fn (evc rfl (evc (ev_bin rfl rfl rfl) (evc (ev_bin rfl (ev_fn (evc rfl (evc rfl (evo rfl))) e1) (congrArg (fun z=>R.ok (D.int z)) hw)) (evo (ev_bin rfl (ev_fn (evc rfl (evc (ev_bin rfl rfl rfl) (evo rfl))) e2) (congrArg (fun z=>R.ok (D.int z)) hh)))))) e)),o,by omega,by omega⟩
noncomputable def Sg (sg:List Int):Prop:=0 < sg.length∧sg.length≤5∧∀i∈sg,0≤i∧i≤2
theorem Sg.get {sg:List Int} (s:Sg sg) (k:Nat):0≤sg.getD k 0∧sg.getD k 0≤2:=by
  by_cases hk:k < sg.length
  · have:sg.getD k 0=sg[k]:=by simp[hk]
    rw[this];exact s.2.2 _ (List.getElem_mem _)
  · have:sg.getD k 0=0:=by simp[List.getD,List.getElem?_eq_none (Nat.le_of_not_lt hk)]
    rw[this];omega
theorem ix_sg {sg:List Int} {k:Int} (h0:0≤k) (h1:k < sg.length):ixD (.lst (sg.map .int)) (.int k)= .ok (.int (sg.getD k.toNat 0)):=by
  obtain⟨n,rfl⟩:=Int.eq_ofNat_of_zero_le h0
  have hn:n < sg.length:=by omega
  refine ev_ixL (i:=n) ?_
  rw[List.getElem?_map,List.getElem?_eq_getElem hn]
  simp[hn]
noncomputable def mks (ns:List Int) (w:Nat) (sg:List Int) (y x:Nat):Int:=sg.getD (dr ns (40+1+(w:Int)*(y:Int)+(x:Int)) sg.length).toNat 0
theorem mkB_eq (hns:ns.length≤1000000) (hw:w≤20) {sg:List Int} (s:Sg sg) {y:Nat} (hy:y < 20) {e2 e7:Option Ent} {acc:List D} (hl:acc.length≤1000):
    mkB [vA (.lst (ns.map .int)),vA (.int 40),e2,some (.lst acc),vA (.lst (sg.map .int)),vA (.int (y:Int)),vA (row w (f y)),e7] =
      .nx [vA (.lst (ns.map .int)),vA (.int 40),e2,some (.lst (acc++[row w (mks ns w sg y)])),vA (.lst (sg.map .int)),vA (.int (y:Int)),vA (row w (f y)),vA (.int (40+1+(w:Int)*(y:Int)))]:=by
  have hp:(0:Int)≤(w:Int)*(y:Int):=Int.mul_nonneg (by omega) (by omega)
  refine ev_seq (ev_asg (d:= .int (40+1+(w:Int)*(y:Int))) (ev_bin (x:= .int (40+1)) (ev_bin rfl rfl rfl) (ev_bin (ev_call (evo rfl) len_row) rfl ((show mulD (.int (w:Int)) (.int (y:Int))=mulI (.int (w:Int)) (.int (y:Int)) from rfl).trans (ev_mul (.inl (by omega))))) rfl) rfl) ?_
  refine ev_app (ds:=acc) (ev_call (evo (comp_on (c:=fun (x:Nat)=>D.int (x:Int)) (h:=fun x=> .int (mks ns w sg y x)) (l:=List.range w) (ev_rng (evo (ev_call (evo rfl) len_row)) (by omega)) (by rw[List.length_range];omega) fun x hx=>?_)) rfl) rfl (by omega)
  obtain⟨e1,h1,h2⟩:=dr_eq (k:=40+1+(w:Int)*(y:Int)+(x:Int)) (m:=(sg.length:Int)) hns (by omega) (by have:=s.1;omega)
  have hlen:lenD [.lst (sg.map .int)]= .ok (.int (sg.length:Int)):=by simp[lenD]
  exact ev_elt rfl (ev_bin rfl (ev_fn (evc rfl (evc (ev_bin rfl rfl rfl) (evo (ev_call (evo rfl) hlen)))) e1) (ix_sg h1 h2))
theorem mk_loop (hns:ns.length≤1000000) (hw:w≤20) {sg:List Int} (s:Sg sg) {e2:Option Ent}:∀{ys:List Nat} {acc:List D} {e5 e6 e7:Option Ent},(∀y∈ys,y < 20)→acc.length+ys.length≤1000→
    ∃ z5 z6 z7,forL (tupG (lenG 2 (consG (setV 5) (consG (setV 6) nilG)))) mkB (ys.map fun (y:Nat)=>D.tup [.int (y:Int),row w (f y)]) [vA (.lst (ns.map .int)),vA (.int 40),e2,some (.lst acc),vA (.lst (sg.map .int)),e5,e6,e7] =
      .nx [vA (.lst (ns.map .int)),vA (.int 40),e2,some (.lst (acc++ys.map fun y=>row w (mks ns w sg y))),vA (.lst (sg.map .int)),z5,z6,z7]
  |[],acc,e5,e6,e7,_,_=>⟨e5,e6,e7,by simp[forL]⟩
  | y::ys,acc,e5,e6,e7,hy,hl=>by
    rw[List.length_cons] at hl
    obtain⟨z5,z6,z7,e⟩:=mk_loop hns hw s (e2:=e2) (ys:=ys) (acc:=acc++[row w (mks ns w sg y)]) (e5:=vA (.int (y:Int))) (e6:=vA (row w (f y))) (e7:=vA (.int (40+1+(w:Int)*(y:Int)))) (fun q hq=>hy q (by simp[hq])) (by simp;omega)
    exact⟨z5,z6,z7,forL_cons rfl (mkB_eq hns hw s (hy y (by simp)) (by omega)) (e.trans (by rw[List.map_cons,List.append_assoc];rfl))⟩
theorem marks_eq (hns:ns.length≤1000000) (o:Ok w h f):∃M,F__law_marks [.lst (ns.map .int),.int 40,pic w h f]= .ok (pic w h M)∧Mk w h M:=by
  have h20:=o.h2
  obtain⟨e1,h0,h4⟩:=dr_eq (k:=40) (m:=4) hns (by omega) (by omega)
  obtain⟨d,hd,ed⟩:=atI_int (xs:=[D.lst (([0,0,0,1,2]:List Int).map .int),.lst (([0,0,0,0,1]:List Int).map .int),.lst (([0,0,2,0,0]:List Int).map .int),.lst (([0]:List Int).map .int)]) h0 h4
  have hs:∃sg,d= .lst (sg.map .int)∧Sg sg:=by
    simp only[List.mem_cons,List.not_mem_nil,or_false] at hd
    rcases hd with rfl |rfl |rfl |rfl
    · exact⟨[0,0,0,1,2],rfl,by decide,by decide,by decide⟩
    · exact⟨[0,0,0,0,1],rfl,by decide,by decide,by decide⟩
    · exact⟨[0,0,2,0,0],rfl,by decide,by decide,by decide⟩
    · exact⟨[0],rfl,by decide,by decide,by decide⟩
  obtain⟨sg,rfl,s⟩:=hs
  obtain⟨z5,z6,z7,e⟩:=mk_loop (f:=f) hns o.w2 s (e2:=vA (pic w h f)) (ys:=List.range h) (acc:=[]) (e5:=none) (e6:=none) (e7:=none) (fun y hy=>by have:=List.mem_range.mp hy;omega) (by simp;omega)
  refine⟨mks ns w sg,ev_rt (ev_seq (ev_newL rfl) (ev_seq (ev_asg (ev_bin (x:= .lst [D.lst (([0,0,0,1,2]:List Int).map .int),.lst (([0,0,0,0,1]:List Int).map .int),.lst (([0,0,2,0,0]:List Int).map .int),.lst (([0]:List Int).map .int)]) (ev_lst (evc (ev_lst rfl) (evc (ev_lst rfl) (evc (ev_lst rfl) (evo (ev_lst rfl)))))) (ev_fn (evc rfl (evc rfl (evo rfl))) e1) (ev_ixI ed)) rfl) (ev_seq (ev_for (ev_enum (evo rfl) rfl) e) (ev_ret (ev_call (evo rfl) rfl))))),fun y x=>s.get _⟩
theorem ltL_snoc {x y:Int}:∀{a b:List Int},a.length=b.length→ltL a b=true→ltL (a++[x]) (b++[y])=true
  |[],[],_,h=>by cases h
  |[],_::_,h,_=>by cases h
  |_::_,[],h,_=>by cases h
  | p::a,q::b,hl,h=>by
    rw[ltL] at h
    show (if p=q then ltL (a++[x]) (b++[y]) else decide (p < q))=true
    by_cases e:p=q
    · rw[if_pos e] at h ⊢;exact ltL_snoc (by simpa using hl) h
    · rw[if_neg e] at h ⊢;exact h
theorem ltL_last {x y:Int} (h:x < y):∀a:List Int,ltL (a++[x]) (a++[y])=true
  | []=>by
    show (if x=y then _ else decide (x < y))=true
    rw[if_neg (by omega)];exact decide_eq_true h
  | p::a=>by
    show (if p=p then ltL (a++[x]) (a++[y]) else _)=true
    rw[if_pos rfl];exact ltL_last h a
theorem ext_asc {l:List Int} {a:Int}:(ext w l a).Pairwise fun p q=>ltL p q=true:=by
  unfold ext
  rw[List.pairwise_filterMap]
  have z:∀x y:Int,x < y→∀b,(if (decide (0≤x) && decide (x < (w:Int)))=true then some (l++[x]) else none)=some b→∀b',(if (decide (0≤y) && decide (y < (w:Int)))=true then some (l++[y]) else none)=some b'→ltL b b'=true:=fun x y hxy b hb b' hb'=>by
    split at hb
    · split at hb'
      · cases hb;cases hb';exact ltL_last hxy l
      · cases hb'
    · cases hb
  refine .cons (fun y hy=>z _ _ ?_) (.cons (fun y hy=>z _ _ ?_) (.cons (fun y hy=>by cases hy) .nil))
  · simp only[List.mem_cons,List.not_mem_nil,or_false] at hy;omega
  · simp only[List.mem_cons,List.not_mem_nil,or_false] at hy;omega
theorem wys_asc:∀{k:Nat},(wys w k).Pairwise fun p q=>ltL p q=true
  | 0 =>by
    unfold wys
    rw[List.pairwise_map]
    exact List.pairwise_lt_range.imp fun {a b} hab=>by
      show (if (a:Int)=(b:Int) then _ else decide ((a:Int) < (b:Int)))=true
      rw[if_neg (by omega)];exact decide_eq_true (by omega)
  | k+1=>by
    rw[wys,List.pairwise_flatMap]
    refine⟨fun l _=>ext_asc,(wys_asc (k:=k)).imp_of_mem fun {p q} hp hq hpq a ha b hb=>?_⟩
    obtain⟨x,_,_,_,rfl⟩:=mem_ext.mp ha
    obtain⟨y,_,_,_,rfl⟩:=mem_ext.mp hb
    obtain⟨s,_,rfl⟩:=mem_wys.mp hp
    obtain⟨t,_,rfl⟩:=mem_wys.mp hq
    exact ltL_snoc (by simp[wayL]) hpq
theorem asc_one:∀{a b:List (List Nat)},a.Perm b→(a.Pairwise fun p q=>ltL (cst p) (cst q)=true)→(b.Pairwise fun p q=>ltL (cst p) (cst q)=true)→a=b
  |[],b,p,_,_=>(List.nil_perm.mp p).symm
  |x::a,[],p,_,_=>absurd (List.perm_nil.mp p) (by simp)
  | x :: a,y::b,p,ha,hb=>by
    have ha':=List.pairwise_cons.mp ha
    have hb':=List.pairwise_cons.mp hb
    have h1:x=y:=by
      rcases List.mem_cons.mp (p.mem_iff.mp (List.mem_cons_self (a:=x) (l:=a))) with h |h
      · exact h
      · rcases List.mem_cons.mp (p.mem_iff.mpr (List.mem_cons_self (a:=y) (l:=b))) with k |k
        · exact k.symm
        · have:=ltL_trans (ha'.1 y k) (hb'.1 x h)
          rw[ltL_irr] at this;cases this
    subst h1
    rw[asc_one (List.perm_cons x |>.mp p) ha'.2 hb'.2]
theorem cst_nd {h:Nat} {s:Nat→Nat}:cst (ndL (wayL h s))=wayL h s:=by
  rw[nd_way];unfold cst wayL;rw[List.map_map];rfl
theorem seams (h1:1≤h):∀l∈wys w (h - 1),∃s,Seam w h s∧l=wayL h s:=fun l hl=>by
  have:=mem_wys.mp hl
  rwa [show h - 1+1=h by omega] at this
theorem ways_all (h1:1≤h):((wys w (h - 1)).filter (frL w h M)).map ndL=allP w h M:=by
  refine asc_one (ways_perm h1) ?_ allP_asc
  rw[List.pairwise_map]
  refine (wys_asc.sublist List.filter_sublist).imp_of_mem fun {p q} hp hq hpq=>?_
  obtain⟨s,_,rfl⟩:=seams h1 p (List.mem_filter.mp hp).1
  obtain⟨t,_,rfl⟩:=seams h1 q (List.mem_filter.mp hq).1
  rw[cst_nd,cst_nd];exact hpq
theorem tI_all (h1:1≤h):((wys w (h - 1)).filter (frL w h M)).map tI=(allP w h M).map smL:=by
  rw[←ways_all h1,List.map_map]
  refine List.map_congr_left fun l hl=>?_
  obtain⟨s,_,rfl⟩:=seams h1 l (List.mem_filter.mp hl).1
  show tI _=smL _
  rw[nd_way,smL_s,tI_sm]
noncomputable abbrev M0:Nat→Nat→Int:=fun _ _=>0
theorem tI_zer (h1:1≤h):(wys w (h - 1)).map tI=(allP w h M0).map smL:=by
  rw[←tI_all h1,List.filter_eq_self.mpr fun l hl=>?_]
  obtain⟨s,q,rfl⟩:=seams h1 l hl
  rw[frL_way h1 q]
  exact decide_eq_true (cnt_zero.mpr fun y _=>show (0:Int)≠1 by decide)
theorem zer_pos (h1:1≤h) (w1:1≤w):0 < (allP w h M0).length:=by
  have:(List.range h).map (fun _=>0)∈allP w h M0:=(mem_fre h1).mpr ⟨_,rfl,⟨fun _ _=>w1,fun _ _=>⟨by omega,by omega⟩⟩,fun _ _=>show (0:Int)≠1 by decide⟩
  exact List.length_pos_of_mem this
theorem fm_fil {α:Type} {p:α→Bool} {g:α→D}:∀{l:List α},(l.filterMap fun a=>if p a=true then some (g a) else none)=(l.filter p).map g
  |[]=>rfl
  | a::l=>by
    cases e:p a with
    |true=>rw[List.filterMap_cons_some (b:=g a) (by simp[e]),List.filter_cons_of_pos e,List.map_cons,fm_fil]
    |false=>rw[List.filterMap_cons_none (by simp[e]),List.filter_cons_of_neg (by rw[e];decide),fm_fil]
theorem eqDs_sm:∀{a b:List Nat},eqDs (a.map fun (p:Nat)=>D.int (p:Int)) (b.map fun (p:Nat)=>D.int (p:Int))=decide (a=b)
  |[],[]=>rfl
  |[],_::_=>rfl
  |_::_,[]=>rfl
  | x ::a,y::b=>by
    rw[List.map_cons,List.map_cons,eqDs,eqDs_sm,eqD]
    by_cases e:x=y
    · subst e;simp
    · have:¬(x:Int)=(y:Int):=by omega
      simp[e,this]
theorem eqD_sm {a b:List Nat}:eqD (smL a) (smL b)=decide (a=b):=by
  show eqDs _ _=_
  exact eqDs_sm
theorem dep_smL {l:List Nat}:dep (smL l)≤1:=by
  show dep (D.tup _)≤1
  rw[dep]
  have:=deps_on (c:=fun (p:Nat)=>D.int (p:Int)) (n:=0) (l:=l) fun x _=>by simp[dep]
  omega
theorem deps_sm {L:List (List Nat)}:(L.map smL).all (fun d=>decide (dep d≤40))=true:=List.all_eq_true.mpr fun d hd=>by
  obtain⟨l,_,rfl⟩:=List.mem_map.mp hd
  exact decide_eq_true (Nat.le_trans dep_smL (by decide))
theorem in_sm {L:List (List Nat)} {l:List Nat}:inUD (smL l) (.lst (L.map smL))= .ok (.bl (decide (l∈L))):=by
  show (if (L.map smL).all (fun d=>decide (dep d≤40))=true then R.ok (D.bl ((L.map smL).any (eqD · (smL l)))) else .bad)=_
  rw[if_pos deps_sm]
  congr 2
  rw[List.any_map]
  by_cases q:l∈L
  · rw[decide_eq_true q]
    exact List.any_eq_true.mpr ⟨l,q,by show eqD _ _=true;rw[eqD_sm];exact decide_eq_true rfl⟩
  · rw[decide_eq_false q]
    refine List.any_eq_false.mpr fun a ha=>?_
    show ¬eqD _ _=true
    rw[eqD_sm]
    intro z
    exact q (of_decide_eq_true z▸ha)
theorem idx_sm {l:List Nat} {i:Nat} (hl:(allP w h M).length≤1000000) (hi:(allP w h M)[i]?=some l):idxUD (.lst ((allP w h M).map smL)) (smL l)= .ok (.int (i:Int)):=by
  obtain⟨lt,e⟩:=List.getElem?_eq_some_iff.mp hi
  have ef:((allP w h M).map smL).findIdx (eqD · (smL l))=i:=by
    have lt':i < ((allP w h M).map smL).length:=by simpa using lt
    rw[List.findIdx_eq lt']
    refine⟨by rw[List.getElem_map,eqD_sm,e];exact decide_eq_true rfl,fun j hj=>?_⟩
    rw[List.getElem_map,eqD_sm]
    refine decide_eq_false fun z=>?_
    have:=at_one (h:=h) (M:=M) (w:=w) (i:=j) (j:=i) (a:=l) (by rw[List.getElem?_eq_getElem (by omega),z]) hi
    omega
  show (if (((allP w h M).map smL).all (fun d'=>decide (dep d'≤40))=true∧((allP w h M).map smL).findIdx (eqD · (smL l)) < ((allP w h M).map smL).length∧((allP w h M).map smL).length≤1000000) then _ else _)=_
  rw[if_pos ⟨deps_sm,by rw[ef];simpa using lt,by simpa using hl⟩,ef]
theorem ix_sm {L:List (List Nat)} {i:Nat} {l:List Nat} (h:L[i]?=some l):ixD (.lst (L.map smL)) (.int (i:Int))= .ok (smL l):=by
  refine ev_ixL (i:=i) ?_
  rw[List.getElem?_map,h];rfl
theorem neK_sm {l:List Nat}:neK (smL l) (smL l)= .ok (.bl false):=Pu.neK_same rfl (Nat.le_trans dep_smL (by decide))
theorem number_at {d:D} (o:Ok w h f) (e:F_full_marks [d,pic w h f]= .ok (pic w h M)) {i:Nat} {l:List Nat} (hi:(allP w h M)[i]?=some l):F_number_of [pic w h f,smL l,d]= .ok (.int (i:Int)):=by
  obtain⟨s,rfl,q⟩:=(mem_fre o.h1).mp (List.mem_of_getElem? hi)
  obtain⟨j,hj,en⟩:=number_some o e q
  have:=at_one hj hi
  subst this
  rw[smL_s];exact en
theorem nuB_eq (o:Ok w h f) (hM:Mk w h M) {n:Nat} {l:List Nat} (hl:(allP w h M)[n]?=some l) {e0 e2 e3 e5 e7 e9 e10:Option Ent}:
    nuB [e0,vA (pic w h f),e2,e3,vA (pic w h M),e5,vA (.lst ((allP w h M).map smL)),e7,vA (.int (n:Int)),e9,e10] =
      .nx [e0,vA (pic w h f),e2,e3,vA (pic w h M),e5,vA (.lst ((allP w h M).map smL)),e7,vA (.int (n:Int)),e9,e10]:=by
  have e:=full_some o hM
  refine ev_seq (ev_ifF (ev_tst (ev_bin (ev_callKX (evc rfl (evo rfl)) (evo rfl) (seam_at_eq o e hl)) (ev_bin rfl rfl (ix_sm hl)) neK_sm)) rfl) ?_
  exact ev_ifF (ev_tst (ev_bin (ev_callKX (evc rfl (evo (ev_bin rfl rfl (ix_sm hl)))) (evo rfl) (number_at o e hl)) rfl neK_same)) rfl
theorem nu_loop (o:Ok w h f) (hM:Mk w h M) {e0 e2 e3 e5 e7 e9 e10:Option Ent}:∀{ks:List Int} {e8:Option Ent},(∀k∈ks,0≤k∧k < ((allP w h M).length:Int))→
    ∃z8,forL (setV 8) nuB (ks.map .int) [e0,vA (pic w h f),e2,e3,vA (pic w h M),e5,vA (.lst ((allP w h M).map smL)),e7,e8,e9,e10]= .nx [e0,vA (pic w h f),e2,e3,vA (pic w h M),e5,vA (.lst ((allP w h M).map smL)),e7,z8,e9,e10]
  |[],e8,_=>⟨_,rfl⟩
  | k::ks,e8,hk=>by
    obtain⟨k0,k1⟩:=hk k (by simp)
    obtain⟨n,rfl⟩:=Int.eq_ofNat_of_zero_le k0
    have hl:(allP w h M)[n]?=some (allP w h M)[n]:=List.getElem?_eq_getElem (by omega)
    obtain⟨z8,e⟩:=nu_loop o hM (e0:=e0) (e2:=e2) (e3:=e3) (e5:=e5) (e7:=e7) (e9:=e9) (e10:=e10) (ks:=ks) (e8:=vA (.int (n:Int))) (fun k hk'=>hk k (by simp[hk']))
    exact⟨z8,forL_cons rfl (nuB_eq o hM hl) e⟩
end
end K20
namespace K20
open PySem PySem.Spec L2 Pu
section
variable {ns:List Int} {w h:Nat} {f M:Nat→Nat→Int} {ρ:Rho}
theorem ev_orT {p q:Rho→R Bool} (e1:p ρ= .ok true):orT p q ρ= .ok true:=by rw[orT,e1,R.bind_ok,if_pos rfl]
theorem seam_at_bad (o:Ok w h f) {d:D} (e:F_is_whole [d]= .ok (.bl false)∨F_is_whole [d]= .ok (.bl true)∧∀ρ:Rho,getV ρ 1= .ok d→getV ρ 3= .ok (.lst ((List.range h).map (cnD w h M0)))→chn (fun _=> .ok (.int 0)) (fun ρ=>getV ρ 1) (callV sumD (consA (bin (fun ρ=>getV ρ 3) (fun _=> .ok (.int 0)) ixD) (fun _=> .ok []))) leI ltI ρ= .ok (.bl false)):F_seam_at [pic w h f,d,.non]= .err "NoNumber" :=by
  refine ex_run (ev_seq (ev_expr (ev_fn (evo rfl) (need_eq o))) (ev_seq (ev_asg (ev_fn (evo (ev_fn (evc rfl (evo rfl)) (full_none o))) (counts_eq o.h1 o.h2 o.w2)) rfl) (ex_seq (ev_ifT ?_ rfl))))
  rcases e with e |⟨e,e'⟩
  · exact ev_orT (ev_not (ev_tst (ev_fn (evo rfl) e)))
  · exact ev_orF (ev_not (ev_tst (ev_fn (evo rfl) e))) (ev_not (ev_tst (e' _ rfl rfl)))
theorem odd_bad (o:Ok w h f) {d:D} (hd:d∈[D.int (-1),.int ((allP w h M0).length:Int),.non,.bl true,.str "0",.tup [.int 0]]):F_seam_at [pic w h f,d,.non]= .err "NoNumber" :=by
  simp only[List.mem_cons,List.not_mem_nil,or_false] at hd
  rcases hd with rfl |rfl |rfl |rfl |rfl |rfl
  · refine seam_at_bad o (.inr ⟨rfl,fun ρ h1 _=>?_⟩)
    unfold chn
    have h1:((fun ρ=>getV ρ 1):Rho→R D) ρ= .ok (.int (-1)):=h1
    rw[h1]
    rfl
  · refine seam_at_bad o (.inr ⟨rfl,fun ρ h1 h3=>?_⟩)
    refine ev_chn rfl h1 (leI_t (by omega)) (ev_call (evo (ev_bin h3 rfl (ix_lst (α:=D) (x:=0) o.h1))) (row_sum o.h1)) ?_
    show R.ok (D.bl (decide (((allP w h M0).length:Int) < ((allP w h M0).length:Int))))=_
    rw[decide_eq_false (by omega)]
  · exact seam_at_bad o (.inl rfl)
  · exact seam_at_bad o (.inl rfl)
  · exact seam_at_bad o (.inl rfl)
  · exact seam_at_bad o (.inl rfl)
theorem number_bad (o:Ok w h f) {d:D} (e:F_is_way [d,.int (w:Int),.int (h:Int)]= .ok (.bl false)):F_number_of [pic w h f,d,.non]= .err "NoSeam" :=by
  have es:F_is_seam [d,pic w h f]= .ok (.bl false):=ev_rt (ev_seq (ev_asg (ev_fn (evo rfl) (size_eq o)) rfl) (ev_ret (ev_fn (evc rfl (evc rfl (evo rfl))) e)))
  have en:F_need_seam [d,pic w h f]= .err "NoSeam" :=ex_run (m:=0) (ev_ifT (ev_not (ev_tst (ev_fn (evc rfl (evo rfl)) es))) rfl)
  exact ex_run (ev_seq (ev_expr (ev_fn (evo rfl) (need_eq o))) (ev_seq (ev_asg (ev_fn (evc rfl (evo rfl)) (full_none o)) rfl) (ex_seq (ex_expr (ev_callKX (evc rfl (evo rfl)) rfl en)))))
theorem long_way {k:Nat} (hk:k≠h):F_is_way [.tup ((List.range k).map fun _=>D.int 0),.int (w:Int),.int (h:Int)]= .ok (.bl false):=by
  refine ev_rt (ev_seqR (ev_ifT (ev_orF (ev_not (b:=true) (ev_tst rfl)) (ev_tst (ev_bin (ev_call (evo rfl) (by simp[lenD]:lenD [.tup ((List.range k).map fun _=>D.int 0)]= .ok (.int (k:Int)))) rfl ?_))) (ev_ret rfl)))
  rw[neK_i,decide_eq_false (by omega)];rfl
theorem wide_way (h1:1≤h) (hh:h≤20):F_is_way [.tup ((List.range h).map fun _=>D.int (w:Int)),.int (w:Int),.int (h:Int)]= .ok (.bl false):=by
  refine ev_rt (ev_seq (ev_ifF (ev_orF (ev_not (b:=true) (ev_tst rfl)) (ev_tst (ev_bin (ev_call (evo rfl) (by simp[lenD]:lenD [.tup ((List.range h).map fun _=>D.int (w:Int))]= .ok (.int (h:Int)))) rfl neK_same))) rfl) (ev_seqR (ev_ifT (ev_not (b:=false) (ev_tst (ev_call (evo (comp_on (c:=fun _=>D.int (w:Int)) (h:=fun _=>D.bl false) (l:=List.range h) (ev_seqT rfl) (by rw[List.length_range];omega) fun y _=>?_)) ?_))) (ev_ret rfl))))
  · refine ev_elt rfl (ev_and (ev_fn (evo rfl) is_whole_i) (ev_chn rfl rfl (leI_t (by omega)) rfl ?_))
    show R.ok (D.bl (decide ((w:Int) < (w:Int))))=_
    rw[decide_eq_false (by omega)]
  · obtain⟨k,rfl⟩:∃k,h=k+1:=⟨h - 1,by omega⟩
    rw[List.range_succ_eq_map,List.map_cons]
    show (match boolsOf (D.bl false::_) with |some bs=>R.ok (D.bl (bs.all id)) |none=> .bad)=_
    rw[←List.map_cons (f:=fun _=>D.bl false) (a:=0),bools_on (c:=fun _=>false)]
    rfl
theorem bad_way (o:Ok w h f) {xs:List D} {d:D} (hd:d∈[D.non,.tup ((List.range h).map fun _=>D.int (w:Int)),.tup ((List.range (h+1)).map fun _=>D.int 0),.lst xs]):F_number_of [pic w h f,d,.non]= .err "NoSeam" :=by
  simp only[List.mem_cons,List.not_mem_nil,or_false] at hd
  rcases hd with rfl |rfl |rfl |rfl
  · exact number_bad o rfl
  · exact number_bad o (wide_way o.h1 o.h2)
  · exact number_bad o (long_way (by omega))
  · exact number_bad o rfl
theorem no0 {d:D} (e:F_seam_at [pic w h f,d,.non]= .err "NoNumber"):F__law_no [.int 0,pic w h f,d]= .ok (.lst [.bl true,.bl false]):=
  have hk:subX "NoNumber" "NoNumber" =true:=by decide
  ev_rtE (ev_seqR (ev_try (c:= "NoNumber") (ev_ifT (ev_tst (ev_bin rfl rfl (by rw[eqK_i,decide_eq_true rfl]))) (ex_expr (ev_callKX (evc rfl (evo rfl)) rfl e))) (by decide) (ev_ret (ev_lst (evc (ev_instE rfl hk) (evo (ev_instE rfl hk)))))))
theorem no1 {d:D} (e:F_number_of [pic w h f,d,.non]= .err "NoSeam"):F__law_no [.int 1,pic w h f,d]= .ok (.lst [.bl false,.bl true]):=
  have hk:subX "NoSeam" "NoSeam" =true:=by decide
  ev_rtE (ev_seqR (ev_try (c:= "NoSeam") (ev_ifF (ev_tst (ev_bin rfl rfl (by rw[eqK_i,decide_eq_false (by decide)]))) (ex_expr (ev_callKX (evc rfl (evo rfl)) rfl e))) (by decide) (ev_ret (ev_lst (evc (ev_instE rfl hk) (evo (ev_instE rfl hk)))))))
end
end K20
namespace K20
open PySem PySem.Spec L2 Pu
section
variable {ns:List Int} {w h:Nat} {f M:Nat→Nat→Int} {ρ:Rho}
theorem dn_in {n k:Int} (h0:0≤n) (hk:k < 0) {t:Nat} (ht:t < dnN (n - 1) (-1) k):0≤n - 1+(t:Int)*k∧n - 1+(t:Int)*k < n:=by
  unfold dnN at ht
  by_cases h:n - 1 > -1
  · rw[if_pos h] at ht
    have h2:=(dn_div hk h).1
    have ht:(t:Int)≤(n - 1 - (-1) - 1) / (-k):=by omega
    have h3:=Int.ediv_mul_le (n - 1 - (-1) - 1) (b:= -k) (by omega)
    have h4:=Int.mul_le_mul_of_nonneg_right ht (show 0≤-k by omega)
    have h5:(t:Int)*(-k)= -((t:Int)*k):=Int.mul_neg ..
    have h6:0≤(t:Int)*(-k):=Int.mul_nonneg (by omega) (by omega)
    omega
  · rw[if_neg h] at ht;omega
theorem down_eq {n:Nat} (hn:n≤1000) {e0 e1 e2 e3 e4 e5 e7 e8 e9 e10:Option Ent} {L:List D} (hL:L.length=n):∃ks:List Int,(∀k∈ks,0≤k∧k < (n:Int))∧
    (fun ρ=>((consA (bin (callV lenD (consA (fun ρ=>getV ρ 6) (fun _=> .ok []))) (fun _=> .ok (.int 1)) subI) (consA (negV (fun _=> .ok (.int 1))) (consA (bin (negV (fun _=> .ok (.int 1))) (bin (callV lenD (consA (fun ρ=>getV ρ 6) (fun _=> .ok []))) (fun _=> .ok (.int 5)) divI) subI) (fun _=> .ok [])))) ρ).bind rngC) [e0,e1,e2,e3,e4,e5,vA (.lst L),e7,e8,e9,e10]= .ok (ks.map .int):=by
  have hlen:lenD [.lst L]= .ok (.int (n:Int)):=by simp[lenD,hL]
  have hd:(0:Int)≤(n:Int) / 5∧(n:Int) / 5≤n:=⟨by omega,by omega⟩
  refine⟨(List.range (dnN ((n:Int) - 1) (-1) (-1 - (n:Int) / 5))).map fun (t:Nat)=>(n:Int) - 1+(t:Int)*(-1 - (n:Int) / 5),fun k hk=>?_,?_⟩
  · obtain⟨t,ht,rfl⟩:=List.mem_map.mp hk
    exact dn_in (by omega) (by omega) (List.mem_range.mp ht)
  · have ea:(consA (bin (callV lenD (consA (fun ρ=>getV ρ 6) (fun _=> .ok []))) (fun _=> .ok (.int 1)) subI) (consA (negV (fun _=> .ok (.int 1))) (consA (bin (negV (fun _=> .ok (.int 1))) (bin (callV lenD (consA (fun ρ=>getV ρ 6) (fun _=> .ok []))) (fun _=> .ok (.int 5)) divI) subI) (fun _=> .ok [])))) [e0,e1,e2,e3,e4,e5,vA (.lst L),e7,e8,e9,e10]= .ok [.int ((n:Int) - 1),.int (-1),.int (-1 - (n:Int) / 5)]:=
      evc (ev_bin (ev_call (evo rfl) hlen) rfl rfl) (evc (ev_neg rfl) (evo (ev_bin (ev_neg rfl) (ev_bin (ev_call (evo rfl) hlen) rfl (ev_div (by decide))) rfl)))
    show R.bind _ rngC=_
    rw[ea,R.bind_ok]
    show (if _ then _ else _)=_
    rw[if_pos ⟨by omega,by omega,by omega,by omega,by omega,by omega⟩,List.map_map]
    rfl
theorem law_true (ns:List Int) (hns:ns.length≤63):F_law [.lst (ns.map .int)]= .ok (.bl true):=by
  have hn:ns.length≤1000000:=by omega
  obtain⟨w,h,f,e1,o,hw,hh⟩:=some44 (ns:=ns) hn
  obtain⟨M,e2,hM⟩:=marks_eq (ns:=ns) hn o
  have h1:=o.h1
  have w1:=o.w1
  have fm:=full_some o hM
  have fz:=full_none o
  have hwl:=wys_len4 (w:=w) (k:=h - 1) hw (by omega)
  have lz:(allP w h M0).length≤108:=by
    have:=congrArg List.length (tI_zer (w:=w) h1)
    simp only[List.length_map] at this
    omega
  have lm:(allP w h M).length≤108:=by
    have:=congrArg List.length (tI_all (w:=w) (M:=M) h1)
    simp only[List.length_map] at this
    have:=List.length_filter_le (frL w h M) (wys w (h - 1))
    omega
  have lD:∀{L:List (List Nat)},lenD [.lst (L.map smL)]= .ok (.int (L.length:Int)):=fun {L}=>by simp[lenD]
  obtain⟨d1,d2,d3⟩:=dr_eq (k:=80) (m:=((allP w h M0).length:Int)) hn (by omega) (by have:=zer_pos (w:=w) h1 w1;omega)
  obtain⟨n0,hn0⟩:=Int.eq_ofNat_of_zero_le d2
  rw[hn0] at d1 d3
  have hz:(allP w h M0)[n0]?=some (allP w h M0)[n0]:=List.getElem?_eq_getElem (by omega)
  generalize hl0:(allP w h M0)[n0]=l0 at hz
  obtain⟨s,rfl,q⟩:=(mem_fre h1).mp (List.mem_of_getElem? hz)
  refine ev_rtE (ev_seq (ev_asg (ev_fn (evc rfl (evc rfl (evc rfl (evo rfl)))) e1) rfl) ?_)
  refine ev_seq (ev_parS (len0 o rfl) (ev_call (evo rfl) len_pic)) ?_
  refine ev_seq (ev_asg (ev_fn (evc rfl (evc rfl (evo rfl))) e2) rfl) ?_
  refine ev_seq (ev_asg (ev_fn (evc rfl (evo rfl)) (ways_eq hw h1 hh)) rfl) ?_
  refine ev_seq (ev_asg (d:= .lst ((allP w h M).map smL)) ?_ rfl) ?_
  · rw[←tI_all h1,←fm_fil]
    refine comp_f (c:=tI) (l:=wys w (h - 1)) (ev_seqL rfl) (by omega) fun l hl=>?_
    obtain⟨t,qt,rfl⟩:=seams h1 l hl
    rw[frL_way h1 qt,tI_sm]
    exact ev_eltB rfl (ev_tst (ev_bin (ev_fn (evc rfl (evc rfl (evo rfl))) (signs_eq o.h2 qt)) rfl eqK_i)) rfl
  rw[tI_zer h1]
  refine ev_seq (ev_ifF (ev_orF (ev_tst (ev_bin (ev_callK (evo rfl) (evo rfl) (how_many_eq o fm)) (ev_call (evo rfl) lD) neK_same)) (ev_tst (ev_bin (ev_callK (evo rfl) rfl (how_many_eq o fz)) (ev_call (evo rfl) lD) neK_same))) rfl) ?_
  refine ev_seq (ev_asg (ev_fn (evc rfl (evc rfl (evo (ev_call (evo rfl) lD)))) d1) rfl) ?_
  refine ev_seq (ev_ifF (ev_orF (ev_tst (ev_bin (ev_callKX (evc rfl (evo rfl)) rfl (seam_at_eq o fz hz)) (ev_bin rfl rfl (ix_sm hz)) neK_sm)) (ev_tst (ev_bin (ev_callKX (evc rfl (evo (ev_bin rfl rfl (ix_sm hz)))) rfl (number_at o fz hz)) rfl neK_same))) rfl) ?_
  refine ev_seq (ρ':=[vA (.lst (ns.map .int)),vA (pic w h f),vA (.int (w:Int)),vA (.int (h:Int)),vA (pic w h M),vA (.lst ((allP w h M0).map smL)),vA (.lst ((allP w h M).map smL)),vA (.int (n0:Int)),none,none,none]) ?_ ?_
  · by_cases hc:cnt M h s 1=0
    · obtain⟨i,hi,en⟩:=number_some o fm (s:=s) ⟨q.sm,cnt_zero.mp hc⟩
      rw[←smL_s] at en
      refine ev_ifF (ev_tst (ev_bin (ev_callKX (evc rfl (evo (ev_bin rfl rfl (ix_sm hz)))) (evo rfl) en) (ev_ifVT (ev_tst (ev_bin (ev_bin rfl rfl (ix_sm hz)) rfl (in_sm.trans (by rw[decide_eq_true (List.mem_of_getElem? hi)])))) ?_) neK_same)) rfl
      unfold idxW
      show R.bind (R.ok (D.lst ((allP w h M).map smL))) _=_
      rw[R.bind_ok]
      show R.bind _ _=_
      rw[ev_bin rfl rfl (ix_sm hz),R.bind_ok]
      exact idx_sm (by omega) hi
    · have en:=number_none o fm q.sm hc
      rw[←smL_s] at en
      have nm:¬(List.range h).map s∈allP w h M:=fun z=>hc (cnt_zero.mpr ((pa_fre h1).mp ((mem_allP h1).mp z).2).ne)
      refine ev_ifF (ev_tst (ev_bin (ev_callKX (evc rfl (evo (ev_bin rfl rfl (ix_sm hz)))) (evo rfl) en) (ev_ifVF (ev_tst (ev_bin (ev_bin rfl rfl (ix_sm hz)) rfl (in_sm.trans (by rw[decide_eq_false nm])))) rfl) (Pu.neK_same rfl (by simp[dep])))) rfl
  obtain⟨ks,hk,ek⟩:=down_eq (n:=(allP w h M).length) (by omega) (e0:=vA (.lst (ns.map .int))) (e1:=vA (pic w h f)) (e2:=vA (.int (w:Int))) (e3:=vA (.int (h:Int))) (e4:=vA (pic w h M)) (e5:=vA (.lst ((allP w h M0).map smL))) (e7:=vA (.int (n0:Int))) (e8:=none) (e9:=none) (e10:=none) (L:=(allP w h M).map smL) (by simp)
  obtain⟨z8,el⟩:=nu_loop o hM (e0:=vA (.lst (ns.map .int))) (e2:=vA (.int (w:Int))) (e3:=vA (.int (h:Int))) (e5:=vA (.lst ((allP w h M0).map smL))) (e7:=vA (.int (n0:Int))) (e9:=none) (e10:=none) (ks:=ks) (e8:=none) hk
  refine ev_seq (ev_for ek el) ?_
  obtain⟨a1,a2,a3⟩:=dr_eq (k:=81) (m:=6) hn (by omega) (by omega)
  obtain⟨b1,b2,b3⟩:=dr_eq (k:=82) (m:=4) hn (by omega) (by omega)
  obtain⟨da,hda,eda⟩:=atI_int (xs:=[D.int (-1),.int ((allP w h M0).length:Int),.non,.bl true,.str "0",.tup [.int 0]]) a2 a3
  refine ev_seq (ev_asg (ev_bin (x:= .lst [D.int (-1),.int ((allP w h M0).length:Int),.non,.bl true,.str "0",.tup [.int 0]]) (ev_lst (evc (ev_neg rfl) (evc (ev_call (evo rfl) lD) (evc rfl (evc rfl (evc rfl (evo (ev_tup (evo rfl))))))))) (ev_fn (evc rfl (evc rfl (evo rfl))) a1) (ev_ixI eda)) rfl) ?_
  obtain⟨xs,ex⟩:∃xs,mulL (.lst [.int 0]) (.int (h:Int))= .ok (.lst xs):=by
    refine⟨(List.replicate (h:Int).toNat [D.int 0]).flatten,?_⟩
    show (if _ then _ else _)=_
    rw[if_pos ⟨by simp,by omega,by omega,by simp;omega⟩]
  obtain⟨db,hdb,edb⟩:=atI_int (xs:=[D.non,.tup ((List.range h).map fun _=>D.int (w:Int)),.tup ((List.range (h+1)).map fun _=>D.int 0),.lst xs]) b2 b3
  refine ev_seq (ev_asg (ev_bin (x:= .lst [D.non,.tup ((List.range h).map fun _=>D.int (w:Int)),.tup ((List.range (h+1)).map fun _=>D.int 0),.lst xs]) (ev_lst (evc rfl (evc (ev_bin (ev_tup (evo rfl)) rfl (mul_one o.h1 o.h2)) (evc (ev_bin (ev_tup (evo rfl)) (ev_bin rfl rfl (by rfl:addD (.int (h:Int)) (.int 1)= .ok (.int ((h+1:Nat):Int)))) (mul_one (by omega) (by omega))) (evo (ev_bin (ev_lst (evo rfl)) rfl ex)))))) (ev_fn (evc rfl (evc rfl (evo rfl))) b1) (ev_ixI edb)) rfl) ?_
  have n0':=no0 (odd_bad o hda)
  have n1':=no1 (bad_way o hdb)
  exact ev_ret (ev_and (ev_bin (ev_fn (evc rfl (evc rfl (evo rfl))) n0') (ev_lst (evc rfl (evo rfl))) (Pu.eqK_same rfl (by simp[dep,deps]))) (ev_bin (ev_fn (evc rfl (evc rfl (evo rfl))) n1') (ev_lst (evc rfl (evo rfl))) (Pu.eqK_same rfl (by simp[dep,deps]))))
end
end K20
namespace K20
open PySem PySem.Spec L2 Pu
open PyProof.Rows hiding St
theorem lcn {us:List Value} {n:Nat} (hl:us.length=n+1):∃a u,us=a::u∧u.length=n:=by
  cases us with
  |nil=>cases hl
  |cons a u=>exact⟨a,u,rfl,Nat.succ.inj hl⟩
theorem lk1 {F:FuncData} {ps:List Str} {us:List Value} (hl:us.length=1) (h:∀a0,bindArgs F ⟨[a0],[]⟩=pure (ps.zip [a0])):bindArgs F ⟨us,[]⟩=pure (ps.zip us):=by
  obtain⟨a0,u1,rfl,h1⟩:=lcn hl
  cases List.eq_nil_of_length_eq_zero h1
  exact h a0
theorem lk2 {F:FuncData} {ps:List Str} {us:List Value} (hl:us.length=2) (h:∀a0 a1,bindArgs F ⟨[a0,a1],[]⟩=pure (ps.zip [a0,a1])):bindArgs F ⟨us,[]⟩=pure (ps.zip us):=by
  obtain⟨a0,u1,rfl,h1⟩:=lcn hl
  obtain⟨a1,u2,rfl,h2⟩:=lcn h1
  cases List.eq_nil_of_length_eq_zero h2
  exact h a0 a1
theorem lk3 {F:FuncData} {ps:List Str} {us:List Value} (hl:us.length=3) (h:∀a0 a1 a2,bindArgs F ⟨[a0,a1,a2],[]⟩=pure (ps.zip [a0,a1,a2])):bindArgs F ⟨us,[]⟩=pure (ps.zip us):=by
  obtain⟨a0,u1,rfl,h1⟩:=lcn hl
  obtain⟨a1,u2,rfl,h2⟩:=lcn h1
  obtain⟨a2,u3,rfl,h3⟩:=lcn h2
  cases List.eq_nil_of_length_eq_zero h3
  exact h a0 a1 a2
theorem lk4 {F:FuncData} {ps:List Str} {us:List Value} (hl:us.length=4) (h:∀a0 a1 a2 a3,bindArgs F ⟨[a0,a1,a2,a3],[]⟩=pure (ps.zip [a0,a1,a2,a3])):bindArgs F ⟨us,[]⟩=pure (ps.zip us):=by
  obtain⟨a0,u1,rfl,h1⟩:=lcn hl
  obtain⟨a1,u2,rfl,h2⟩:=lcn h1
  obtain⟨a2,u3,rfl,h3⟩:=lcn h2
  obtain⟨a3,u4,rfl,h4⟩:=lcn h3
  cases List.eq_nil_of_length_eq_zero h4
  exact h a0 a1 a2 a3
noncomputable def top (i:Nat):Stmt:=PySem.Challenge.pw_seamhall_k20_ranks.main.body.getD i (.Pass ⟨0,0,0,0⟩)
noncomputable abbrev s__law_drawn:Stmt:=top 43
theorem sc__law_drawn:FnScope ["_law_script","_law_k","_law_many","_law_cell","_law_turn","_law_rest"] ["_law_script","_law_k","_law_many"] (defScope s__law_drawn):=⟨rfl,rfl,rfl,by decide +kernel,rfl,by decide +kernel,by decide +kernel⟩
noncomputable abbrev s__law_marks:Stmt:=top 46
theorem sc__law_marks:FnScope ["_law_script","_law_at","_law_picture_here","_law_rows","_law_signs_here","_law_y","_law_row","_law_here"] ["_law_script","_law_at","_law_picture_here"] (defScope s__law_marks):=⟨rfl,rfl,rfl,by decide +kernel,rfl,by decide +kernel,by decide +kernel⟩
noncomputable abbrev s_as_good:Stmt:=top 31
theorem sc_as_good:FnScope ["told","best_less","best_cost","alike"] ["told"] (defScope s_as_good):=⟨rfl,rfl,rfl,by decide +kernel,rfl,by decide +kernel,by decide +kernel⟩
noncomputable abbrev s_fare_of:Stmt:=top 28
theorem sc_fare_of:FnScope ["row","above","place"] ["row","above","place"] (defScope s_fare_of):=⟨rfl,rfl,rfl,by decide +kernel,rfl,by decide +kernel,by decide +kernel⟩
noncomputable abbrev s_near:Stmt:=top 27
theorem sc_near:FnScope ["place","wide"] ["place","wide"] (defScope s_near):=⟨rfl,rfl,rfl,by decide +kernel,rfl,by decide +kernel,by decide +kernel⟩
noncomputable abbrev s_onward:Stmt:=top 29
theorem sc_onward:FnScope ["beneath","row","x","told","place","fare"] ["beneath","row","x"] (defScope s_onward):=⟨rfl,rfl,rfl,by decide +kernel,rfl,by decide +kernel,by decide +kernel⟩
noncomputable abbrev s_swept:Stmt:=top 30
theorem sc_swept:FnScope ["table","marks","start","gather","rows","y","row","x","mark","told","lost"] ["table","marks","start","gather"] (defScope s_swept):=⟨rfl,rfl,rfl,by decide +kernel,rfl,by decide +kernel,by decide +kernel⟩
noncomputable abbrev s_best_counts:Stmt:=top 32
theorem sc_best_counts:FnScope ["table","marks"] ["table","marks"] (defScope s_best_counts):=⟨rfl,rfl,rfl,by decide +kernel,rfl,by decide +kernel,by decide +kernel⟩
noncomputable abbrev s_gone_freed:Stmt:=top 25
theorem sc_gone_freed:FnScope ["marks"] ["marks"] (defScope s_gone_freed):=⟨rfl,rfl,rfl,by decide +kernel,rfl,by decide +kernel,by decide +kernel⟩
noncomputable abbrev s_counts_down:Stmt:=top 37
theorem sc_counts_down:FnScope ["marks","costless","rows"] ["marks"] (defScope s_counts_down):=⟨rfl,rfl,rfl,by decide +kernel,rfl,by decide +kernel,by decide +kernel⟩
noncomputable abbrev s_all_free:Stmt:=top 23
theorem sc_all_free:FnScope ["picture"] ["picture"] (defScope s_all_free):=⟨rfl,rfl,rfl,by decide +kernel,rfl,by decide +kernel,by decide +kernel⟩
noncomputable abbrev s_is_whole:Stmt:=top 9
theorem sc_is_whole:FnScope ["thing"] ["thing"] (defScope s_is_whole):=⟨rfl,rfl,rfl,by decide +kernel,rfl,by decide +kernel,by decide +kernel⟩
noncomputable abbrev s_is_mark:Stmt:=top 20
theorem sc_is_mark:FnScope ["thing"] ["thing"] (defScope s_is_mark):=⟨rfl,rfl,rfl,by decide +kernel,rfl,by decide +kernel,by decide +kernel⟩
noncomputable abbrev s_is_marks_row:Stmt:=top 21
theorem sc_is_marks_row:FnScope ["thing","wide"] ["thing","wide"] (defScope s_is_marks_row):=⟨rfl,rfl,rfl,by decide +kernel,rfl,by decide +kernel,by decide +kernel⟩
noncomputable abbrev s_is_marks:Stmt:=top 22
theorem sc_is_marks:FnScope ["thing","picture"] ["thing","picture"] (defScope s_is_marks):=⟨rfl,rfl,rfl,by decide +kernel,rfl,by decide +kernel,by decide +kernel⟩
noncomputable abbrev s_full_marks:Stmt:=top 24
theorem sc_full_marks:FnScope ["thing","picture"] ["thing","picture"] (defScope s_full_marks):=⟨rfl,rfl,rfl,by decide +kernel,rfl,by decide +kernel,by decide +kernel⟩
noncomputable abbrev s_meets_kept:Stmt:=top 40
theorem sc_meets_kept:FnScope ["seam","marks"] ["seam","marks"] (defScope s_meets_kept):=⟨rfl,rfl,rfl,by decide +kernel,rfl,by decide +kernel,by decide +kernel⟩
noncomputable abbrev s_is_line:Stmt:=top 11
theorem sc_is_line:FnScope ["thing"] ["thing"] (defScope s_is_line):=⟨rfl,rfl,rfl,by decide +kernel,rfl,by decide +kernel,by decide +kernel⟩
noncomputable abbrev s_is_cell:Stmt:=top 10
theorem sc_is_cell:FnScope ["thing"] ["thing"] (defScope s_is_cell):=⟨rfl,rfl,rfl,by decide +kernel,rfl,by decide +kernel,by decide +kernel⟩
noncomputable abbrev s_is_row:Stmt:=top 12
theorem sc_is_row:FnScope ["thing"] ["thing"] (defScope s_is_row):=⟨rfl,rfl,rfl,by decide +kernel,rfl,by decide +kernel,by decide +kernel⟩
noncomputable abbrev s_is_picture:Stmt:=top 13
theorem sc_is_picture:FnScope ["thing"] ["thing"] (defScope s_is_picture):=⟨rfl,rfl,rfl,by decide +kernel,rfl,by decide +kernel,by decide +kernel⟩
noncomputable abbrev s_need_picture:Stmt:=top 14
theorem sc_need_picture:FnScope ["thing"] ["thing"] (defScope s_need_picture):=⟨rfl,rfl,rfl,by decide +kernel,rfl,by decide +kernel,by decide +kernel⟩
noncomputable abbrev s_is_way:Stmt:=top 26
theorem sc_is_way:FnScope ["thing","wide","high"] ["thing","wide","high"] (defScope s_is_way):=⟨rfl,rfl,rfl,by decide +kernel,rfl,by decide +kernel,by decide +kernel⟩
noncomputable abbrev s_size_of:Stmt:=top 15
theorem sc_size_of:FnScope ["picture"] ["picture"] (defScope s_size_of):=⟨rfl,rfl,rfl,by decide +kernel,rfl,by decide +kernel,by decide +kernel⟩
noncomputable abbrev s_is_seam:Stmt:=top 34
theorem sc_is_seam:FnScope ["thing","picture","wide","high"] ["thing","picture"] (defScope s_is_seam):=⟨rfl,rfl,rfl,by decide +kernel,rfl,by decide +kernel,by decide +kernel⟩
noncomputable abbrev s_need_seam:Stmt:=top 35
theorem sc_need_seam:FnScope ["thing","picture"] ["thing","picture"] (defScope s_need_seam):=⟨rfl,rfl,rfl,by decide +kernel,rfl,by decide +kernel,by decide +kernel⟩
noncomputable abbrev s_number_of:Stmt:=top 41
theorem sc_number_of:FnScope ["picture","seam","marks","marked","places","number","row","at"] ["picture","seam","marks"] (defScope s_number_of):=⟨rfl,rfl,rfl,by decide +kernel,rfl,by decide +kernel,by decide +kernel⟩
noncomputable abbrev s_seam_at:Stmt:=top 39
theorem sc_seam_at:FnScope ["picture","number","marks","counts","ahead","places","seam","row","at"] ["picture","number","marks"] (defScope s_seam_at):=⟨rfl,rfl,rfl,by decide +kernel,rfl,by decide +kernel,by decide +kernel⟩
noncomputable abbrev s__law_no:Stmt:=top 49
theorem sc__law_no:FnScope ["_law_way","_law_picture_here","_law_thing","e"] ["_law_way","_law_picture_here","_law_thing"] (defScope s__law_no):=⟨rfl,rfl,rfl,by decide +kernel,rfl,by decide +kernel,by decide +kernel⟩
noncomputable abbrev s__law_signs:Stmt:=top 48
theorem sc__law_signs:FnScope ["_law_tags","_law_seam","_law_sign"] ["_law_tags","_law_seam","_law_sign"] (defScope s__law_signs):=⟨rfl,rfl,rfl,by decide +kernel,rfl,by decide +kernel,by decide +kernel⟩
noncomputable abbrev s__law_picture:Stmt:=top 44
theorem sc__law_picture:FnScope ["_law_script","_law_at","_law_broad","_law_tall","_law_most","_law_rows","_law_y"] ["_law_script","_law_at","_law_broad","_law_tall"] (defScope s__law_picture):=⟨rfl,rfl,rfl,by decide +kernel,rfl,by decide +kernel,by decide +kernel⟩
noncomputable abbrev s__law_some:Stmt:=top 45
theorem sc__law_some:FnScope ["_law_script","_law_at","_law_broad","_law_tall"] ["_law_script","_law_at","_law_broad","_law_tall"] (defScope s__law_some):=⟨rfl,rfl,rfl,by decide +kernel,rfl,by decide +kernel,by decide +kernel⟩
noncomputable abbrev s__law_ways:Stmt:=top 47
theorem sc__law_ways:FnScope ["_law_broad","_law_tall","_law_found","_law_y","_law_more","_law_way"] ["_law_broad","_law_tall"] (defScope s__law_ways):=⟨rfl,rfl,rfl,by decide +kernel,rfl,by decide +kernel,by decide +kernel⟩
noncomputable abbrev s_how_many:Stmt:=top 38
theorem sc_how_many:FnScope ["picture","marks"] ["picture","marks"] (defScope s_how_many):=⟨rfl,rfl,rfl,by decide +kernel,rfl,by decide +kernel,by decide +kernel⟩
noncomputable abbrev s_law:Stmt:=top 50
theorem sc_law:FnScope ["_law_script","_law_picture_here","_law_broad","_law_tall","_law_tags","_law_ways_here","_law_some_here","_law_at","_law_number","_law_odd","_law_bad"] ["_law_script"] (defScope s_law):=⟨rfl,rfl,rfl,by decide +kernel,rfl,by decide +kernel,by decide +kernel⟩
theorem cs_lam_best_counts:FnScope ["x","told"] ["x","told"] (lamScope (lamE s_best_counts)):=⟨rfl,rfl,rfl,by decide +kernel,rfl,by decide +kernel,by decide +kernel⟩
structure Txt (K:PySem.W.Frag) (mg:Str→Option Value):Prop where
  x_FREE:∃t,mg "FREE" =some (.int 0 t)
  x_GONE:∃t,mg "GONE" =some (.int 2 t)
  x_KEPT:∃t,mg "KEPT" =some (.int 1 t)
  x_MOST_CELL:∃t,mg "MOST_CELL" =some (.int 99 t)
  x_MOST_LONG:∃t,mg "MOST_LONG" =some (.int 20 t)
  n_abs:mg "abs" =none
  n_all:mg "all" =none
  n_any:mg "any" =none
  n_bool:mg "bool" =none
  n_enumerate:mg "enumerate" =none
  n_int:mg "int" =none
  n_isinstance:mg "isinstance" =none
  n_len:mg "len" =none
  n_list:mg "list" =none
  n_max:mg "max" =none
  n_min:mg "min" =none
  n_range:mg "range" =none
  n_reversed:mg "reversed" =none
  n_sum:mg "sum" =none
  n_tuple:mg "tuple" =none
  n_zip:mg "zip" =none
  k_int:∀d:D,PySem.W.kitOne K (.type (tyD d)) (.type "int")=some (ans_int (tyD d))
  k_bool:∀d:D,PySem.W.kitOne K (.type (tyD d)) (.type "bool")=some (ans_bool (tyD d))
  k_tuple:∀d:D,PySem.W.kitOne K (.type (tyD d)) (.type "tuple")=some (ans_tuple (tyD d))
  k_list:∀d:D,PySem.W.kitOne K (.type (tyD d)) (.type "list")=some (ans_list (tyD d))
  g_NoNumber:∃C,XCl K mg "NoNumber" C
  g_NoSeam:∃C,XCl K mg "NoSeam" C
  t_SeamError:∃C,mg "SeamError" =some (.ref C)∧∀c C',subX c "SeamError" =true→PySem.W.nsIn K mainGlobals c=some (some (.ref C'))→PySem.W.exmOne K (.ref C') (.ref C)=some true
  i_NoNumber:∃C,mg "NoNumber" =some (.ref C)∧∀c C',subX c c=true→PySem.W.nsIn K mainGlobals c=some (some (.ref C'))→XIn K C'∧PySem.W.kitOne K (.ref C') (.ref C)=some (subX c "NoNumber")
  i_NoSeam:∃C,mg "NoSeam" =some (.ref C)∧∀c C',subX c c=true→PySem.W.nsIn K mainGlobals c=some (some (.ref C'))→XIn K C'∧PySem.W.kitOne K (.ref C') (.ref C)=some (subX c "NoSeam")
section
variable {P:Program} {w:World} {K:PySem.W.Frag} {mg:Str→Option Value} {base:Heap}
theorem bd__law_drawn {f:Addr} {cdv:Value} {A:Around} {outer:List PySem.Env} {s:Shared} {H:Hp} {E:XK} (T:Txt K mg)  (hr:Room 0 (A.deeper (envOfC "_law_drawn" (defScope s__law_drawn) s.heap.objs.size f cdv))):DSs (cxOf CX0 P w K mg base ["_law_script","_law_k","_law_many","_law_cell","_law_turn","_law_rest"] "_law_drawn" (defScope s__law_drawn) f cdv A outer s H E).nox (defBody s__law_drawn) g__law_drawn:=by
  exact (dsc (ds_set 3 sc__law_drawn.nd (de_bin od_mul de_int (dv 1))) (dsc (ds_if (dt_cmp (od_ne (room_u hr)) (dv 0) (de_lst dnl)) (dsc (ds_set 3 sc__law_drawn.nd (de_ix (dv 0) (de_bin od_mod (dv 1) (de_callB cd_len rfl T.n_len PySem.boot_len (dcs (dv 0) dnl))))) (dsc (ds_set 4 sc__law_drawn.nd (de_bin od_div (dv 1) (de_callB cd_len rfl T.n_len PySem.boot_len (dcs (dv 0) dnl)))) (dsc (ds_if (DW.dt (dw_and (dt_cmp od_ge (dv 3) (de_bin od_pow de_int de_int)) (dw_and1 (dt_cmp od_lt (dv 4) de_int)))) (dsc (ds_set 5 sc__law_drawn.nd (de_bin od_div (dv 3) (de_bin od_pow de_int de_int))) (dsc (ds_while 64 PassesOwn.never (DW.dt (dw_and (dt_cmp od_gt (dv 5) de_int) (dw_and1 (dt_cmp od_gt (dv 4) de_int)))) (dsc (ds_set 5 sc__law_drawn.nd (de_bin od_div (dv 5) de_int)) (dss_one (ds_set 4 sc__law_drawn.nd (de_bin od_sub (dv 4) de_int))))) (dss_one (ds_if (dt_cmp od_gt (dv 5) de_int) (dss_one (ds_ret (de_bin od_mod (de_bin od_mod (dv 5) de_int) (dv 2)))) dss_nil)))) dss_nil) (dss_one (ds_set 3 sc__law_drawn.nd (de_bin od_cat (dv 3) (de_bin od_mul de_int (de_bin od_div (dv 1) (de_callB cd_len rfl T.n_len PySem.boot_len (dcs (dv 0) dnl)))))))))) dss_nil) (dsc (ds_set 3 sc__law_drawn.nd (de_bin od_mod (de_bin od_cat (de_bin od_mul (de_bin od_mod (dv 3) de_int) de_int) (de_bin od_mul de_int (de_bin od_cat (dv 1) de_int))) de_int)) (dsc (ds_set 3 sc__law_drawn.nd (de_bin od_mod (de_bin od_cat (de_bin od_mul (dv 3) (dv 3)) (de_bin od_div (dv 3) de_int)) de_int)) (dss_one (ds_ret (de_bin od_mod (de_bin od_div (de_bin od_mod (de_bin od_cat (de_bin od_mul (dv 3) (dv 3)) (de_bin od_div (dv 3) de_int)) de_int) de_int) (dv 2))))))))
theorem ok__law_drawn {f:Addr} {fd:FuncData} (Fn:Fun K "_law_drawn" "_law_drawn" s__law_drawn f fd) (hmg:mg "_law_drawn" =some (.ref f)) (hb:Binds K fd ["_law_script","_law_k","_law_many"] []) (T:Txt K mg)  :FnD P w K mg base 1 "_law_drawn" 3 F__law_drawn:=
  fnD_of (k:=0) (g:=g__law_drawn) Fn hmg hb sc__law_drawn rfl rfl fun cdv A outer s H E hr=>bd__law_drawn T  hr
theorem il1 {X:Cx} {a:Int} {ja} {pa q}:DE X (.List [.Constant (.int a) ja pa] q) (lstV (consA (fun _=> .ok (.int a)) (fun _=> .ok []))):=de_lst (dcs de_int dnl)
theorem il5 {X:Cx} {a b c d e:Int} {ja jb jc jd je} {pa pb pc pd pe q}:DE X (.List [.Constant (.int a) ja pa,.Constant (.int b) jb pb,.Constant (.int c) jc pc,.Constant (.int d) jd pd,.Constant (.int e) je pe] q) (lstV (consA (fun _=> .ok (.int a)) (consA (fun _=> .ok (.int b)) (consA (fun _=> .ok (.int c)) (consA (fun _=> .ok (.int d)) (consA (fun _=> .ok (.int e)) (fun _=> .ok []))))))):=de_lst (dcs de_int (dcs de_int (dcs de_int (dcs de_int (dcs de_int dnl)))))
theorem bd__law_marks {f:Addr} {cdv:Value} {A:Around} {outer:List PySem.Env} {s:Shared} {H:Hp} {E:XK} (T:Txt K mg) (G__law_drawn:FnD P w K mg base 1 "_law_drawn" 3 F__law_drawn) (hr:Room 1 (A.deeper (envOfC "_law_marks" (defScope s__law_marks) s.heap.objs.size f cdv))):DSs (cxOf CX0 P w K mg base ["_law_script","_law_at","_law_picture_here","_law_rows","_law_signs_here","_law_y","_law_row","_law_here"] "_law_marks" (defScope s__law_marks) f cdv A outer s H E).nox (defBody s__law_marks) g__law_marks:=by
  refine (dsc (ds_newl 3 sc__law_marks.nd dnl) (dsc ?_ ?_))
  · refine ds_set 4 ?_ ?_ (hi:=?_) (hx:=?_) (hs:=?_) (hf:=?_)
    · exact sc__law_marks.nd
    · refine de_ix ?_ ?_
      · refine de_lst ?_
        refine dcs ?_ ?_
        · exact il5
        refine dcs ?_ ?_
        · exact il5
        refine dcs ?_ ?_
        · exact il5
        refine dcs ?_ ?_
        · exact il1
        exact dnl
      · exact (de_fn G__law_drawn hr (by decide) (dcs (dv 0) (dcs (dv 1) (dcs de_int dnl))))
    · rfl
    · first |exact Or.inl rfl |exact Or.inr rfl
    · rfl
    · first |exact Or.inl rfl |exact Or.inr rfl
  · exact (dsc (ds_for PassesOwn.never rfl (di_enum rfl T.n_enumerate (dcs (dv 2) dnl)) (dga_two 5 6 rfl sc__law_marks.nd) (dsc (ds_set 7 sc__law_marks.nd (de_bin od_addD (de_bin od_addD (dv 1) de_int) (de_bin od_mulD (de_callB cd_len rfl T.n_len PySem.boot_len (dcs (dv 6) dnl)) (dv 5)))) (dss_one (ds_app 3 (de_callT cd_tuple rfl T.n_tuple boot_tuple (dcs (de_comp ["_law_x"] [7,0,4] rfl (by kernel_rfl) (by kernel_rfl) (di_range1 rfl T.n_range (dcs (de_callB cd_len rfl T.n_len PySem.boot_len (dcs (dv 6) dnl)) dnl)) (keeps_set (by decide)) (fun _ _ _ _ nd=>dg_name 0 nd) (fun _ _ _ _=>dts_nil) (fun _ _ _ _=>(de_ix (dv 3) (de_fn G__law_drawn hr (by decide) (dcs (dv 2) (dcs (de_bin od_addD (dv 1) (dv 0)) (dcs (de_callB cd_len rfl T.n_len PySem.boot_len (dcs (dv 3) dnl)) dnl))))))) dnl)))))) (dss_one (ds_ret (de_callT cd_tuple rfl T.n_tuple boot_tuple (dcs (dv 3) dnl)))))
theorem ok__law_marks {f:Addr} {fd:FuncData} (Fn:Fun K "_law_marks" "_law_marks" s__law_marks f fd) (hmg:mg "_law_marks" =some (.ref f)) (hb:Binds K fd ["_law_script","_law_at","_law_picture_here"] []) (T:Txt K mg) (G__law_drawn:FnD P w K mg base 1 "_law_drawn" 3 F__law_drawn):FnD P w K mg base 2 "_law_marks" 3 F__law_marks:=
  fnD_of (k:=1) (g:=g__law_marks) Fn hmg hb sc__law_marks rfl rfl fun cdv A outer s H E hr=>bd__law_marks T G__law_drawn hr
theorem bd_as_good {f:Addr} {cdv:Value} {A:Around} {outer:List PySem.Env} {s:Shared} {H:Hp} {E:XK} (T:Txt K mg)  (hr:Room 0 (A.deeper (envOfC "as_good" (defScope s_as_good) s.heap.objs.size f cdv))):DSs (cxOf CX0 P w K mg base ["told","best_less","best_cost","alike"] "as_good" (defScope s_as_good) f cdv A outer s H E).nox (defBody s_as_good) g_as_good:=by
  exact (dsc (ds_if (dt_not (dt_lst (dv 0))) (dss_one (ds_ret (de_lst dnl))) dss_nil) (dsc (ds_asg2 1 2 rfl sc_as_good.nd (de_slice (de_callB (cd_minU rfl (room_2 hr)) rfl T.n_min boot_min (dcs (dv 0) dnl)) dpo_none (dpo_some de_int))) (dsc (ds_comp 3 sc_as_good.nd ["less","cost","many"] [2,1] rfl (by kernel_rfl) (by kernel_rfl) (di_seq (dv 0)) (keeps_tup (keeps_cons (keeps_set (by decide)) (keeps_cons (keeps_set (by decide)) (keeps_cons (keeps_set (by decide)) keeps_nil)))) (fun _ _ _ _ nd=>dg_tup rfl (dgs_cons (dg_name 0 nd) (dgs_cons (dg_name 1 nd) (dgs_cons (dg_name 2 nd) dgs_nil)))) (fun _ _ _ _=>(dts_one (DW.dt (dw_and (dt_cmp (od_eq (room_u hr)) (dv 0) (dv 4)) (dw_and1 (dt_cmp (od_eq (room_u hr)) (dv 1) (dv 3))))))) (fun _ _ _ _=>(dv 2))) (dss_one (ds_ret (de_lst (dcs (de_tup (dcs (dv 1) (dcs (dv 2) (dcs (de_callB (cd_sum rfl) rfl T.n_sum boot_sum (dcs (dv 3) dnl)) dnl)))) dnl)))))))
theorem ok_as_good {f:Addr} {fd:FuncData} (Fn:Fun K "as_good" "as_good" s_as_good f fd) (hmg:mg "as_good" =some (.ref f)) (hb:Binds K fd ["told"] []) (T:Txt K mg)  :FnD P w K mg base 1 "as_good" 1 F_as_good:=
  fnD_of (k:=0) (g:=g_as_good) Fn hmg hb sc_as_good rfl rfl fun cdv A outer s H E hr=>bd_as_good T  hr
theorem bd_fare_of {f:Addr} {cdv:Value} {A:Around} {outer:List PySem.Env} {s:Shared} {H:Hp} {E:XK} (T:Txt K mg)  (hr:Room 0 (A.deeper (envOfC "fare_of" (defScope s_fare_of) s.heap.objs.size f cdv))):DSs (cxOf CX0 P w K mg base ["row","above","place"] "fare_of" (defScope s_fare_of) f cdv A outer s H E).nox (defBody s_fare_of) g_fare_of:=by
  exact (dss_one (ds_ret (de_ix (de_ix (dv 0) (dv 2)) (de_bin od_addD (de_bin od_sub (dv 1) (dv 2)) de_int))))
theorem ok_fare_of {f:Addr} {fd:FuncData} (Fn:Fun K "fare_of" "fare_of" s_fare_of f fd) (hmg:mg "fare_of" =some (.ref f)) (hb:Binds K fd ["row","above","place"] []) (T:Txt K mg)  :FnD P w K mg base 1 "fare_of" 3 F_fare_of:=
  fnD_of (k:=0) (g:=g_fare_of) Fn hmg hb sc_fare_of rfl rfl fun cdv A outer s H E hr=>bd_fare_of T  hr
theorem bd_near {f:Addr} {cdv:Value} {A:Around} {outer:List PySem.Env} {s:Shared} {H:Hp} {E:XK} (T:Txt K mg)  (hr:Room 0 (A.deeper (envOfC "near" (defScope s_near) s.heap.objs.size f cdv))):DSs (cxOf CX0 P w K mg base ["place","wide"] "near" (defScope s_near) f cdv A outer s H E).nox (defBody s_near) g_near:=by
  exact (dss_one (ds_ret (de_lstR2 rfl rfl T.n_list rfl T.n_range (dcs (de_callB (cd_max rfl) rfl T.n_max boot_max (dcs (de_bin od_sub (dv 0) de_int) (dcs de_int dnl))) (dcs (de_callB (cd_min rfl) rfl T.n_min boot_min (dcs (de_bin od_addD (dv 0) de_int) (dcs (dv 1) dnl))) dnl)))))
theorem ok_near {f:Addr} {fd:FuncData} (Fn:Fun K "near" "near" s_near f fd) (hmg:mg "near" =some (.ref f)) (hb:Binds K fd ["place","wide"] []) (T:Txt K mg)  :FnD P w K mg base 1 "near" 2 F_near:=
  fnD_of (k:=0) (g:=g_near) Fn hmg hb sc_near rfl rfl fun cdv A outer s H E hr=>bd_near T  hr
theorem bd_onward {f:Addr} {cdv:Value} {A:Around} {outer:List PySem.Env} {s:Shared} {H:Hp} {E:XK} (T:Txt K mg) (G_fare_of:FnD P w K mg base 1 "fare_of" 3 F_fare_of) (G_near:FnD P w K mg base 1 "near" 2 F_near) (hr:Room 1 (A.deeper (envOfC "onward" (defScope s_onward) s.heap.objs.size f cdv))):DSs (cxOf CX0 P w K mg base ["beneath","row","x","told","place","fare"] "onward" (defScope s_onward) f cdv A outer s H E).nox (defBody s_onward) g_onward:=by
  exact (dsc (ds_newl 3 sc_onward.nd dnl) (dsc (ds_for PassesOwn.never rfl (di_seq (de_fn G_near hr (by decide) (dcs (dv 2) (dcs (de_callB cd_len rfl T.n_len PySem.boot_len (dcs (dv 0) dnl)) dnl)))) (dga_name 4 sc_onward.nd) (dsc (ds_set 5 sc_onward.nd (de_fn G_fare_of hr (by decide) (dcs (dv 1) (dcs (dv 2) (dcs (dv 4) dnl))))) (dss_one (ds_augL 3 sc_onward.nd (de_comp ["less","cost","rest"] [5] rfl (by kernel_rfl) (by kernel_rfl) (di_seq (de_ix (dv 0) (dv 4))) (keeps_tup (keeps_cons (keeps_set (by decide)) (keeps_cons (keeps_set (by decide)) (keeps_cons (keeps_set (by decide)) keeps_nil)))) (fun _ _ _ _ nd=>dg_tup rfl (dgs_cons (dg_name 0 nd) (dgs_cons (dg_name 1 nd) (dgs_cons (dg_name 2 nd) dgs_nil)))) (fun _ _ _ _=>dts_nil) (fun _ _ _ _=>(de_tup (dcs (dv 0) (dcs (de_bin od_addD (dv 1) (dv 3)) (dcs (dv 2) dnl)))))))))) (dss_one (ds_ret (dv 3)))))
theorem ok_onward {f:Addr} {fd:FuncData} (Fn:Fun K "onward" "onward" s_onward f fd) (hmg:mg "onward" =some (.ref f)) (hb:Binds K fd ["beneath","row","x"] []) (T:Txt K mg) (G_fare_of:FnD P w K mg base 1 "fare_of" 3 F_fare_of) (G_near:FnD P w K mg base 1 "near" 2 F_near):FnD P w K mg base 2 "onward" 3 F_onward:=
  fnD_of (k:=1) (g:=g_onward) Fn hmg hb sc_onward rfl rfl fun cdv A outer s H E hr=>bd_onward T G_fare_of G_near hr
theorem bd_swept {f:Addr} {cdv:Value} {A:Around} {outer:List PySem.Env} {s:Shared} {H:Hp} {E:XK} (T:Txt K mg) (G_onward:FnD P w K mg base 2 "onward" 3 F_onward) {aG:Nat} {GG:List D→R D} (hG:CalO P w K mg base 2 GG 2 aG H) (hr:Room 2 (A.deeper (envOfC "swept" (defScope s_swept) s.heap.objs.size f cdv))):DSs (cxOf CX0 P w K mg base ["table","marks","start","gather","rows","y","row","x","mark","told","lost"] "swept" (defScope s_swept) f cdv A outer s H E).nox (defBody s_swept) (g_swept aG GG):=by
  obtain⟨t_GONE,c_GONE⟩:=T.x_GONE
  obtain⟨t_KEPT,c_KEPT⟩:=T.x_KEPT
  exact (dsc (ds_newl 4 sc_swept.nd dnl) (dsc (ds_for PassesOwn.never rfl (di_revR rfl T.n_reversed rfl T.n_range (dcs (de_callB cd_len rfl T.n_len PySem.boot_len (dcs (dv 1) dnl)) dnl)) (dga_name 5 sc_swept.nd) (dsc (ds_newl 6 sc_swept.nd dnl) (dsc (ds_for PassesOwn.never rfl (di_enum rfl T.n_enumerate (dcs (de_ix (dv 1) (dv 5)) dnl)) (dga_two 7 8 rfl sc_swept.nd) (dsc (ds_if (dt_cmp (od_eq (room_u hr)) (dv 8) (de_gint rfl c_KEPT)) (dss_one (ds_set 9 sc_swept.nd (de_lst dnl))) (dss_one (ds_if (dt_not (dt_lst (dv 4))) (dss_one (ds_set 9 sc_swept.nd (de_callO 3 hG hr (by decide) (dcs (dv 7) (dcs (de_lst (dcs (de_tup (dcs de_int (dcs de_int (dcs (dv 2) dnl)))) dnl)) dnl))))) (dss_one (ds_set 9 sc_swept.nd (de_callO 3 hG hr (by decide) (dcs (dv 7) (dcs (de_fn G_onward hr (by decide) (dcs (de_ixO 4 (de_neg de_int)) (dcs (de_ix (dv 0) (de_bin od_addD (dv 5) de_int)) (dcs (dv 7) dnl)))) dnl)))))))) (dsc (ds_set 10 sc_swept.nd (de_if (dt_cmp (od_eq (room_u hr)) (dv 8) (de_gint rfl c_GONE)) de_int de_int)) (dss_one (ds_app 6 (de_comp ["less","cost","rest"] [10] rfl (by kernel_rfl) (by kernel_rfl) (di_seq (dv 9)) (keeps_tup (keeps_cons (keeps_set (by decide)) (keeps_cons (keeps_set (by decide)) (keeps_cons (keeps_set (by decide)) keeps_nil)))) (fun _ _ _ _ nd=>dg_tup rfl (dgs_cons (dg_name 0 nd) (dgs_cons (dg_name 1 nd) (dgs_cons (dg_name 2 nd) dgs_nil)))) (fun _ _ _ _=>dts_nil) (fun _ _ _ _=>(de_tup (dcs (de_bin od_sub (dv 0) (dv 3)) (dcs (dv 1) (dcs (dv 2) dnl))))))))))) (dss_one (ds_appM 4 6 (by decide)))))) (dss_one (ds_ret (de_revL (dv 4))))))
theorem ok_swept {f:Addr} {fd:FuncData} (Fn:Fun K "swept" "swept" s_swept f fd) (hmg:mg "swept" =some (.ref f)) (hb:Binds K fd ["table","marks","start","gather"] []) (T:Txt K mg) (G_onward:FnD P w K mg base 2 "onward" 3 F_onward):FnS P w K mg base 3 "swept" 2 3 2 F_swept:=
  ⟨f,fd,["table","marks","start","gather"],fnS (k:=2) (m:=7) (g:=g_swept) Fn sc_swept rfl rfl fun cdv A outer s H E a G hr hG=>bd_swept T G_onward hG hr,hmg,Fn.kp,hb⟩
theorem bd_lam_best_counts {f:Addr} {cdv:Value} {A:Around} {outer:List PySem.Env} {s:Shared} {H:Hp} {E:XK} (T:Txt K mg) (G_as_good:FnD P w K mg base 1 "as_good" 1 F_as_good) (hr:Room 1 (A.deeper (envOfC "best_counts.<locals>.<lambda>" (lamScope (lamE s_best_counts)) s.heap.objs.size f cdv))):DE (cxOf CX0 P w K mg base ["x","told"] "best_counts.<locals>.<lambda>" (lamScope (lamE s_best_counts)) f cdv A outer s H E).nox (lamBody (lamE s_best_counts)) (callV (noErr F_as_good 1) (consA (fun ρ=>getV ρ 1) (fun _=> .ok []))):=by
  exact (de_fn G_as_good hr (by decide) (dcs (dv 1) dnl))
theorem cal_lam_best_counts (T:Txt K mg) (G_as_good:FnD P w K mg base 1 "as_good" 1 F_as_good) (a:Addr) (H:Hp) (fh:LamAt H a "<lambda>" "best_counts.<locals>.<lambda>" (lamArgs (lamE s_best_counts)) (lamBody (lamE s_best_counts)) (lamScope (lamE s_best_counts)) []):CalO P w K mg base 2 GG_lam_best_counts 2 a H:=
  cal_lam (k:=1) (m:=0) cs_lam_best_counts rfl rfl (fun _ _ _ us hl=>lk2 hl fun _ _=>rfl) (fun cdv A outer s H E f hr=>bd_lam_best_counts T G_as_good hr) fh
theorem bd_best_counts {f cc TP:Addr} {A:Around} {outer:List PySem.Env} {s:Shared} {H:Hp} {E:XK} (T:Txt K mg) (G_swept:FnS P w K mg base 3 "swept" 2 3 2 F_swept) (G_as_good:FnD P w K mg base 1 "as_good" 1 F_as_good) (hB:NestB base mg cc TP) (hT:Tb [(TP,"best_counts.<locals>.<lambda>")] H) (hr:Room 3 (A.deeper (envOfC "best_counts" (defScope s_best_counts) s.heap.objs.size f (.ref cc)))):DSs (cxOf CX0 P w K mg base ["table","marks"] "best_counts" (defScope s_best_counts) f (.ref cc) A outer s H E).nox (defBody s_best_counts) g_best_counts:=by
  obtain⟨fS,fdS,psS,Sw,hm,hk,hb⟩:=G_swept
  exact dss_lam hB hT rfl Sw (hr.mono (by decide)) hm hk hb (cal_lam_best_counts T G_as_good) (dv 0) (dv 1) de_int rfl rfl rfl
theorem ok_best_counts {f cc TP:Addr} {fd:FuncData} (Fn:Fun K "best_counts" "best_counts" s_best_counts f fd) (hmg:mg "best_counts" =some (.ref f)) (T:Txt K mg) (G_swept:FnS P w K mg base 3 "swept" 2 3 2 F_swept) (G_as_good:FnD P w K mg base 1 "as_good" 1 F_as_good) (hB:NestB base mg cc TP) (hci:CodeIs K mg "best_counts" cc):FnTE P w K mg base 4 "best_counts" 2 F_best_counts fd ["table","marks"] [(TP,"best_counts.<locals>.<lambda>")]:=by
  refine⟨f,fnT (k:=3) (m:=0) (g:=g_best_counts) Fn sc_best_counts rfl rfl fun cdv A outer s H E hcd hr hT=>?_,hmg,Fn.kp⟩
  have e:fd.code= .ref cc:=by
    obtain⟨oc,od,kV,doc,pm,an,cdv',ct,osl,e1,lk,_⟩:=Fn.ex
    exact hci f oc od fd osl hmg lk
  cases hcd.symm.trans e
  exact bd_best_counts T G_swept G_as_good hB hT hr
theorem bd_gone_freed {f:Addr} {cdv:Value} {A:Around} {outer:List PySem.Env} {s:Shared} {H:Hp} {E:XK} (T:Txt K mg)  (hr:Room 0 (A.deeper (envOfC "gone_freed" (defScope s_gone_freed) s.heap.objs.size f cdv))):DSs (cxOf CX0 P w K mg base ["marks"] "gone_freed" (defScope s_gone_freed) f cdv A outer s H E).nox (defBody s_gone_freed) g_gone_freed:=by
  obtain⟨t_FREE,c_FREE⟩:=T.x_FREE
  obtain⟨t_KEPT,c_KEPT⟩:=T.x_KEPT
  exact (dss_one (ds_ret (de_callT cd_tuple rfl T.n_tuple boot_tuple (dcs (de_comp ["row"] [] rfl (by kernel_rfl) (by kernel_rfl) (di_seq (dv 0)) (keeps_set (by decide)) (fun _ _ _ _ nd=>dg_name 0 nd) (fun _ _ _ _=>dts_nil) (fun _ _ _ _=>(de_callT cd_tuple rfl T.n_tuple boot_tuple (dcs (de_comp ["mark"] [] rfl (by kernel_rfl) (by kernel_rfl) (di_seq (dv 0)) (keeps_set (by decide)) (fun _ _ _ _ nd=>dg_name 0 nd) (fun _ _ _ _=>dts_nil) (fun _ _ _ _=>(de_if (dt_cmp (od_eq (room_u hr)) (dv 0) (de_gint rfl c_KEPT)) (de_gint rfl c_KEPT) (de_gint rfl c_FREE)))) dnl)))) dnl))))
theorem ok_gone_freed {f:Addr} {fd:FuncData} (Fn:Fun K "gone_freed" "gone_freed" s_gone_freed f fd) (hmg:mg "gone_freed" =some (.ref f)) (hb:Binds K fd ["marks"] []) (T:Txt K mg)  :FnD P w K mg base 1 "gone_freed" 1 F_gone_freed:=
  fnD_of (k:=0) (g:=g_gone_freed) Fn hmg hb sc_gone_freed rfl rfl fun cdv A outer s H E hr=>bd_gone_freed T  hr
theorem bd_counts_down {f:Addr} {cdv:Value} {A:Around} {outer:List PySem.Env} {s:Shared} {H:Hp} {E:XK} (T:Txt K mg) {tsv:List (Addr×Str)} {fd_best_counts:FuncData} (G_best_counts:FnTE P w K mg base 4 "best_counts" 2 F_best_counts fd_best_counts ["table","marks"] tsv) (b_best_counts:Binds K fd_best_counts ["table","marks"] []) (G_gone_freed:FnD P w K mg base 1 "gone_freed" 1 F_gone_freed) (hT:Tb tsv H) (hr:Room 4 (A.deeper (envOfC "counts_down" (defScope s_counts_down) s.heap.objs.size f cdv))):DSs (cxOf CX0 P w K mg base ["marks","costless","rows"] "counts_down" (defScope s_counts_down) f cdv A outer s H E).nox (defBody s_counts_down) g_counts_down:=by
  exact (dsc (ds_comp 1 sc_counts_down.nd ["row"] [] rfl (by kernel_rfl) (by kernel_rfl) (di_seq (dv 0)) (keeps_set (by decide)) (fun _ _ _ _ nd=>dg_name 0 nd) (fun _ _ _ _=>dts_nil) (fun _ _ _ _=>(de_comp ["mark"] [] rfl (by kernel_rfl) (by kernel_rfl) (di_seq (dv 0)) (keeps_set (by decide)) (fun _ _ _ _ nd=>dg_name 0 nd) (fun _ _ _ _=>dts_nil) (fun _ _ _ _=>(de_tup (dcs de_int (dcs de_int (dcs de_int dnl)))))))) (dsc (ds_set 2 sc_counts_down.nd (de_fnT G_best_counts hT hr (by decide) b_best_counts (dcs (dv 1) (dcs (de_fn G_gone_freed hr (by decide) (dcs (dv 0) dnl)) dnl)))) (dss_one (ds_ret (de_comp ["row"] [] rfl (by kernel_rfl) (by kernel_rfl) (di_seq (dv 2)) (keeps_set (by decide)) (fun _ _ _ _ nd=>dg_name 0 nd) (fun _ _ _ _=>dts_nil) (fun _ _ _ _=>(de_comp ["told"] [] rfl (by kernel_rfl) (by kernel_rfl) (di_seq (dv 0)) (keeps_set (by decide)) (fun _ _ _ _ nd=>dg_name 0 nd) (fun _ _ _ _=>dts_nil) (fun _ _ _ _=>(de_callB (cd_sum rfl) rfl T.n_sum boot_sum (dcs (de_comp ["less","cost","many"] [] rfl (by kernel_rfl) (by kernel_rfl) (di_seq (dv 0)) (keeps_tup (keeps_cons (keeps_set (by decide)) (keeps_cons (keeps_set (by decide)) (keeps_cons (keeps_set (by decide)) keeps_nil)))) (fun _ _ _ _ nd=>dg_tup rfl (dgs_cons (dg_name 0 nd) (dgs_cons (dg_name 1 nd) (dgs_cons (dg_name 2 nd) dgs_nil)))) (fun _ _ _ _=>dts_nil) (fun _ _ _ _=>(dv 2))) dnl))))))))))
theorem ok_counts_down {f:Addr} {fd:FuncData} (Fn:Fun K "counts_down" "counts_down" s_counts_down f fd) (hmg:mg "counts_down" =some (.ref f)) (T:Txt K mg) {tsv:List (Addr×Str)} {fd_best_counts:FuncData} (G_best_counts:FnTE P w K mg base 4 "best_counts" 2 F_best_counts fd_best_counts ["table","marks"] tsv) (b_best_counts:Binds K fd_best_counts ["table","marks"] []) (G_gone_freed:FnD P w K mg base 1 "gone_freed" 1 F_gone_freed):FnTE P w K mg base 5 "counts_down" 1 F_counts_down fd ["marks"] tsv:=
  ⟨f,fnT (k:=4) (m:=2) (g:=g_counts_down) Fn sc_counts_down rfl rfl fun cdv A outer s H E _ hr hT=>bd_counts_down T G_best_counts b_best_counts G_gone_freed hT hr,hmg,Fn.kp⟩
theorem bd_all_free {f:Addr} {cdv:Value} {A:Around} {outer:List PySem.Env} {s:Shared} {H:Hp} {E:XK} (T:Txt K mg)  (hr:Room 0 (A.deeper (envOfC "all_free" (defScope s_all_free) s.heap.objs.size f cdv))):DSs (cxOf CX0 P w K mg base ["picture"] "all_free" (defScope s_all_free) f cdv A outer s H E).nox (defBody s_all_free) g_all_free:=by
  obtain⟨t_FREE,c_FREE⟩:=T.x_FREE
  exact (dss_one (ds_ret (de_bin od_mulD (de_tup (dcs (de_bin od_mulD (de_tup (dcs (de_gint rfl c_FREE) dnl)) (de_callB cd_len rfl T.n_len PySem.boot_len (dcs (de_ix (dv 0) de_int) dnl))) dnl)) (de_callB cd_len rfl T.n_len PySem.boot_len (dcs (dv 0) dnl)))))
theorem ok_all_free {f:Addr} {fd:FuncData} (Fn:Fun K "all_free" "all_free" s_all_free f fd) (hmg:mg "all_free" =some (.ref f)) (hb:Binds K fd ["picture"] []) (T:Txt K mg)  :FnD P w K mg base 1 "all_free" 1 F_all_free:=
  fnD_of (k:=0) (g:=g_all_free) Fn hmg hb sc_all_free rfl rfl fun cdv A outer s H E hr=>bd_all_free T  hr
theorem bd_is_whole {f:Addr} {cdv:Value} {A:Around} {outer:List PySem.Env} {s:Shared} {H:Hp} {E:XK} (T:Txt K mg)  (hr:Room 0 (A.deeper (envOfC "is_whole" (defScope s_is_whole) s.heap.objs.size f cdv))):DSs (cxOf CX0 P w K mg base ["thing"] "is_whole" (defScope s_is_whole) f cdv A outer s H E).nox (defBody s_is_whole) g_is_whole:=by
  exact (dss_one (ds_ret (de_and (de_inst (ans:=ans_int) T.k_int (dv 0) rfl T.n_isinstance boot_isinstance rfl T.n_int boot_int) (de_one (de_not (de_inst (ans:=ans_bool) T.k_bool (dv 0) rfl T.n_isinstance boot_isinstance rfl T.n_bool boot_bool))))))
theorem ok_is_whole {f:Addr} {fd:FuncData} (Fn:Fun K "is_whole" "is_whole" s_is_whole f fd) (hmg:mg "is_whole" =some (.ref f)) (hb:Binds K fd ["thing"] []) (T:Txt K mg)  :FnD P w K mg base 1 "is_whole" 1 F_is_whole:=
  fnD_of (k:=0) (g:=g_is_whole) Fn hmg hb sc_is_whole rfl rfl fun cdv A outer s H E hr=>bd_is_whole T  hr
theorem bd_is_mark {f:Addr} {cdv:Value} {A:Around} {outer:List PySem.Env} {s:Shared} {H:Hp} {E:XK} (T:Txt K mg) (G_is_whole:FnD P w K mg base 1 "is_whole" 1 F_is_whole) (hr:Room 1 (A.deeper (envOfC "is_mark" (defScope s_is_mark) s.heap.objs.size f cdv))):DSs (cxOf CX0 P w K mg base ["thing"] "is_mark" (defScope s_is_mark) f cdv A outer s H E).nox (defBody s_is_mark) g_is_mark:=by
  obtain⟨t_FREE,c_FREE⟩:=T.x_FREE
  obtain⟨t_GONE,c_GONE⟩:=T.x_GONE
  exact (dss_one (ds_ret (de_and (de_fn G_is_whole hr (by decide) (dcs (dv 0) dnl)) (de_one (de_chain od_le od_le (de_gint rfl c_FREE) (dv 0) (de_gint rfl c_GONE))))))
theorem ok_is_mark {f:Addr} {fd:FuncData} (Fn:Fun K "is_mark" "is_mark" s_is_mark f fd) (hmg:mg "is_mark" =some (.ref f)) (hb:Binds K fd ["thing"] []) (T:Txt K mg) (G_is_whole:FnD P w K mg base 1 "is_whole" 1 F_is_whole):FnD P w K mg base 2 "is_mark" 1 F_is_mark:=
  fnD_of (k:=1) (g:=g_is_mark) Fn hmg hb sc_is_mark rfl rfl fun cdv A outer s H E hr=>bd_is_mark T G_is_whole hr
theorem bd_is_marks_row {f:Addr} {cdv:Value} {A:Around} {outer:List PySem.Env} {s:Shared} {H:Hp} {E:XK} (T:Txt K mg) (G_is_mark:FnD P w K mg base 2 "is_mark" 1 F_is_mark) (hr:Room 2 (A.deeper (envOfC "is_marks_row" (defScope s_is_marks_row) s.heap.objs.size f cdv))):DSs (cxOf CX0 P w K mg base ["thing","wide"] "is_marks_row" (defScope s_is_marks_row) f cdv A outer s H E).nox (defBody s_is_marks_row) g_is_marks_row:=by
  exact (dss_one (ds_ret (de_and (de_inst (ans:=ans_tuple) T.k_tuple (dv 0) rfl T.n_isinstance boot_isinstance rfl T.n_tuple boot_tuple) (de_and (de_cmp (od_eq (room_u hr)) (de_callB cd_len rfl T.n_len PySem.boot_len (dcs (dv 0) dnl)) (dv 1)) (de_one (de_callB (cd_all rfl) rfl T.n_all boot_all (dcs (de_comp ["mark"] [] rfl (by kernel_rfl) (by kernel_rfl) (di_seq (dv 0)) (keeps_set (by decide)) (fun _ _ _ _ nd=>dg_name 0 nd) (fun _ _ _ _=>dts_nil) (fun _ _ _ _=>(de_fn G_is_mark hr (by decide) (dcs (dv 0) dnl)))) dnl)))))))
theorem ok_is_marks_row {f:Addr} {fd:FuncData} (Fn:Fun K "is_marks_row" "is_marks_row" s_is_marks_row f fd) (hmg:mg "is_marks_row" =some (.ref f)) (hb:Binds K fd ["thing","wide"] []) (T:Txt K mg) (G_is_mark:FnD P w K mg base 2 "is_mark" 1 F_is_mark):FnD P w K mg base 3 "is_marks_row" 2 F_is_marks_row:=
  fnD_of (k:=2) (g:=g_is_marks_row) Fn hmg hb sc_is_marks_row rfl rfl fun cdv A outer s H E hr=>bd_is_marks_row T G_is_mark hr
theorem bd_is_marks {f:Addr} {cdv:Value} {A:Around} {outer:List PySem.Env} {s:Shared} {H:Hp} {E:XK} (T:Txt K mg) (G_is_marks_row:FnD P w K mg base 3 "is_marks_row" 2 F_is_marks_row) (hr:Room 3 (A.deeper (envOfC "is_marks" (defScope s_is_marks) s.heap.objs.size f cdv))):DSs (cxOf CX0 P w K mg base ["thing","picture"] "is_marks" (defScope s_is_marks) f cdv A outer s H E).nox (defBody s_is_marks) g_is_marks:=by
  exact (dsc (ds_if (DW.dt (dw_or (dt_not (dt_val (de_inst (ans:=ans_tuple) T.k_tuple (dv 0) rfl T.n_isinstance boot_isinstance rfl T.n_tuple boot_tuple))) (dw_or1 (dt_cmp (od_ne (room_u hr)) (de_callB cd_len rfl T.n_len PySem.boot_len (dcs (dv 0) dnl)) (de_callB cd_len rfl T.n_len PySem.boot_len (dcs (dv 1) dnl)))))) (dss_one (ds_ret de_bl)) dss_nil) (dss_one (ds_ret (de_callB (cd_all rfl) rfl T.n_all boot_all (dcs (de_comp ["row"] [1] rfl (by kernel_rfl) (by kernel_rfl) (di_seq (dv 0)) (keeps_set (by decide)) (fun _ _ _ _ nd=>dg_name 0 nd) (fun _ _ _ _=>dts_nil) (fun _ _ _ _=>(de_fn G_is_marks_row hr (by decide) (dcs (dv 0) (dcs (de_callB cd_len rfl T.n_len PySem.boot_len (dcs (de_ix (dv 1) de_int) dnl)) dnl))))) dnl)))))
theorem ok_is_marks {f:Addr} {fd:FuncData} (Fn:Fun K "is_marks" "is_marks" s_is_marks f fd) (hmg:mg "is_marks" =some (.ref f)) (hb:Binds K fd ["thing","picture"] []) (T:Txt K mg) (G_is_marks_row:FnD P w K mg base 3 "is_marks_row" 2 F_is_marks_row):FnD P w K mg base 4 "is_marks" 2 F_is_marks:=
  fnD_of (k:=3) (g:=g_is_marks) Fn hmg hb sc_is_marks rfl rfl fun cdv A outer s H E hr=>bd_is_marks T G_is_marks_row hr
theorem bd_full_marks {f:Addr} {cdv:Value} {A:Around} {outer:List PySem.Env} {s:Shared} {H:Hp} {E:XK} (T:Txt K mg) (G_all_free:FnD P w K mg base 1 "all_free" 1 F_all_free) (G_is_marks:FnD P w K mg base 4 "is_marks" 2 F_is_marks) (hr:Room 4 (A.deeper (envOfC "full_marks" (defScope s_full_marks) s.heap.objs.size f cdv))):DSs (cxOf CX0 P w K mg base ["thing","picture"] "full_marks" (defScope s_full_marks) f cdv A outer s H E).nox (defBody s_full_marks) g_full_marks:=by
  exact (dsc (ds_if (dt_cmp od_is (dv 0) de_non) (dss_one (ds_ret (de_fn G_all_free hr (by decide) (dcs (dv 1) dnl)))) dss_nil) (dsc (ds_if (dt_not (dt_val (de_fn G_is_marks hr (by decide) (dcs (dv 0) (dcs (dv 1) dnl))))) (dss_one ds_never) dss_nil) (dss_one (ds_ret (dv 0)))))
theorem ok_full_marks {f:Addr} {fd:FuncData} (Fn:Fun K "full_marks" "full_marks" s_full_marks f fd) (hmg:mg "full_marks" =some (.ref f)) (hb:Binds K fd ["thing","picture"] []) (T:Txt K mg) (G_all_free:FnD P w K mg base 1 "all_free" 1 F_all_free) (G_is_marks:FnD P w K mg base 4 "is_marks" 2 F_is_marks):FnD P w K mg base 5 "full_marks" 2 F_full_marks:=
  fnD_of (k:=4) (g:=g_full_marks) Fn hmg hb sc_full_marks rfl rfl fun cdv A outer s H E hr=>bd_full_marks T G_all_free G_is_marks hr
theorem bd_meets_kept {f:Addr} {cdv:Value} {A:Around} {outer:List PySem.Env} {s:Shared} {H:Hp} {E:XK} (T:Txt K mg)  (hr:Room 0 (A.deeper (envOfC "meets_kept" (defScope s_meets_kept) s.heap.objs.size f cdv))):DSs (cxOf CX0 P w K mg base ["seam","marks"] "meets_kept" (defScope s_meets_kept) f cdv A outer s H E).nox (defBody s_meets_kept) g_meets_kept:=by
  obtain⟨t_KEPT,c_KEPT⟩:=T.x_KEPT
  exact (dss_one (ds_ret (de_callB (cd_any rfl) rfl T.n_any boot_any (dcs (de_comp ["row","place"] [] rfl (by kernel_rfl) (by kernel_rfl) (di_zip2 rfl T.n_zip (dcs (dv 1) (dcs (dv 0) dnl))) (keeps_tup (keeps_cons (keeps_set (by decide)) (keeps_cons (keeps_set (by decide)) keeps_nil))) (fun _ _ _ _ nd=>dg_tup rfl (dgs_cons (dg_name 0 nd) (dgs_cons (dg_name 1 nd) dgs_nil))) (fun _ _ _ _=>dts_nil) (fun _ _ _ _=>(de_cmp (od_eq (room_u hr)) (de_ix (dv 0) (dv 1)) (de_gint rfl c_KEPT)))) dnl))))
theorem ok_meets_kept {f:Addr} {fd:FuncData} (Fn:Fun K "meets_kept" "meets_kept" s_meets_kept f fd) (hmg:mg "meets_kept" =some (.ref f)) (hb:Binds K fd ["seam","marks"] []) (T:Txt K mg)  :FnD P w K mg base 1 "meets_kept" 2 F_meets_kept:=
  fnD_of (k:=0) (g:=g_meets_kept) Fn hmg hb sc_meets_kept rfl rfl fun cdv A outer s H E hr=>bd_meets_kept T  hr
theorem bd_is_line {f:Addr} {cdv:Value} {A:Around} {outer:List PySem.Env} {s:Shared} {H:Hp} {E:XK} (T:Txt K mg)  (hr:Room 0 (A.deeper (envOfC "is_line" (defScope s_is_line) s.heap.objs.size f cdv))):DSs (cxOf CX0 P w K mg base ["thing"] "is_line" (defScope s_is_line) f cdv A outer s H E).nox (defBody s_is_line) g_is_line:=by
  obtain⟨t_MOST_LONG,c_MOST_LONG⟩:=T.x_MOST_LONG
  exact (dss_one (ds_ret (de_and (de_inst (ans:=ans_tuple) T.k_tuple (dv 0) rfl T.n_isinstance boot_isinstance rfl T.n_tuple boot_tuple) (de_one (de_chain od_le od_le de_int (de_callB cd_len rfl T.n_len PySem.boot_len (dcs (dv 0) dnl)) (de_gint rfl c_MOST_LONG))))))
theorem ok_is_line {f:Addr} {fd:FuncData} (Fn:Fun K "is_line" "is_line" s_is_line f fd) (hmg:mg "is_line" =some (.ref f)) (hb:Binds K fd ["thing"] []) (T:Txt K mg)  :FnD P w K mg base 1 "is_line" 1 F_is_line:=
  fnD_of (k:=0) (g:=g_is_line) Fn hmg hb sc_is_line rfl rfl fun cdv A outer s H E hr=>bd_is_line T  hr
theorem bd_is_cell {f:Addr} {cdv:Value} {A:Around} {outer:List PySem.Env} {s:Shared} {H:Hp} {E:XK} (T:Txt K mg) (G_is_whole:FnD P w K mg base 1 "is_whole" 1 F_is_whole) (hr:Room 1 (A.deeper (envOfC "is_cell" (defScope s_is_cell) s.heap.objs.size f cdv))):DSs (cxOf CX0 P w K mg base ["thing"] "is_cell" (defScope s_is_cell) f cdv A outer s H E).nox (defBody s_is_cell) g_is_cell:=by
  obtain⟨t_MOST_CELL,c_MOST_CELL⟩:=T.x_MOST_CELL
  exact (dss_one (ds_ret (de_and (de_fn G_is_whole hr (by decide) (dcs (dv 0) dnl)) (de_one (de_chain od_le od_le de_int (dv 0) (de_gint rfl c_MOST_CELL))))))
theorem ok_is_cell {f:Addr} {fd:FuncData} (Fn:Fun K "is_cell" "is_cell" s_is_cell f fd) (hmg:mg "is_cell" =some (.ref f)) (hb:Binds K fd ["thing"] []) (T:Txt K mg) (G_is_whole:FnD P w K mg base 1 "is_whole" 1 F_is_whole):FnD P w K mg base 2 "is_cell" 1 F_is_cell:=
  fnD_of (k:=1) (g:=g_is_cell) Fn hmg hb sc_is_cell rfl rfl fun cdv A outer s H E hr=>bd_is_cell T G_is_whole hr
theorem bd_is_row {f:Addr} {cdv:Value} {A:Around} {outer:List PySem.Env} {s:Shared} {H:Hp} {E:XK} (T:Txt K mg) (G_is_cell:FnD P w K mg base 2 "is_cell" 1 F_is_cell) (G_is_line:FnD P w K mg base 1 "is_line" 1 F_is_line) (hr:Room 2 (A.deeper (envOfC "is_row" (defScope s_is_row) s.heap.objs.size f cdv))):DSs (cxOf CX0 P w K mg base ["thing"] "is_row" (defScope s_is_row) f cdv A outer s H E).nox (defBody s_is_row) g_is_row:=by
  exact (dss_one (ds_ret (de_and (de_fn G_is_line hr (by decide) (dcs (dv 0) dnl)) (de_one (de_callB (cd_all rfl) rfl T.n_all boot_all (dcs (de_comp ["cell"] [] rfl (by kernel_rfl) (by kernel_rfl) (di_seq (dv 0)) (keeps_set (by decide)) (fun _ _ _ _ nd=>dg_name 0 nd) (fun _ _ _ _=>dts_nil) (fun _ _ _ _=>(de_fn G_is_cell hr (by decide) (dcs (dv 0) dnl)))) dnl))))))
theorem ok_is_row {f:Addr} {fd:FuncData} (Fn:Fun K "is_row" "is_row" s_is_row f fd) (hmg:mg "is_row" =some (.ref f)) (hb:Binds K fd ["thing"] []) (T:Txt K mg) (G_is_cell:FnD P w K mg base 2 "is_cell" 1 F_is_cell) (G_is_line:FnD P w K mg base 1 "is_line" 1 F_is_line):FnD P w K mg base 3 "is_row" 1 F_is_row:=
  fnD_of (k:=2) (g:=g_is_row) Fn hmg hb sc_is_row rfl rfl fun cdv A outer s H E hr=>bd_is_row T G_is_cell G_is_line hr
theorem bd_is_picture {f:Addr} {cdv:Value} {A:Around} {outer:List PySem.Env} {s:Shared} {H:Hp} {E:XK} (T:Txt K mg) (G_is_line:FnD P w K mg base 1 "is_line" 1 F_is_line) (G_is_row:FnD P w K mg base 3 "is_row" 1 F_is_row) (hr:Room 3 (A.deeper (envOfC "is_picture" (defScope s_is_picture) s.heap.objs.size f cdv))):DSs (cxOf CX0 P w K mg base ["thing"] "is_picture" (defScope s_is_picture) f cdv A outer s H E).nox (defBody s_is_picture) g_is_picture:=by
  exact (dsc (ds_if (DW.dt (dw_or (dt_not (dt_val (de_fn G_is_line hr (by decide) (dcs (dv 0) dnl)))) (dw_or1 (dt_not (dt_val (de_callB (cd_all rfl) rfl T.n_all boot_all (dcs (de_comp ["row"] [] rfl (by kernel_rfl) (by kernel_rfl) (di_seq (dv 0)) (keeps_set (by decide)) (fun _ _ _ _ nd=>dg_name 0 nd) (fun _ _ _ _=>dts_nil) (fun _ _ _ _=>(de_fn G_is_row hr (by decide) (dcs (dv 0) dnl)))) dnl))))))) (dss_one (ds_ret de_bl)) dss_nil) (dss_one (ds_ret (de_callB (cd_all rfl) rfl T.n_all boot_all (dcs (de_comp ["row"] [0] rfl (by kernel_rfl) (by kernel_rfl) (di_seq (dv 0)) (keeps_set (by decide)) (fun _ _ _ _ nd=>dg_name 0 nd) (fun _ _ _ _=>dts_nil) (fun _ _ _ _=>(de_cmp (od_eq (room_u hr)) (de_callB cd_len rfl T.n_len PySem.boot_len (dcs (dv 0) dnl)) (de_callB cd_len rfl T.n_len PySem.boot_len (dcs (de_ix (dv 1) de_int) dnl))))) dnl)))))
theorem ok_is_picture {f:Addr} {fd:FuncData} (Fn:Fun K "is_picture" "is_picture" s_is_picture f fd) (hmg:mg "is_picture" =some (.ref f)) (hb:Binds K fd ["thing"] []) (T:Txt K mg) (G_is_line:FnD P w K mg base 1 "is_line" 1 F_is_line) (G_is_row:FnD P w K mg base 3 "is_row" 1 F_is_row):FnD P w K mg base 4 "is_picture" 1 F_is_picture:=
  fnD_of (k:=3) (g:=g_is_picture) Fn hmg hb sc_is_picture rfl rfl fun cdv A outer s H E hr=>bd_is_picture T G_is_line G_is_row hr
theorem bd_need_picture {f:Addr} {cdv:Value} {A:Around} {outer:List PySem.Env} {s:Shared} {H:Hp} {E:XK} (T:Txt K mg) (G_is_picture:FnD P w K mg base 4 "is_picture" 1 F_is_picture) (hr:Room 4 (A.deeper (envOfC "need_picture" (defScope s_need_picture) s.heap.objs.size f cdv))):DSs (cxOf CX0 P w K mg base ["thing"] "need_picture" (defScope s_need_picture) f cdv A outer s H E).nox (defBody s_need_picture) g_need_picture:=by
  exact (dss_one (ds_if (dt_not (dt_val (de_fn G_is_picture hr (by decide) (dcs (dv 0) dnl)))) (dss_one ds_never) dss_nil))
theorem ok_need_picture {f:Addr} {fd:FuncData} (Fn:Fun K "need_picture" "need_picture" s_need_picture f fd) (hmg:mg "need_picture" =some (.ref f)) (hb:Binds K fd ["thing"] []) (T:Txt K mg) (G_is_picture:FnD P w K mg base 4 "is_picture" 1 F_is_picture):FnD P w K mg base 5 "need_picture" 1 F_need_picture:=
  fnD_of (k:=4) (g:=g_need_picture) Fn hmg hb sc_need_picture rfl rfl fun cdv A outer s H E hr=>bd_need_picture T G_is_picture hr
theorem bd_is_way {f:Addr} {cdv:Value} {A:Around} {outer:List PySem.Env} {s:Shared} {H:Hp} {E:XK} (T:Txt K mg) (G_is_whole:FnD P w K mg base 1 "is_whole" 1 F_is_whole) (hr:Room 1 (A.deeper (envOfC "is_way" (defScope s_is_way) s.heap.objs.size f cdv))):DSs (cxOf CX0 P w K mg base ["thing","wide","high"] "is_way" (defScope s_is_way) f cdv A outer s H E).nox (defBody s_is_way) g_is_way:=by
  exact (dsc (ds_if (DW.dt (dw_or (dt_not (dt_val (de_inst (ans:=ans_tuple) T.k_tuple (dv 0) rfl T.n_isinstance boot_isinstance rfl T.n_tuple boot_tuple))) (dw_or1 (dt_cmp (od_ne (room_u hr)) (de_callB cd_len rfl T.n_len PySem.boot_len (dcs (dv 0) dnl)) (dv 2))))) (dss_one (ds_ret de_bl)) dss_nil) (dsc (ds_if (dt_not (dt_val (de_callB (cd_all rfl) rfl T.n_all boot_all (dcs (de_comp ["place"] [1] rfl (by kernel_rfl) (by kernel_rfl) (di_seq (dv 0)) (keeps_set (by decide)) (fun _ _ _ _ nd=>dg_name 0 nd) (fun _ _ _ _=>dts_nil) (fun _ _ _ _=>(de_and (de_fn G_is_whole hr (by decide) (dcs (dv 0) dnl)) (de_one (de_chain od_le od_lt de_int (dv 0) (dv 1)))))) dnl)))) (dss_one (ds_ret de_bl)) dss_nil) (dss_one (ds_ret (de_callB (cd_all rfl) rfl T.n_all boot_all (dcs (de_comp ["y"] [0] rfl (by kernel_rfl) (by kernel_rfl) (di_range2 rfl T.n_range (dcs de_int (dcs (dv 2) dnl))) (keeps_set (by decide)) (fun _ _ _ _ nd=>dg_name 0 nd) (fun _ _ _ _=>dts_nil) (fun _ _ _ _=>(de_cmp od_le (de_callB cd_abs rfl T.n_abs boot_abs (dcs (de_bin od_sub (de_ix (dv 1) (dv 0)) (de_ix (dv 1) (de_bin od_sub (dv 0) de_int))) dnl)) de_int))) dnl))))))
theorem ok_is_way {f:Addr} {fd:FuncData} (Fn:Fun K "is_way" "is_way" s_is_way f fd) (hmg:mg "is_way" =some (.ref f)) (hb:Binds K fd ["thing","wide","high"] []) (T:Txt K mg) (G_is_whole:FnD P w K mg base 1 "is_whole" 1 F_is_whole):FnD P w K mg base 2 "is_way" 3 F_is_way:=
  fnD_of (k:=1) (g:=g_is_way) Fn hmg hb sc_is_way rfl rfl fun cdv A outer s H E hr=>bd_is_way T G_is_whole hr
theorem bd_size_of {f:Addr} {cdv:Value} {A:Around} {outer:List PySem.Env} {s:Shared} {H:Hp} {E:XK} (T:Txt K mg) (G_need_picture:FnD P w K mg base 5 "need_picture" 1 F_need_picture) (hr:Room 5 (A.deeper (envOfC "size_of" (defScope s_size_of) s.heap.objs.size f cdv))):DSs (cxOf CX0 P w K mg base ["picture"] "size_of" (defScope s_size_of) f cdv A outer s H E).nox (defBody s_size_of) g_size_of:=by
  exact (dsc (ds_expr (de_fn G_need_picture hr (by decide) (dcs (dv 0) dnl))) (dss_one (ds_ret (de_tup (dcs (de_callB cd_len rfl T.n_len PySem.boot_len (dcs (de_ix (dv 0) de_int) dnl)) (dcs (de_callB cd_len rfl T.n_len PySem.boot_len (dcs (dv 0) dnl)) dnl))))))
theorem ok_size_of {f:Addr} {fd:FuncData} (Fn:Fun K "size_of" "size_of" s_size_of f fd) (hmg:mg "size_of" =some (.ref f)) (hb:Binds K fd ["picture"] []) (T:Txt K mg) (G_need_picture:FnD P w K mg base 5 "need_picture" 1 F_need_picture):FnD P w K mg base 6 "size_of" 1 F_size_of:=
  fnD_of (k:=5) (g:=g_size_of) Fn hmg hb sc_size_of rfl rfl fun cdv A outer s H E hr=>bd_size_of T G_need_picture hr
theorem bd_is_seam {f:Addr} {cdv:Value} {A:Around} {outer:List PySem.Env} {s:Shared} {H:Hp} {E:XK} (T:Txt K mg) (G_is_way:FnD P w K mg base 2 "is_way" 3 F_is_way) (G_size_of:FnD P w K mg base 6 "size_of" 1 F_size_of) (hr:Room 6 (A.deeper (envOfC "is_seam" (defScope s_is_seam) s.heap.objs.size f cdv))):DSs (cxOf CX0 P w K mg base ["thing","picture","wide","high"] "is_seam" (defScope s_is_seam) f cdv A outer s H E).nox (defBody s_is_seam) g_is_seam:=by
  exact (dsc (ds_asg2 2 3 rfl sc_is_seam.nd (de_fn G_size_of hr (by decide) (dcs (dv 1) dnl))) (dss_one (ds_ret (de_fn G_is_way hr (by decide) (dcs (dv 0) (dcs (dv 2) (dcs (dv 3) dnl)))))))
theorem ok_is_seam {f:Addr} {fd:FuncData} (Fn:Fun K "is_seam" "is_seam" s_is_seam f fd) (hmg:mg "is_seam" =some (.ref f)) (hb:Binds K fd ["thing","picture"] []) (T:Txt K mg) (G_is_way:FnD P w K mg base 2 "is_way" 3 F_is_way) (G_size_of:FnD P w K mg base 6 "size_of" 1 F_size_of):FnD P w K mg base 7 "is_seam" 2 F_is_seam:=
  fnD_of (k:=6) (g:=g_is_seam) Fn hmg hb sc_is_seam rfl rfl fun cdv A outer s H E hr=>bd_is_seam T G_is_way G_size_of hr
theorem bd_need_seam {f:Addr} {cdv:Value} {A:Around} {outer:List PySem.Env} {s:Shared} {H:Hp} {E:XK} (T:Txt K mg) {tsv:List (Addr×Str)} (G_is_seam:FnD P w K mg base 7 "is_seam" 2 F_is_seam) (hT:Tb tsv H) (hr:Room 7 (A.deeper (envOfC "need_seam" (defScope s_need_seam) s.heap.objs.size f cdv))):DSs (cxOf (CX1 P w) P w K mg base ["thing","picture"] "need_seam" (defScope s_need_seam) f cdv A outer s H E) (defBody s_need_seam) g_need_seam:=by
  obtain⟨C_NoSeam,g_NoSeam⟩:=T.g_NoSeam
  exact (dss_one (ds_if (dt_not (dt_val (de_fn G_is_seam hr (by decide) (dcs (dv 0) (dcs (dv 1) dnl))))) (dss_one (ds_raise rfl g_NoSeam (dcs de_str dnl) (fun _=>⟨_,rfl,by decide⟩))) dss_nil))
theorem ok_need_seam {f:Addr} {fd:FuncData} (Fn:Fun K "need_seam" "need_seam" s_need_seam f fd) (hmg:mg "need_seam" =some (.ref f)) (T:Txt K mg) {tsv:List (Addr×Str)} (G_is_seam:FnD P w K mg base 7 "is_seam" 2 F_is_seam):FnTX P w K mg base 8 "need_seam" 2 F_need_seam fd ["thing","picture"] tsv:=
  ⟨f,fnXT (k:=7) (m:=0) (g:=g_need_seam) Fn sc_need_seam rfl rfl fun cdv A outer s H E hr hT=>bd_need_seam T G_is_seam hT hr,hmg,Fn.kp⟩
theorem bd_number_of {f:Addr} {cdv:Value} {A:Around} {outer:List PySem.Env} {s:Shared} {H:Hp} {E:XK} (T:Txt K mg) {tsv:List (Addr×Str)} {fd_counts_down:FuncData} (G_counts_down:FnTE P w K mg base 5 "counts_down" 1 F_counts_down fd_counts_down ["marks"] tsv) (b_counts_down:Binds K fd_counts_down ["marks"] []) (G_full_marks:FnD P w K mg base 5 "full_marks" 2 F_full_marks) (G_meets_kept:FnD P w K mg base 1 "meets_kept" 2 F_meets_kept) (G_near:FnD P w K mg base 1 "near" 2 F_near) (G_need_picture:FnD P w K mg base 5 "need_picture" 1 F_need_picture) {fd_need_seam:FuncData} (G_need_seam:FnTX P w K mg base 8 "need_seam" 2 F_need_seam fd_need_seam ["thing","picture"] tsv) (b_need_seam:Binds K fd_need_seam ["thing","picture"] []) (hT:Tb tsv H) (hr:Room 8 (A.deeper (envOfC "number_of" (defScope s_number_of) s.heap.objs.size f cdv))):DSs (cxOf (CX1 P w) P w K mg base ["picture","seam","marks","marked","places","number","row","at"] "number_of" (defScope s_number_of) f cdv A outer s H E) (defBody s_number_of) g_number_of:=by
  exact (dsc (ds_expr (de_fn G_need_picture hr (by decide) (dcs (dv 0) dnl))) (dsc (ds_set 3 sc_number_of.nd (de_fn G_full_marks hr (by decide) (dcs (dv 2) (dcs (dv 0) dnl)))) (dsc (ds_expr (de_fnXD Sel.nil G_need_seam hT hr (by decide) (kb_of b_need_seam) (dcs (dv 1) (dcs (dv 0) dnl)))) (dsc (ds_if (dt_val (de_fn G_meets_kept hr (by decide) (dcs (dv 1) (dcs (dv 3) dnl)))) (dss_one (ds_ret de_non)) dss_nil) (dsc (ds_set 4 sc_number_of.nd (de_lstR1 rfl rfl T.n_list rfl T.n_range (dcs (de_callB cd_len rfl T.n_len PySem.boot_len (dcs (de_ix (dv 0) de_int) dnl)) dnl))) (dsc (ds_set 5 sc_number_of.nd de_int) (dsc (ds_for PassesOwn.leaving rfl (di_zip2 rfl T.n_zip (dcs (de_fnT G_counts_down hT hr (by decide) b_counts_down (dcs (dv 3) dnl)) (dcs (dv 1) dnl))) (dga_two 6 7 rfl sc_number_of.nd) (dsc (ds_aug 5 sc_number_of.nd (de_callB (cd_sum rfl) rfl T.n_sum boot_sum (dcs (de_comp ["place"] [7,6] rfl (by kernel_rfl) (by kernel_rfl) (di_seq (dv 4)) (keeps_set (by decide)) (fun _ _ _ _ nd=>dg_name 0 nd) (fun _ _ _ _=>(dts_one (dt_cmp od_lt (dv 0) (dv 1)))) (fun _ _ _ _=>(de_ix (dv 2) (dv 0)))) dnl))) (dss_one (ds_set 4 sc_number_of.nd (de_fn G_near hr (by decide) (dcs (dv 7) (dcs (de_callB cd_len rfl T.n_len PySem.boot_len (dcs (dv 6) dnl)) dnl))))))) (dss_one (ds_ret (dv 5))))))))))
theorem ok_number_of {f:Addr} {fd:FuncData} (Fn:Fun K "number_of" "number_of" s_number_of f fd) (hmg:mg "number_of" =some (.ref f)) (T:Txt K mg) {tsv:List (Addr×Str)} {fd_counts_down:FuncData} (G_counts_down:FnTE P w K mg base 5 "counts_down" 1 F_counts_down fd_counts_down ["marks"] tsv) (b_counts_down:Binds K fd_counts_down ["marks"] []) (G_full_marks:FnD P w K mg base 5 "full_marks" 2 F_full_marks) (G_meets_kept:FnD P w K mg base 1 "meets_kept" 2 F_meets_kept) (G_near:FnD P w K mg base 1 "near" 2 F_near) (G_need_picture:FnD P w K mg base 5 "need_picture" 1 F_need_picture) {fd_need_seam:FuncData} (G_need_seam:FnTX P w K mg base 8 "need_seam" 2 F_need_seam fd_need_seam ["thing","picture"] tsv) (b_need_seam:Binds K fd_need_seam ["thing","picture"] []):FnTX P w K mg base 9 "number_of" 3 F_number_of fd ["picture","seam","marks"] tsv:=
  ⟨f,fnXT (k:=8) (m:=5) (g:=g_number_of) Fn sc_number_of rfl rfl fun cdv A outer s H E hr hT=>bd_number_of T G_counts_down b_counts_down G_full_marks G_meets_kept G_near G_need_picture G_need_seam b_need_seam hT hr,hmg,Fn.kp⟩
theorem bd_seam_at {f:Addr} {cdv:Value} {A:Around} {outer:List PySem.Env} {s:Shared} {H:Hp} {E:XK} (T:Txt K mg) {tsv:List (Addr×Str)} {fd_counts_down:FuncData} (G_counts_down:FnTE P w K mg base 5 "counts_down" 1 F_counts_down fd_counts_down ["marks"] tsv) (b_counts_down:Binds K fd_counts_down ["marks"] []) (G_full_marks:FnD P w K mg base 5 "full_marks" 2 F_full_marks) (G_is_whole:FnD P w K mg base 1 "is_whole" 1 F_is_whole) (G_near:FnD P w K mg base 1 "near" 2 F_near) (G_need_picture:FnD P w K mg base 5 "need_picture" 1 F_need_picture) (hT:Tb tsv H) (hr:Room 5 (A.deeper (envOfC "seam_at" (defScope s_seam_at) s.heap.objs.size f cdv))):DSs (cxOf (CX1 P w) P w K mg base ["picture","number","marks","counts","ahead","places","seam","row","at"] "seam_at" (defScope s_seam_at) f cdv A outer s H E) (defBody s_seam_at) g_seam_at:=by
  obtain⟨C_NoNumber,g_NoNumber⟩:=T.g_NoNumber
  exact (dsc (ds_expr (de_fn G_need_picture hr (by decide) (dcs (dv 0) dnl))) (dsc (ds_set 3 sc_seam_at.nd (de_fnT G_counts_down hT hr (by decide) b_counts_down (dcs (de_fn G_full_marks hr (by decide) (dcs (dv 2) (dcs (dv 0) dnl))) dnl))) (dsc (ds_if (DW.dt (dw_or (dt_not (dt_val (de_fn G_is_whole hr (by decide) (dcs (dv 1) dnl)))) (dw_or1 (dt_not (dt_chain od_le od_lt de_int (dv 1) (de_callB (cd_sum rfl) rfl T.n_sum boot_sum (dcs (de_ix (dv 3) de_int) dnl))))))) (dss_one (ds_raise rfl g_NoNumber (dcs de_str dnl) (fun _=>⟨_,rfl,by decide⟩))) dss_nil) (dsc (ds_set 4 sc_seam_at.nd (dv 1)) (dsc (ds_set 5 sc_seam_at.nd (de_lstR1 rfl rfl T.n_list rfl T.n_range (dcs (de_callB cd_len rfl T.n_len PySem.boot_len (dcs (de_ix (dv 3) de_int) dnl)) dnl))) (dsc (ds_newl 6 sc_seam_at.nd dnl) (dsc (ds_for PassesOwn.leaving rfl (di_seq (dv 3)) (dga_name 7 sc_seam_at.nd) (dsc (ds_set 8 sc_seam_at.nd de_int) (dsc (ds_while 64 PassesOwn.leaving (dt_cmp od_ge (dv 4) (de_ix (dv 7) (de_ix (dv 5) (dv 8)))) (dsc (ds_augM 4 sc_seam_at.nd (de_ix (dv 7) (de_ix (dv 5) (dv 8)))) (dss_one (ds_aug 8 sc_seam_at.nd de_int)))) (dsc (ds_app 6 (de_ix (dv 5) (dv 8))) (dss_one (ds_set 5 sc_seam_at.nd (de_fn G_near hr (by decide) (dcs (de_ix (dv 5) (dv 8)) (dcs (de_callB cd_len rfl T.n_len PySem.boot_len (dcs (dv 7) dnl)) dnl))))))))) (dss_one (ds_ret (de_callT cd_tuple rfl T.n_tuple boot_tuple (dcs (dv 6) dnl)))))))))))
theorem ok_seam_at {f:Addr} {fd:FuncData} (Fn:Fun K "seam_at" "seam_at" s_seam_at f fd) (hmg:mg "seam_at" =some (.ref f)) (T:Txt K mg) {tsv:List (Addr×Str)} {fd_counts_down:FuncData} (G_counts_down:FnTE P w K mg base 5 "counts_down" 1 F_counts_down fd_counts_down ["marks"] tsv) (b_counts_down:Binds K fd_counts_down ["marks"] []) (G_full_marks:FnD P w K mg base 5 "full_marks" 2 F_full_marks) (G_is_whole:FnD P w K mg base 1 "is_whole" 1 F_is_whole) (G_near:FnD P w K mg base 1 "near" 2 F_near) (G_need_picture:FnD P w K mg base 5 "need_picture" 1 F_need_picture):FnTX P w K mg base 6 "seam_at" 3 F_seam_at fd ["picture","number","marks"] tsv:=
  ⟨f,fnXT (k:=5) (m:=6) (g:=g_seam_at) Fn sc_seam_at rfl rfl fun cdv A outer s H E hr hT=>bd_seam_at T G_counts_down b_counts_down G_full_marks G_is_whole G_near G_need_picture hT hr,hmg,Fn.kp⟩
theorem bd__law_no {f:Addr} {cdv:Value} {A:Around} {outer:List PySem.Env} {s:Shared} {H:Hp} {E:XK} (T:Txt K mg) {tsv:List (Addr×Str)} {fd_number_of:FuncData} (G_number_of:FnTX P w K mg base 9 "number_of" 3 F_number_of fd_number_of ["picture","seam","marks"] tsv) {fd_seam_at:FuncData} (G_seam_at:FnTX P w K mg base 6 "seam_at" 3 F_seam_at fd_seam_at ["picture","number","marks"] tsv) (B_number_of_0:KB K fd_number_of ["picture","seam","marks"] [] [.inr .none]) (B_seam_at_0:KB K fd_seam_at ["picture","number","marks"] [] [.inr .none]) (hT:Tb tsv H) (hr:Room 9 (A.deeper (envOfC "_law_no" (defScope s__law_no) s.heap.objs.size f cdv))):DSs (cxOf CX0 P w K mg base ["_law_way","_law_picture_here","_law_thing","e"] "_law_no" (defScope s__law_no) f cdv A outer s H E).nox (defBody s__law_no) g__law_no:=by
  obtain⟨CT_SeamError,h_SeamError,m_SeamError⟩:=T.t_SeamError
  obtain⟨CI_NoNumber,i_NoNumber,q_NoNumber⟩:=T.i_NoNumber
  obtain⟨CI_NoSeam,i_NoSeam,q_NoSeam⟩:=T.i_NoSeam
  exact (dsc (ds_try 3 sc__law_no.nd rfl rfl rfl h_SeamError m_SeamError (fun _ _=>(dss_one (ds_if (dt_cmp (od_eq (room_u hr)) (dv 0) de_int) (dss_one (ds_expr (de_fnXD (.non .nil) G_seam_at hT hr (by decide) B_seam_at_0 (dcs (dv 1) (dcs (dv 2) dnl))))) (dss_one (ds_expr (de_fnXD (.non .nil) G_number_of hT hr (by decide) B_number_of_0 (dcs (dv 1) (dcs (dv 2) dnl)))))))) (fun _=>(dss_one (ds_ret (de_lst (dcs (de_instE 3 rfl T.n_isinstance (pe_glob (v:= .ref CI_NoNumber) rfl i_NoNumber rfl (by decide)) (fun _ z=>z) q_NoNumber) (dcs (de_instE 3 rfl T.n_isinstance (pe_glob (v:= .ref CI_NoSeam) rfl i_NoSeam rfl (by decide)) (fun _ z=>z) q_NoSeam) dnl))))))) (dss_one (ds_ret (de_lst dnl))))
theorem ok__law_no {f:Addr} {fd:FuncData} (Fn:Fun K "_law_no" "_law_no" s__law_no f fd) (hmg:mg "_law_no" =some (.ref f)) (T:Txt K mg) {tsv:List (Addr×Str)} {fd_number_of:FuncData} (G_number_of:FnTX P w K mg base 9 "number_of" 3 F_number_of fd_number_of ["picture","seam","marks"] tsv) {fd_seam_at:FuncData} (G_seam_at:FnTX P w K mg base 6 "seam_at" 3 F_seam_at fd_seam_at ["picture","number","marks"] tsv) (B_number_of_0:KB K fd_number_of ["picture","seam","marks"] [] [.inr .none]) (B_seam_at_0:KB K fd_seam_at ["picture","number","marks"] [] [.inr .none]):FnTE P w K mg base 10 "_law_no" 3 F__law_no fd ["_law_way","_law_picture_here","_law_thing"] tsv:=
  ⟨f,fnT (k:=9) (m:=1) (g:=g__law_no) Fn sc__law_no rfl rfl fun cdv A outer s H E _ hr hT=>bd__law_no T G_number_of G_seam_at B_number_of_0 B_seam_at_0 hT hr,hmg,Fn.kp⟩
theorem bd__law_signs {f:Addr} {cdv:Value} {A:Around} {outer:List PySem.Env} {s:Shared} {H:Hp} {E:XK} (T:Txt K mg)  (hr:Room 0 (A.deeper (envOfC "_law_signs" (defScope s__law_signs) s.heap.objs.size f cdv))):DSs (cxOf CX0 P w K mg base ["_law_tags","_law_seam","_law_sign"] "_law_signs" (defScope s__law_signs) f cdv A outer s H E).nox (defBody s__law_signs) g__law_signs:=by
  exact (dss_one (ds_ret (de_callB cd_len rfl T.n_len PySem.boot_len (dcs (de_comp ["_law_row","_law_x"] [2] rfl (by kernel_rfl) (by kernel_rfl) (di_zip2 rfl T.n_zip (dcs (dv 0) (dcs (dv 1) dnl))) (keeps_tup (keeps_cons (keeps_set (by decide)) (keeps_cons (keeps_set (by decide)) keeps_nil))) (fun _ _ _ _ nd=>dg_tup rfl (dgs_cons (dg_name 0 nd) (dgs_cons (dg_name 1 nd) dgs_nil))) (fun _ _ _ _=>(dts_one (dt_cmp (od_eq (room_u hr)) (de_ix (dv 0) (dv 1)) (dv 2)))) (fun _ _ _ _=>(dv 1))) dnl))))
theorem ok__law_signs {f:Addr} {fd:FuncData} (Fn:Fun K "_law_signs" "_law_signs" s__law_signs f fd) (hmg:mg "_law_signs" =some (.ref f)) (hb:Binds K fd ["_law_tags","_law_seam","_law_sign"] []) (T:Txt K mg)  :FnD P w K mg base 1 "_law_signs" 3 F__law_signs:=
  fnD_of (k:=0) (g:=g__law_signs) Fn hmg hb sc__law_signs rfl rfl fun cdv A outer s H E hr=>bd__law_signs T  hr
theorem bd__law_picture {f:Addr} {cdv:Value} {A:Around} {outer:List PySem.Env} {s:Shared} {H:Hp} {E:XK} (T:Txt K mg) (G__law_drawn:FnD P w K mg base 1 "_law_drawn" 3 F__law_drawn) (hr:Room 1 (A.deeper (envOfC "_law_picture" (defScope s__law_picture) s.heap.objs.size f cdv))):DSs (cxOf CX0 P w K mg base ["_law_script","_law_at","_law_broad","_law_tall","_law_most","_law_rows","_law_y"] "_law_picture" (defScope s__law_picture) f cdv A outer s H E).nox (defBody s__law_picture) g__law_picture:=by
  exact (dsc (ds_parO 4 5 rfl sc__law_picture.nd (de_ix (de_lst (dcs de_int (dcs de_int (dcs de_int (dcs de_int dnl))))) (de_fn G__law_drawn hr (by decide) (dcs (dv 0) (dcs (dv 1) (dcs de_int dnl))))) dnl) (dsc (ds_for PassesOwn.never rfl (di_range1 rfl T.n_range (dcs (dv 3) dnl)) (dga_name 6 sc__law_picture.nd) (dss_one (ds_app 5 (de_callT cd_tuple rfl T.n_tuple boot_tuple (dcs (de_comp ["_law_x"] [1,2,4,0,6] rfl (by kernel_rfl) (by kernel_rfl) (di_range1 rfl T.n_range (dcs (dv 2) dnl)) (keeps_set (by decide)) (fun _ _ _ _ nd=>dg_name 0 nd) (fun _ _ _ _=>dts_nil) (fun _ _ _ _=>(de_fn G__law_drawn hr (by decide) (dcs (dv 4) (dcs (de_bin od_cat (de_bin od_cat (de_bin od_cat (dv 1) de_int) (de_bin od_mul (dv 2) (dv 5))) (dv 0)) (dcs (dv 3) dnl)))))) dnl))))) (dss_one (ds_ret (de_callT cd_tuple rfl T.n_tuple boot_tuple (dcs (dv 5) dnl))))))
theorem ok__law_picture {f:Addr} {fd:FuncData} (Fn:Fun K "_law_picture" "_law_picture" s__law_picture f fd) (hmg:mg "_law_picture" =some (.ref f)) (hb:Binds K fd ["_law_script","_law_at","_law_broad","_law_tall"] []) (T:Txt K mg) (G__law_drawn:FnD P w K mg base 1 "_law_drawn" 3 F__law_drawn):FnD P w K mg base 2 "_law_picture" 4 F__law_picture:=
  fnD_of (k:=1) (g:=g__law_picture) Fn hmg hb sc__law_picture rfl rfl fun cdv A outer s H E hr=>bd__law_picture T G__law_drawn hr
theorem bd__law_some {f:Addr} {cdv:Value} {A:Around} {outer:List PySem.Env} {s:Shared} {H:Hp} {E:XK} (T:Txt K mg) (G__law_drawn:FnD P w K mg base 1 "_law_drawn" 3 F__law_drawn) (G__law_picture:FnD P w K mg base 2 "_law_picture" 4 F__law_picture) (hr:Room 2 (A.deeper (envOfC "_law_some" (defScope s__law_some) s.heap.objs.size f cdv))):DSs (cxOf CX0 P w K mg base ["_law_script","_law_at","_law_broad","_law_tall"] "_law_some" (defScope s__law_some) f cdv A outer s H E).nox (defBody s__law_some) g__law_some:=by
  exact (dss_one (ds_ret (de_fn G__law_picture hr (by decide) (dcs (dv 0) (dcs (de_bin od_cat (dv 1) de_int) (dcs (de_bin od_cat de_int (de_fn G__law_drawn hr (by decide) (dcs (dv 0) (dcs (dv 1) (dcs (dv 2) dnl))))) (dcs (de_bin od_cat de_int (de_fn G__law_drawn hr (by decide) (dcs (dv 0) (dcs (de_bin od_cat (dv 1) de_int) (dcs (dv 3) dnl))))) dnl)))))))
theorem ok__law_some {f:Addr} {fd:FuncData} (Fn:Fun K "_law_some" "_law_some" s__law_some f fd) (hmg:mg "_law_some" =some (.ref f)) (hb:Binds K fd ["_law_script","_law_at","_law_broad","_law_tall"] []) (T:Txt K mg) (G__law_drawn:FnD P w K mg base 1 "_law_drawn" 3 F__law_drawn) (G__law_picture:FnD P w K mg base 2 "_law_picture" 4 F__law_picture):FnD P w K mg base 3 "_law_some" 4 F__law_some:=
  fnD_of (k:=2) (g:=g__law_some) Fn hmg hb sc__law_some rfl rfl fun cdv A outer s H E hr=>bd__law_some T G__law_drawn G__law_picture hr
theorem bd__law_ways {f:Addr} {cdv:Value} {A:Around} {outer:List PySem.Env} {s:Shared} {H:Hp} {E:XK} (T:Txt K mg)  (hr:Room 0 (A.deeper (envOfC "_law_ways" (defScope s__law_ways) s.heap.objs.size f cdv))):DSs (cxOf CX0 P w K mg base ["_law_broad","_law_tall","_law_found","_law_y","_law_more","_law_way"] "_law_ways" (defScope s__law_ways) f cdv A outer s H E).nox (defBody s__law_ways) g__law_ways:=by
  exact (dsc (ds_comp 2 sc__law_ways.nd ["_law_x"] [] rfl (by kernel_rfl) (by kernel_rfl) (di_range1 rfl T.n_range (dcs (dv 0) dnl)) (keeps_set (by decide)) (fun _ _ _ _ nd=>dg_name 0 nd) (fun _ _ _ _=>dts_nil) (fun _ _ _ _=>(de_tup (dcs (dv 0) dnl)))) (dsc (ds_for PassesOwn.never rfl (di_range1 rfl T.n_range (dcs (de_bin od_sub (dv 1) de_int) dnl)) (dga_name 3 sc__law_ways.nd) (dsc (ds_set 4 sc__law_ways.nd (de_lst dnl)) (dsc (ds_for PassesOwn.never rfl (di_seq (dv 2)) (dga_name 5 sc__law_ways.nd) (dss_one (ds_set 4 sc__law_ways.nd (de_bin od_addD (dv 4) (de_comp ["_law_x"] [0,5] rfl (by kernel_rfl) (by kernel_rfl) (di_seq (de_tup (dcs (de_bin od_sub (de_ix (dv 5) (de_neg de_int)) de_int) (dcs (de_ix (dv 5) (de_neg de_int)) (dcs (de_bin od_addD (de_ix (dv 5) (de_neg de_int)) de_int) dnl))))) (keeps_set (by decide)) (fun _ _ _ _ nd=>dg_name 0 nd) (fun _ _ _ _=>(dts_one (DW.dt (dw_and (dt_cmp od_le de_int (dv 0)) (dw_and1 (dt_cmp od_lt (dv 0) (dv 1))))))) (fun _ _ _ _=>(de_bin od_addD (dv 2) (de_tup (dcs (dv 0) dnl))))))))) (dss_one (ds_set 2 sc__law_ways.nd (dv 4)))))) (dss_one (ds_ret (dv 2)))))
theorem ok__law_ways {f:Addr} {fd:FuncData} (Fn:Fun K "_law_ways" "_law_ways" s__law_ways f fd) (hmg:mg "_law_ways" =some (.ref f)) (hb:Binds K fd ["_law_broad","_law_tall"] []) (T:Txt K mg)  :FnD P w K mg base 1 "_law_ways" 2 F__law_ways:=
  fnD_of (k:=0) (g:=g__law_ways) Fn hmg hb sc__law_ways rfl rfl fun cdv A outer s H E hr=>bd__law_ways T  hr
theorem bd_how_many {f:Addr} {cdv:Value} {A:Around} {outer:List PySem.Env} {s:Shared} {H:Hp} {E:XK} (T:Txt K mg) {tsv:List (Addr×Str)} {fd_counts_down:FuncData} (G_counts_down:FnTE P w K mg base 5 "counts_down" 1 F_counts_down fd_counts_down ["marks"] tsv) (b_counts_down:Binds K fd_counts_down ["marks"] []) (G_full_marks:FnD P w K mg base 5 "full_marks" 2 F_full_marks) (G_need_picture:FnD P w K mg base 5 "need_picture" 1 F_need_picture) (hT:Tb tsv H) (hr:Room 5 (A.deeper (envOfC "how_many" (defScope s_how_many) s.heap.objs.size f cdv))):DSs (cxOf CX0 P w K mg base ["picture","marks"] "how_many" (defScope s_how_many) f cdv A outer s H E).nox (defBody s_how_many) g_how_many:=by
  exact (dsc (ds_expr (de_fn G_need_picture hr (by decide) (dcs (dv 0) dnl))) (dss_one (ds_ret (de_callB (cd_sum rfl) rfl T.n_sum boot_sum (dcs (de_ix (de_fnT G_counts_down hT hr (by decide) b_counts_down (dcs (de_fn G_full_marks hr (by decide) (dcs (dv 1) (dcs (dv 0) dnl))) dnl)) de_int) dnl)))))
theorem ok_how_many {f:Addr} {fd:FuncData} (Fn:Fun K "how_many" "how_many" s_how_many f fd) (hmg:mg "how_many" =some (.ref f)) (T:Txt K mg) {tsv:List (Addr×Str)} {fd_counts_down:FuncData} (G_counts_down:FnTE P w K mg base 5 "counts_down" 1 F_counts_down fd_counts_down ["marks"] tsv) (b_counts_down:Binds K fd_counts_down ["marks"] []) (G_full_marks:FnD P w K mg base 5 "full_marks" 2 F_full_marks) (G_need_picture:FnD P w K mg base 5 "need_picture" 1 F_need_picture):FnTE P w K mg base 6 "how_many" 2 F_how_many fd ["picture","marks"] tsv:=
  ⟨f,fnT (k:=5) (m:=0) (g:=g_how_many) Fn sc_how_many rfl rfl fun cdv A outer s H E _ hr hT=>bd_how_many T G_counts_down b_counts_down G_full_marks G_need_picture hT hr,hmg,Fn.kp⟩
theorem bd_law {f:Addr} {cdv:Value} {A:Around} {outer:List PySem.Env} {s:Shared} {H:Hp} {E:XK} (T:Txt K mg) {tsv:List (Addr×Str)} (G__law_drawn:FnD P w K mg base 1 "_law_drawn" 3 F__law_drawn) (G__law_marks:FnD P w K mg base 2 "_law_marks" 3 F__law_marks) {fd__law_no:FuncData} (G__law_no:FnTE P w K mg base 10 "_law_no" 3 F__law_no fd__law_no ["_law_way","_law_picture_here","_law_thing"] tsv) (b__law_no:Binds K fd__law_no ["_law_way","_law_picture_here","_law_thing"] []) (G__law_signs:FnD P w K mg base 1 "_law_signs" 3 F__law_signs) (G__law_some:FnD P w K mg base 3 "_law_some" 4 F__law_some) (G__law_ways:FnD P w K mg base 1 "_law_ways" 2 F__law_ways) {fd_how_many:FuncData} (G_how_many:FnTE P w K mg base 6 "how_many" 2 F_how_many fd_how_many ["picture","marks"] tsv) {fd_number_of:FuncData} (G_number_of:FnTX P w K mg base 9 "number_of" 3 F_number_of fd_number_of ["picture","seam","marks"] tsv) {fd_seam_at:FuncData} (G_seam_at:FnTX P w K mg base 6 "seam_at" 3 F_seam_at fd_seam_at ["picture","number","marks"] tsv) (B_how_many_1:KB K fd_how_many ["picture","marks"] [] [.inr .none]) (B_how_many_0:KB K fd_how_many ["picture","marks"] ["marks"] [.inl 0]) (B_number_of_0:KB K fd_number_of ["picture","seam","marks"] [] [.inr .none]) (B_number_of_1:KB K fd_number_of ["picture","seam","marks"] ["marks"] [.inl 0]) (B_seam_at_0:KB K fd_seam_at ["picture","number","marks"] [] [.inr .none]) (B_seam_at_1:KB K fd_seam_at ["picture","number","marks"] ["marks"] [.inl 0]) (hT:Tb tsv H) (hr:Room 10 (A.deeper (envOfC "law" (defScope s_law) s.heap.objs.size f cdv))):DSs (cxOf CX0 P w K mg base ["_law_script","_law_picture_here","_law_broad","_law_tall","_law_tags","_law_ways_here","_law_some_here","_law_at","_law_number","_law_odd","_law_bad"] "law" (defScope s_law) f cdv A outer s H E).nox (defBody s_law) g_law:=by
  exact (dsc (ds_set 1 sc_law.nd (de_fn G__law_some hr (by decide) (dcs (dv 0) (dcs de_int (dcs de_int (dcs de_int dnl)))))) (dsc (ds_par 2 3 rfl sc_law.nd (de_callB cd_len rfl T.n_len PySem.boot_len (dcs (de_ix (dv 1) de_int) dnl)) (de_callB cd_len rfl T.n_len PySem.boot_len (dcs (dv 1) dnl))) (dsc (ds_set 4 sc_law.nd (de_fn G__law_marks hr (by decide) (dcs (dv 0) (dcs de_int (dcs (dv 1) dnl))))) (dsc (ds_set 5 sc_law.nd (de_fn G__law_ways hr (by decide) (dcs (dv 2) (dcs (dv 3) dnl)))) (dsc (ds_comp 6 sc_law.nd ["_law_way"] [4] rfl (by kernel_rfl) (by kernel_rfl) (di_seq (dv 5)) (keeps_set (by decide)) (fun _ _ _ _ nd=>dg_name 0 nd) (fun _ _ _ _=>(dts_one (dt_cmp (od_eq (room_u hr)) (de_fn G__law_signs hr (by decide) (dcs (dv 1) (dcs (dv 0) (dcs de_int dnl)))) de_int))) (fun _ _ _ _=>(dv 0))) (dsc (ds_if (DW.dt (dw_or (dt_cmp (od_ne (room_u hr)) (de_fnTK (ks:=["marks"]) (.at 0 .nil) G_how_many hT hr (by decide) B_how_many_0 (dcs (dv 1) dnl) (dk_cons (dv 4) dk_nil)) (de_callB cd_len rfl T.n_len PySem.boot_len (dcs (dv 6) dnl))) (dw_or1 (dt_cmp (od_ne (room_u hr)) (de_fnTD (.non .nil) G_how_many hT hr (by decide) B_how_many_1 (dcs (dv 1) dnl)) (de_callB cd_len rfl T.n_len PySem.boot_len (dcs (dv 5) dnl)))))) (dss_one (ds_ret de_bl)) dss_nil) (dsc (ds_set 7 sc_law.nd (de_fn G__law_drawn hr (by decide) (dcs (dv 0) (dcs de_int (dcs (de_callB cd_len rfl T.n_len PySem.boot_len (dcs (dv 5) dnl)) dnl))))) (dsc (ds_if (DW.dt (dw_or (dt_cmp (od_ne (room_u hr)) (de_fnXD (.non .nil) G_seam_at hT hr (by decide) B_seam_at_0 (dcs (dv 1) (dcs (dv 7) dnl))) (de_ix (dv 5) (dv 7))) (dw_or1 (dt_cmp (od_ne (room_u hr)) (de_fnXD (.non .nil) G_number_of hT hr (by decide) B_number_of_0 (dcs (dv 1) (dcs (de_ix (dv 5) (dv 7)) dnl))) (dv 7))))) (dss_one (ds_ret de_bl)) dss_nil) (dsc (ds_if (dt_cmp (od_ne (room_u hr)) (de_fnXK (ks:=["marks"]) (.at 0 .nil) G_number_of hT hr (by decide) B_number_of_1 (dcs (dv 1) (dcs (de_ix (dv 5) (dv 7)) dnl)) (dk_cons (dv 4) dk_nil)) (de_if (dt_cmp (od_inU (room_u hr)) (de_ix (dv 5) (dv 7)) (dv 6) (by rfl)) (de_index (room_u hr) (dv 6) (de_ix (dv 5) (dv 7))) de_non)) (dss_one (ds_ret de_bl)) dss_nil) (dsc (ds_for PassesOwn.never rfl (di_rangeC rfl T.n_range (dcs (de_bin od_sub (de_callB cd_len rfl T.n_len PySem.boot_len (dcs (dv 6) dnl)) de_int) (dcs (de_neg de_int) (dcs (de_bin od_sub (de_neg de_int) (de_bin od_div (de_callB cd_len rfl T.n_len PySem.boot_len (dcs (dv 6) dnl)) de_int)) dnl)))) (dga_name 8 sc_law.nd) (dsc (ds_if (dt_cmp (od_ne (room_u hr)) (de_fnXK (ks:=["marks"]) (.at 0 .nil) G_seam_at hT hr (by decide) B_seam_at_1 (dcs (dv 1) (dcs (dv 8) dnl)) (dk_cons (dv 4) dk_nil)) (de_ix (dv 6) (dv 8))) (dss_one (ds_ret de_bl)) dss_nil) (dss_one (ds_if (dt_cmp (od_ne (room_u hr)) (de_fnXK (ks:=["marks"]) (.at 0 .nil) G_number_of hT hr (by decide) B_number_of_1 (dcs (dv 1) (dcs (de_ix (dv 6) (dv 8)) dnl)) (dk_cons (dv 4) dk_nil)) (dv 8)) (dss_one (ds_ret de_bl)) dss_nil)))) (dsc (ds_set 9 sc_law.nd (de_ix (de_lst (dcs (de_neg de_int) (dcs (de_callB cd_len rfl T.n_len PySem.boot_len (dcs (dv 5) dnl)) (dcs de_non (dcs de_bl (dcs de_str (dcs (de_tup (dcs de_int dnl)) dnl))))))) (de_fn G__law_drawn hr (by decide) (dcs (dv 0) (dcs de_int (dcs de_int dnl)))))) (dsc (ds_set 10 sc_law.nd (de_ix (de_lst (dcs de_non (dcs (de_bin od_mulD (de_tup (dcs (dv 2) dnl)) (dv 3)) (dcs (de_bin od_mulD (de_tup (dcs de_int dnl)) (de_bin od_addD (dv 3) de_int)) (dcs (de_bin od_mulL (de_lst (dcs de_int dnl)) (dv 3)) dnl))))) (de_fn G__law_drawn hr (by decide) (dcs (dv 0) (dcs de_int (dcs de_int dnl)))))) (dss_one (ds_ret (de_and (de_cmp (od_eq (room_u hr)) (de_fnT G__law_no hT hr (by decide) b__law_no (dcs de_int (dcs (dv 1) (dcs (dv 9) dnl)))) (de_lst (dcs de_bl (dcs de_bl dnl)))) (de_one (de_cmp (od_eq (room_u hr)) (de_fnT G__law_no hT hr (by decide) b__law_no (dcs de_int (dcs (dv 1) (dcs (dv 10) dnl)))) (de_lst (dcs de_bl (dcs de_bl dnl))))))))))))))))))))
theorem ok_law {f:Addr} {fd:FuncData} (Fn:Fun K "law" "law" s_law f fd) (hmg:mg "law" =some (.ref f)) (T:Txt K mg) {tsv:List (Addr×Str)} (G__law_drawn:FnD P w K mg base 1 "_law_drawn" 3 F__law_drawn) (G__law_marks:FnD P w K mg base 2 "_law_marks" 3 F__law_marks) {fd__law_no:FuncData} (G__law_no:FnTE P w K mg base 10 "_law_no" 3 F__law_no fd__law_no ["_law_way","_law_picture_here","_law_thing"] tsv) (b__law_no:Binds K fd__law_no ["_law_way","_law_picture_here","_law_thing"] []) (G__law_signs:FnD P w K mg base 1 "_law_signs" 3 F__law_signs) (G__law_some:FnD P w K mg base 3 "_law_some" 4 F__law_some) (G__law_ways:FnD P w K mg base 1 "_law_ways" 2 F__law_ways) {fd_how_many:FuncData} (G_how_many:FnTE P w K mg base 6 "how_many" 2 F_how_many fd_how_many ["picture","marks"] tsv) {fd_number_of:FuncData} (G_number_of:FnTX P w K mg base 9 "number_of" 3 F_number_of fd_number_of ["picture","seam","marks"] tsv) {fd_seam_at:FuncData} (G_seam_at:FnTX P w K mg base 6 "seam_at" 3 F_seam_at fd_seam_at ["picture","number","marks"] tsv) (B_how_many_1:KB K fd_how_many ["picture","marks"] [] [.inr .none]) (B_how_many_0:KB K fd_how_many ["picture","marks"] ["marks"] [.inl 0]) (B_number_of_0:KB K fd_number_of ["picture","seam","marks"] [] [.inr .none]) (B_number_of_1:KB K fd_number_of ["picture","seam","marks"] ["marks"] [.inl 0]) (B_seam_at_0:KB K fd_seam_at ["picture","number","marks"] [] [.inr .none]) (B_seam_at_1:KB K fd_seam_at ["picture","number","marks"] ["marks"] [.inl 0]):FnTE P w K mg base 11 "law" 1 F_law fd ["_law_script"] tsv:=
  ⟨f,fnT (k:=10) (m:=10) (g:=g_law) Fn sc_law rfl rfl fun cdv A outer s H E _ hr hT=>bd_law T G__law_drawn G__law_marks G__law_no b__law_no G__law_signs G__law_some G__law_ways G_how_many G_number_of G_seam_at B_how_many_1 B_how_many_0 B_number_of_0 B_number_of_1 B_seam_at_0 B_seam_at_1 hT hr,hmg,Fn.kp⟩
end
theorem all_mk {l:PySem.W.OpenLaw} {w:World} {K:PySem.W.Frag} {h:Heap} {mg:Str→Option Value} {fa f__law_drawn f__law_marks f_as_good f_fare_of f_near f_onward f_swept f_best_counts f_gone_freed f_counts_down f_all_free f_is_whole f_is_mark f_is_marks_row f_is_marks f_full_marks f_meets_kept f_is_line f_is_cell f_is_row f_is_picture f_need_picture f_is_way f_size_of f_is_seam f_need_seam f_number_of f_seam_at f__law_no f__law_signs f__law_picture f__law_some f__law_ways f_how_many f_law:Addr} (X:K.In h) (G:h.Ns mainGlobals mg) (hfa:mg "law" =some (.ref fa))
    {od__law_drawn an__law_drawn:Option Addr} {sl__law_drawn:Array (Option Value)} {oc__law_drawn kV__law_drawn dc__law_drawn pm__law_drawn cd__law_drawn ct__law_drawn:Value}
    {od__law_marks an__law_marks:Option Addr} {sl__law_marks:Array (Option Value)} {oc__law_marks kV__law_marks dc__law_marks pm__law_marks cd__law_marks ct__law_marks:Value}
    {od_as_good an_as_good:Option Addr} {sl_as_good:Array (Option Value)} {oc_as_good kV_as_good dc_as_good pm_as_good cd_as_good ct_as_good:Value}
    {od_fare_of an_fare_of:Option Addr} {sl_fare_of:Array (Option Value)} {oc_fare_of kV_fare_of dc_fare_of pm_fare_of cd_fare_of ct_fare_of:Value}
    {od_near an_near:Option Addr} {sl_near:Array (Option Value)} {oc_near kV_near dc_near pm_near cd_near ct_near:Value}
    {od_onward an_onward:Option Addr} {sl_onward:Array (Option Value)} {oc_onward kV_onward dc_onward pm_onward cd_onward ct_onward:Value}
    {od_swept an_swept:Option Addr} {sl_swept:Array (Option Value)} {oc_swept kV_swept dc_swept pm_swept cd_swept ct_swept:Value}
    {od_best_counts an_best_counts:Option Addr} {sl_best_counts:Array (Option Value)} {oc_best_counts kV_best_counts dc_best_counts pm_best_counts cd_best_counts ct_best_counts:Value}
    {od_gone_freed an_gone_freed:Option Addr} {sl_gone_freed:Array (Option Value)} {oc_gone_freed kV_gone_freed dc_gone_freed pm_gone_freed cd_gone_freed ct_gone_freed:Value}
    {od_counts_down an_counts_down:Option Addr} {sl_counts_down:Array (Option Value)} {oc_counts_down kV_counts_down dc_counts_down pm_counts_down cd_counts_down ct_counts_down:Value}
    {od_all_free an_all_free:Option Addr} {sl_all_free:Array (Option Value)} {oc_all_free kV_all_free dc_all_free pm_all_free cd_all_free ct_all_free:Value}
    {od_is_whole an_is_whole:Option Addr} {sl_is_whole:Array (Option Value)} {oc_is_whole kV_is_whole dc_is_whole pm_is_whole cd_is_whole ct_is_whole:Value}
    {od_is_mark an_is_mark:Option Addr} {sl_is_mark:Array (Option Value)} {oc_is_mark kV_is_mark dc_is_mark pm_is_mark cd_is_mark ct_is_mark:Value}
    {od_is_marks_row an_is_marks_row:Option Addr} {sl_is_marks_row:Array (Option Value)} {oc_is_marks_row kV_is_marks_row dc_is_marks_row pm_is_marks_row cd_is_marks_row ct_is_marks_row:Value}
    {od_is_marks an_is_marks:Option Addr} {sl_is_marks:Array (Option Value)} {oc_is_marks kV_is_marks dc_is_marks pm_is_marks cd_is_marks ct_is_marks:Value}
    {od_full_marks an_full_marks:Option Addr} {sl_full_marks:Array (Option Value)} {oc_full_marks kV_full_marks dc_full_marks pm_full_marks cd_full_marks ct_full_marks:Value}
    {od_meets_kept an_meets_kept:Option Addr} {sl_meets_kept:Array (Option Value)} {oc_meets_kept kV_meets_kept dc_meets_kept pm_meets_kept cd_meets_kept ct_meets_kept:Value}
    {od_is_line an_is_line:Option Addr} {sl_is_line:Array (Option Value)} {oc_is_line kV_is_line dc_is_line pm_is_line cd_is_line ct_is_line:Value}
    {od_is_cell an_is_cell:Option Addr} {sl_is_cell:Array (Option Value)} {oc_is_cell kV_is_cell dc_is_cell pm_is_cell cd_is_cell ct_is_cell:Value}
    {od_is_row an_is_row:Option Addr} {sl_is_row:Array (Option Value)} {oc_is_row kV_is_row dc_is_row pm_is_row cd_is_row ct_is_row:Value}
    {od_is_picture an_is_picture:Option Addr} {sl_is_picture:Array (Option Value)} {oc_is_picture kV_is_picture dc_is_picture pm_is_picture cd_is_picture ct_is_picture:Value}
    {od_need_picture an_need_picture:Option Addr} {sl_need_picture:Array (Option Value)} {oc_need_picture kV_need_picture dc_need_picture pm_need_picture cd_need_picture ct_need_picture:Value}
    {od_is_way an_is_way:Option Addr} {sl_is_way:Array (Option Value)} {oc_is_way kV_is_way dc_is_way pm_is_way cd_is_way ct_is_way:Value}
    {od_size_of an_size_of:Option Addr} {sl_size_of:Array (Option Value)} {oc_size_of kV_size_of dc_size_of pm_size_of cd_size_of ct_size_of:Value}
    {od_is_seam an_is_seam:Option Addr} {sl_is_seam:Array (Option Value)} {oc_is_seam kV_is_seam dc_is_seam pm_is_seam cd_is_seam ct_is_seam:Value}
    {od_need_seam an_need_seam:Option Addr} {sl_need_seam:Array (Option Value)} {oc_need_seam kV_need_seam dc_need_seam pm_need_seam cd_need_seam ct_need_seam:Value}
    {od_number_of an_number_of:Option Addr} {sl_number_of:Array (Option Value)} {oc_number_of kV_number_of dc_number_of pm_number_of cd_number_of ct_number_of:Value}
    {od_seam_at an_seam_at:Option Addr} {sl_seam_at:Array (Option Value)} {oc_seam_at kV_seam_at dc_seam_at pm_seam_at cd_seam_at ct_seam_at:Value}
    {od__law_no an__law_no:Option Addr} {sl__law_no:Array (Option Value)} {oc__law_no kV__law_no dc__law_no pm__law_no cd__law_no ct__law_no:Value}
    {od__law_signs an__law_signs:Option Addr} {sl__law_signs:Array (Option Value)} {oc__law_signs kV__law_signs dc__law_signs pm__law_signs cd__law_signs ct__law_signs:Value}
    {od__law_picture an__law_picture:Option Addr} {sl__law_picture:Array (Option Value)} {oc__law_picture kV__law_picture dc__law_picture pm__law_picture cd__law_picture ct__law_picture:Value}
    {od__law_some an__law_some:Option Addr} {sl__law_some:Array (Option Value)} {oc__law_some kV__law_some dc__law_some pm__law_some cd__law_some ct__law_some:Value}
    {od__law_ways an__law_ways:Option Addr} {sl__law_ways:Array (Option Value)} {oc__law_ways kV__law_ways dc__law_ways pm__law_ways cd__law_ways ct__law_ways:Value}
    {od_how_many an_how_many:Option Addr} {sl_how_many:Array (Option Value)} {oc_how_many kV_how_many dc_how_many pm_how_many cd_how_many ct_how_many:Value}
    {od_law an_law:Option Addr} {sl_law:Array (Option Value)} {oc_law kV_law dc_law pm_law cd_law ct_law:Value}
    {tk_FREE:Tok} (x_FREE:PySem.W.nsIn K mainGlobals "FREE" =some (some (.int 0 tk_FREE)))
    {tk_GONE:Tok} (x_GONE:PySem.W.nsIn K mainGlobals "GONE" =some (some (.int 2 tk_GONE)))
    {tk_KEPT:Tok} (x_KEPT:PySem.W.nsIn K mainGlobals "KEPT" =some (some (.int 1 tk_KEPT)))
    {tk_MOST_CELL:Tok} (x_MOST_CELL:PySem.W.nsIn K mainGlobals "MOST_CELL" =some (some (.int 99 tk_MOST_CELL)))
    {tk_MOST_LONG:Tok} (x_MOST_LONG:PySem.W.nsIn K mainGlobals "MOST_LONG" =some (some (.int 20 tk_MOST_LONG)))
    (n_abs:PySem.W.nsIn K mainGlobals "abs" =some none)
    (n_all:PySem.W.nsIn K mainGlobals "all" =some none)
    (n_any:PySem.W.nsIn K mainGlobals "any" =some none)
    (n_bool:PySem.W.nsIn K mainGlobals "bool" =some none)
    (n_enumerate:PySem.W.nsIn K mainGlobals "enumerate" =some none)
    (n_int:PySem.W.nsIn K mainGlobals "int" =some none)
    (n_isinstance:PySem.W.nsIn K mainGlobals "isinstance" =some none)
    (n_len:PySem.W.nsIn K mainGlobals "len" =some none)
    (n_list:PySem.W.nsIn K mainGlobals "list" =some none)
    (n_max:PySem.W.nsIn K mainGlobals "max" =some none)
    (n_min:PySem.W.nsIn K mainGlobals "min" =some none)
    (n_range:PySem.W.nsIn K mainGlobals "range" =some none)
    (n_reversed:PySem.W.nsIn K mainGlobals "reversed" =some none)
    (n_sum:PySem.W.nsIn K mainGlobals "sum" =some none)
    (n_tuple:PySem.W.nsIn K mainGlobals "tuple" =some none)
    (n_zip:PySem.W.nsIn K mainGlobals "zip" =some none)
    (k_int:∀d:D,PySem.W.kitOne K (.type (tyD d)) (.type "int")=some (ans_int (tyD d)))
    (k_bool:∀d:D,PySem.W.kitOne K (.type (tyD d)) (.type "bool")=some (ans_bool (tyD d)))
    (k_tuple:∀d:D,PySem.W.kitOne K (.type (tyD d)) (.type "tuple")=some (ans_tuple (tyD d)))
    (k_list:∀d:D,PySem.W.kitOne K (.type (tyD d)) (.type "list")=some (ans_list (tyD d)))
    {C_NoNumber:Addr} (o_NoNumber:PySem.W.nsIn K mainGlobals "NoNumber" =some (some (.ref C_NoNumber)))
    {C_NoSeam:Addr} (o_NoSeam:PySem.W.nsIn K mainGlobals "NoSeam" =some (some (.ref C_NoSeam)))
    {C_SeamError:Addr} (o_SeamError:PySem.W.nsIn K mainGlobals "SeamError" =some (some (.ref C_SeamError)))
    (e_NoNumber:PySem.W.excIn K C_NoNumber mroV "ValueError.__new__" =true)
    (v1_NoNumber:PySem.W.findIn K (.ref C_NoNumber) "__getattribute__" =some (some (.builtin "BaseException.__getattribute__"))) (v2_NoNumber:PySem.W.findIn K (.ref C_NoNumber) "__getattr__" =some none) (v3_NoNumber:(PySem.W.clsIn K C_NoNumber).isSome=true) (v4_NoNumber:PySem.W.findIn K (.ref C_NoNumber) "__class__" =some (some (.builtin "object.__class__")))
    (v5_NoNumber:PySem.W.specialIn K (.builtin "object.__class__") "__get__" =some (some (.builtin "getset_descriptor.__get__"))) (v6_NoNumber:PySem.W.takesIn K (.builtin "object.__class__")=some true) (v7_NoNumber:PySem.W.mroIn K C_NoNumber (.type "object")=some true) (v8_NoNumber:PySem.W.mroIn K C_NoNumber (.type "BaseException")=some true)
    (m_NoNumber_SeamError:PySem.W.exmOne K (.ref C_NoNumber) (.ref C_SeamError)=some true)
    (z_NoNumber_NoNumber:PySem.W.kitOne K (.ref C_NoNumber) (.ref C_NoNumber)=some true)
    (z_NoNumber_NoSeam:PySem.W.kitOne K (.ref C_NoNumber) (.ref C_NoSeam)=some false)
    (e_NoSeam:PySem.W.excIn K C_NoSeam mroV "ValueError.__new__" =true)
    (v1_NoSeam:PySem.W.findIn K (.ref C_NoSeam) "__getattribute__" =some (some (.builtin "BaseException.__getattribute__"))) (v2_NoSeam:PySem.W.findIn K (.ref C_NoSeam) "__getattr__" =some none) (v3_NoSeam:(PySem.W.clsIn K C_NoSeam).isSome=true) (v4_NoSeam:PySem.W.findIn K (.ref C_NoSeam) "__class__" =some (some (.builtin "object.__class__")))
    (v5_NoSeam:PySem.W.specialIn K (.builtin "object.__class__") "__get__" =some (some (.builtin "getset_descriptor.__get__"))) (v6_NoSeam:PySem.W.takesIn K (.builtin "object.__class__")=some true) (v7_NoSeam:PySem.W.mroIn K C_NoSeam (.type "object")=some true) (v8_NoSeam:PySem.W.mroIn K C_NoSeam (.type "BaseException")=some true)
    (m_NoSeam_SeamError:PySem.W.exmOne K (.ref C_NoSeam) (.ref C_SeamError)=some true)
    (z_NoSeam_NoNumber:PySem.W.kitOne K (.ref C_NoSeam) (.ref C_NoNumber)=some false)
    (z_NoSeam_NoSeam:PySem.W.kitOne K (.ref C_NoSeam) (.ref C_NoSeam)=some true)
    (a__law_drawn:PySem.W.nsIn K mainGlobals "_law_drawn" =some (some (.ref f__law_drawn))) (l__law_drawn:K.lookup f__law_drawn=some ⟨oc__law_drawn,od__law_drawn,.func (PySem.W.fnOf "_law_drawn" "_law_drawn" (defArgs s__law_drawn) (defBody s__law_drawn) (defScope s__law_drawn) .none kV__law_drawn dc__law_drawn pm__law_drawn an__law_drawn cd__law_drawn ct__law_drawn),sl__law_drawn⟩) (c__law_drawn:PySem.W.codeIn K cd__law_drawn "_law_drawn" =true) (p__law_drawn:PySem.W.keepIn K (.ref f__law_drawn)=true)
    (a__law_marks:PySem.W.nsIn K mainGlobals "_law_marks" =some (some (.ref f__law_marks))) (l__law_marks:K.lookup f__law_marks=some ⟨oc__law_marks,od__law_marks,.func (PySem.W.fnOf "_law_marks" "_law_marks" (defArgs s__law_marks) (defBody s__law_marks) (defScope s__law_marks) .none kV__law_marks dc__law_marks pm__law_marks an__law_marks cd__law_marks ct__law_marks),sl__law_marks⟩) (c__law_marks:PySem.W.codeIn K cd__law_marks "_law_marks" =true) (p__law_marks:PySem.W.keepIn K (.ref f__law_marks)=true)
    (a_as_good:PySem.W.nsIn K mainGlobals "as_good" =some (some (.ref f_as_good))) (l_as_good:K.lookup f_as_good=some ⟨oc_as_good,od_as_good,.func (PySem.W.fnOf "as_good" "as_good" (defArgs s_as_good) (defBody s_as_good) (defScope s_as_good) .none kV_as_good dc_as_good pm_as_good an_as_good cd_as_good ct_as_good),sl_as_good⟩) (c_as_good:PySem.W.codeIn K cd_as_good "as_good" =true) (p_as_good:PySem.W.keepIn K (.ref f_as_good)=true)
    (a_fare_of:PySem.W.nsIn K mainGlobals "fare_of" =some (some (.ref f_fare_of))) (l_fare_of:K.lookup f_fare_of=some ⟨oc_fare_of,od_fare_of,.func (PySem.W.fnOf "fare_of" "fare_of" (defArgs s_fare_of) (defBody s_fare_of) (defScope s_fare_of) .none kV_fare_of dc_fare_of pm_fare_of an_fare_of cd_fare_of ct_fare_of),sl_fare_of⟩) (c_fare_of:PySem.W.codeIn K cd_fare_of "fare_of" =true) (p_fare_of:PySem.W.keepIn K (.ref f_fare_of)=true)
    (a_near:PySem.W.nsIn K mainGlobals "near" =some (some (.ref f_near))) (l_near:K.lookup f_near=some ⟨oc_near,od_near,.func (PySem.W.fnOf "near" "near" (defArgs s_near) (defBody s_near) (defScope s_near) .none kV_near dc_near pm_near an_near cd_near ct_near),sl_near⟩) (c_near:PySem.W.codeIn K cd_near "near" =true) (p_near:PySem.W.keepIn K (.ref f_near)=true)
    (a_onward:PySem.W.nsIn K mainGlobals "onward" =some (some (.ref f_onward))) (l_onward:K.lookup f_onward=some ⟨oc_onward,od_onward,.func (PySem.W.fnOf "onward" "onward" (defArgs s_onward) (defBody s_onward) (defScope s_onward) .none kV_onward dc_onward pm_onward an_onward cd_onward ct_onward),sl_onward⟩) (c_onward:PySem.W.codeIn K cd_onward "onward" =true) (p_onward:PySem.W.keepIn K (.ref f_onward)=true)
    (a_swept:PySem.W.nsIn K mainGlobals "swept" =some (some (.ref f_swept))) (l_swept:K.lookup f_swept=some ⟨oc_swept,od_swept,.func (PySem.W.fnOf "swept" "swept" (defArgs s_swept) (defBody s_swept) (defScope s_swept) .none kV_swept dc_swept pm_swept an_swept cd_swept ct_swept),sl_swept⟩) (c_swept:PySem.W.codeIn K cd_swept "swept" =true) (p_swept:PySem.W.keepIn K (.ref f_swept)=true)
    (a_best_counts:PySem.W.nsIn K mainGlobals "best_counts" =some (some (.ref f_best_counts))) (l_best_counts:K.lookup f_best_counts=some ⟨oc_best_counts,od_best_counts,.func (PySem.W.fnOf "best_counts" "best_counts" (defArgs s_best_counts) (defBody s_best_counts) (defScope s_best_counts) .none kV_best_counts dc_best_counts pm_best_counts an_best_counts cd_best_counts ct_best_counts),sl_best_counts⟩) (c_best_counts:PySem.W.codeIn K cd_best_counts "best_counts" =true) (p_best_counts:PySem.W.keepIn K (.ref f_best_counts)=true)
    (a_gone_freed:PySem.W.nsIn K mainGlobals "gone_freed" =some (some (.ref f_gone_freed))) (l_gone_freed:K.lookup f_gone_freed=some ⟨oc_gone_freed,od_gone_freed,.func (PySem.W.fnOf "gone_freed" "gone_freed" (defArgs s_gone_freed) (defBody s_gone_freed) (defScope s_gone_freed) .none kV_gone_freed dc_gone_freed pm_gone_freed an_gone_freed cd_gone_freed ct_gone_freed),sl_gone_freed⟩) (c_gone_freed:PySem.W.codeIn K cd_gone_freed "gone_freed" =true) (p_gone_freed:PySem.W.keepIn K (.ref f_gone_freed)=true)
    (a_counts_down:PySem.W.nsIn K mainGlobals "counts_down" =some (some (.ref f_counts_down))) (l_counts_down:K.lookup f_counts_down=some ⟨oc_counts_down,od_counts_down,.func (PySem.W.fnOf "counts_down" "counts_down" (defArgs s_counts_down) (defBody s_counts_down) (defScope s_counts_down) .none kV_counts_down dc_counts_down pm_counts_down an_counts_down cd_counts_down ct_counts_down),sl_counts_down⟩) (c_counts_down:PySem.W.codeIn K cd_counts_down "counts_down" =true) (p_counts_down:PySem.W.keepIn K (.ref f_counts_down)=true)
    (a_all_free:PySem.W.nsIn K mainGlobals "all_free" =some (some (.ref f_all_free))) (l_all_free:K.lookup f_all_free=some ⟨oc_all_free,od_all_free,.func (PySem.W.fnOf "all_free" "all_free" (defArgs s_all_free) (defBody s_all_free) (defScope s_all_free) .none kV_all_free dc_all_free pm_all_free an_all_free cd_all_free ct_all_free),sl_all_free⟩) (c_all_free:PySem.W.codeIn K cd_all_free "all_free" =true) (p_all_free:PySem.W.keepIn K (.ref f_all_free)=true)
    (a_is_whole:PySem.W.nsIn K mainGlobals "is_whole" =some (some (.ref f_is_whole))) (l_is_whole:K.lookup f_is_whole=some ⟨oc_is_whole,od_is_whole,.func (PySem.W.fnOf "is_whole" "is_whole" (defArgs s_is_whole) (defBody s_is_whole) (defScope s_is_whole) .none kV_is_whole dc_is_whole pm_is_whole an_is_whole cd_is_whole ct_is_whole),sl_is_whole⟩) (c_is_whole:PySem.W.codeIn K cd_is_whole "is_whole" =true) (p_is_whole:PySem.W.keepIn K (.ref f_is_whole)=true)
    (a_is_mark:PySem.W.nsIn K mainGlobals "is_mark" =some (some (.ref f_is_mark))) (l_is_mark:K.lookup f_is_mark=some ⟨oc_is_mark,od_is_mark,.func (PySem.W.fnOf "is_mark" "is_mark" (defArgs s_is_mark) (defBody s_is_mark) (defScope s_is_mark) .none kV_is_mark dc_is_mark pm_is_mark an_is_mark cd_is_mark ct_is_mark),sl_is_mark⟩) (c_is_mark:PySem.W.codeIn K cd_is_mark "is_mark" =true) (p_is_mark:PySem.W.keepIn K (.ref f_is_mark)=true)
    (a_is_marks_row:PySem.W.nsIn K mainGlobals "is_marks_row" =some (some (.ref f_is_marks_row))) (l_is_marks_row:K.lookup f_is_marks_row=some ⟨oc_is_marks_row,od_is_marks_row,.func (PySem.W.fnOf "is_marks_row" "is_marks_row" (defArgs s_is_marks_row) (defBody s_is_marks_row) (defScope s_is_marks_row) .none kV_is_marks_row dc_is_marks_row pm_is_marks_row an_is_marks_row cd_is_marks_row ct_is_marks_row),sl_is_marks_row⟩) (c_is_marks_row:PySem.W.codeIn K cd_is_marks_row "is_marks_row" =true) (p_is_marks_row:PySem.W.keepIn K (.ref f_is_marks_row)=true)
    (a_is_marks:PySem.W.nsIn K mainGlobals "is_marks" =some (some (.ref f_is_marks))) (l_is_marks:K.lookup f_is_marks=some ⟨oc_is_marks,od_is_marks,.func (PySem.W.fnOf "is_marks" "is_marks" (defArgs s_is_marks) (defBody s_is_marks) (defScope s_is_marks) .none kV_is_marks dc_is_marks pm_is_marks an_is_marks cd_is_marks ct_is_marks),sl_is_marks⟩) (c_is_marks:PySem.W.codeIn K cd_is_marks "is_marks" =true) (p_is_marks:PySem.W.keepIn K (.ref f_is_marks)=true)
    (a_full_marks:PySem.W.nsIn K mainGlobals "full_marks" =some (some (.ref f_full_marks))) (l_full_marks:K.lookup f_full_marks=some ⟨oc_full_marks,od_full_marks,.func (PySem.W.fnOf "full_marks" "full_marks" (defArgs s_full_marks) (defBody s_full_marks) (defScope s_full_marks) .none kV_full_marks dc_full_marks pm_full_marks an_full_marks cd_full_marks ct_full_marks),sl_full_marks⟩) (c_full_marks:PySem.W.codeIn K cd_full_marks "full_marks" =true) (p_full_marks:PySem.W.keepIn K (.ref f_full_marks)=true)
    (a_meets_kept:PySem.W.nsIn K mainGlobals "meets_kept" =some (some (.ref f_meets_kept))) (l_meets_kept:K.lookup f_meets_kept=some ⟨oc_meets_kept,od_meets_kept,.func (PySem.W.fnOf "meets_kept" "meets_kept" (defArgs s_meets_kept) (defBody s_meets_kept) (defScope s_meets_kept) .none kV_meets_kept dc_meets_kept pm_meets_kept an_meets_kept cd_meets_kept ct_meets_kept),sl_meets_kept⟩) (c_meets_kept:PySem.W.codeIn K cd_meets_kept "meets_kept" =true) (p_meets_kept:PySem.W.keepIn K (.ref f_meets_kept)=true)
    (a_is_line:PySem.W.nsIn K mainGlobals "is_line" =some (some (.ref f_is_line))) (l_is_line:K.lookup f_is_line=some ⟨oc_is_line,od_is_line,.func (PySem.W.fnOf "is_line" "is_line" (defArgs s_is_line) (defBody s_is_line) (defScope s_is_line) .none kV_is_line dc_is_line pm_is_line an_is_line cd_is_line ct_is_line),sl_is_line⟩) (c_is_line:PySem.W.codeIn K cd_is_line "is_line" =true) (p_is_line:PySem.W.keepIn K (.ref f_is_line)=true)
    (a_is_cell:PySem.W.nsIn K mainGlobals "is_cell" =some (some (.ref f_is_cell))) (l_is_cell:K.lookup f_is_cell=some ⟨oc_is_cell,od_is_cell,.func (PySem.W.fnOf "is_cell" "is_cell" (defArgs s_is_cell) (defBody s_is_cell) (defScope s_is_cell) .none kV_is_cell dc_is_cell pm_is_cell an_is_cell cd_is_cell ct_is_cell),sl_is_cell⟩) (c_is_cell:PySem.W.codeIn K cd_is_cell "is_cell" =true) (p_is_cell:PySem.W.keepIn K (.ref f_is_cell)=true)
    (a_is_row:PySem.W.nsIn K mainGlobals "is_row" =some (some (.ref f_is_row))) (l_is_row:K.lookup f_is_row=some ⟨oc_is_row,od_is_row,.func (PySem.W.fnOf "is_row" "is_row" (defArgs s_is_row) (defBody s_is_row) (defScope s_is_row) .none kV_is_row dc_is_row pm_is_row an_is_row cd_is_row ct_is_row),sl_is_row⟩) (c_is_row:PySem.W.codeIn K cd_is_row "is_row" =true) (p_is_row:PySem.W.keepIn K (.ref f_is_row)=true)
    (a_is_picture:PySem.W.nsIn K mainGlobals "is_picture" =some (some (.ref f_is_picture))) (l_is_picture:K.lookup f_is_picture=some ⟨oc_is_picture,od_is_picture,.func (PySem.W.fnOf "is_picture" "is_picture" (defArgs s_is_picture) (defBody s_is_picture) (defScope s_is_picture) .none kV_is_picture dc_is_picture pm_is_picture an_is_picture cd_is_picture ct_is_picture),sl_is_picture⟩) (c_is_picture:PySem.W.codeIn K cd_is_picture "is_picture" =true) (p_is_picture:PySem.W.keepIn K (.ref f_is_picture)=true)
    (a_need_picture:PySem.W.nsIn K mainGlobals "need_picture" =some (some (.ref f_need_picture))) (l_need_picture:K.lookup f_need_picture=some ⟨oc_need_picture,od_need_picture,.func (PySem.W.fnOf "need_picture" "need_picture" (defArgs s_need_picture) (defBody s_need_picture) (defScope s_need_picture) .none kV_need_picture dc_need_picture pm_need_picture an_need_picture cd_need_picture ct_need_picture),sl_need_picture⟩) (c_need_picture:PySem.W.codeIn K cd_need_picture "need_picture" =true) (p_need_picture:PySem.W.keepIn K (.ref f_need_picture)=true)
    (a_is_way:PySem.W.nsIn K mainGlobals "is_way" =some (some (.ref f_is_way))) (l_is_way:K.lookup f_is_way=some ⟨oc_is_way,od_is_way,.func (PySem.W.fnOf "is_way" "is_way" (defArgs s_is_way) (defBody s_is_way) (defScope s_is_way) .none kV_is_way dc_is_way pm_is_way an_is_way cd_is_way ct_is_way),sl_is_way⟩) (c_is_way:PySem.W.codeIn K cd_is_way "is_way" =true) (p_is_way:PySem.W.keepIn K (.ref f_is_way)=true)
    (a_size_of:PySem.W.nsIn K mainGlobals "size_of" =some (some (.ref f_size_of))) (l_size_of:K.lookup f_size_of=some ⟨oc_size_of,od_size_of,.func (PySem.W.fnOf "size_of" "size_of" (defArgs s_size_of) (defBody s_size_of) (defScope s_size_of) .none kV_size_of dc_size_of pm_size_of an_size_of cd_size_of ct_size_of),sl_size_of⟩) (c_size_of:PySem.W.codeIn K cd_size_of "size_of" =true) (p_size_of:PySem.W.keepIn K (.ref f_size_of)=true)
    (a_is_seam:PySem.W.nsIn K mainGlobals "is_seam" =some (some (.ref f_is_seam))) (l_is_seam:K.lookup f_is_seam=some ⟨oc_is_seam,od_is_seam,.func (PySem.W.fnOf "is_seam" "is_seam" (defArgs s_is_seam) (defBody s_is_seam) (defScope s_is_seam) .none kV_is_seam dc_is_seam pm_is_seam an_is_seam cd_is_seam ct_is_seam),sl_is_seam⟩) (c_is_seam:PySem.W.codeIn K cd_is_seam "is_seam" =true) (p_is_seam:PySem.W.keepIn K (.ref f_is_seam)=true)
    (a_need_seam:PySem.W.nsIn K mainGlobals "need_seam" =some (some (.ref f_need_seam))) (l_need_seam:K.lookup f_need_seam=some ⟨oc_need_seam,od_need_seam,.func (PySem.W.fnOf "need_seam" "need_seam" (defArgs s_need_seam) (defBody s_need_seam) (defScope s_need_seam) .none kV_need_seam dc_need_seam pm_need_seam an_need_seam cd_need_seam ct_need_seam),sl_need_seam⟩) (c_need_seam:PySem.W.codeIn K cd_need_seam "need_seam" =true) (p_need_seam:PySem.W.keepIn K (.ref f_need_seam)=true)
    (a_number_of:PySem.W.nsIn K mainGlobals "number_of" =some (some (.ref f_number_of))) (l_number_of:K.lookup f_number_of=some ⟨oc_number_of,od_number_of,.func (PySem.W.fnOf "number_of" "number_of" (defArgs s_number_of) (defBody s_number_of) (defScope s_number_of) .none kV_number_of dc_number_of pm_number_of an_number_of cd_number_of ct_number_of),sl_number_of⟩) (c_number_of:PySem.W.codeIn K cd_number_of "number_of" =true) (p_number_of:PySem.W.keepIn K (.ref f_number_of)=true)
    (a_seam_at:PySem.W.nsIn K mainGlobals "seam_at" =some (some (.ref f_seam_at))) (l_seam_at:K.lookup f_seam_at=some ⟨oc_seam_at,od_seam_at,.func (PySem.W.fnOf "seam_at" "seam_at" (defArgs s_seam_at) (defBody s_seam_at) (defScope s_seam_at) .none kV_seam_at dc_seam_at pm_seam_at an_seam_at cd_seam_at ct_seam_at),sl_seam_at⟩) (c_seam_at:PySem.W.codeIn K cd_seam_at "seam_at" =true) (p_seam_at:PySem.W.keepIn K (.ref f_seam_at)=true)
    (a__law_no:PySem.W.nsIn K mainGlobals "_law_no" =some (some (.ref f__law_no))) (l__law_no:K.lookup f__law_no=some ⟨oc__law_no,od__law_no,.func (PySem.W.fnOf "_law_no" "_law_no" (defArgs s__law_no) (defBody s__law_no) (defScope s__law_no) .none kV__law_no dc__law_no pm__law_no an__law_no cd__law_no ct__law_no),sl__law_no⟩) (c__law_no:PySem.W.codeIn K cd__law_no "_law_no" =true) (p__law_no:PySem.W.keepIn K (.ref f__law_no)=true)
    (a__law_signs:PySem.W.nsIn K mainGlobals "_law_signs" =some (some (.ref f__law_signs))) (l__law_signs:K.lookup f__law_signs=some ⟨oc__law_signs,od__law_signs,.func (PySem.W.fnOf "_law_signs" "_law_signs" (defArgs s__law_signs) (defBody s__law_signs) (defScope s__law_signs) .none kV__law_signs dc__law_signs pm__law_signs an__law_signs cd__law_signs ct__law_signs),sl__law_signs⟩) (c__law_signs:PySem.W.codeIn K cd__law_signs "_law_signs" =true) (p__law_signs:PySem.W.keepIn K (.ref f__law_signs)=true)
    (a__law_picture:PySem.W.nsIn K mainGlobals "_law_picture" =some (some (.ref f__law_picture))) (l__law_picture:K.lookup f__law_picture=some ⟨oc__law_picture,od__law_picture,.func (PySem.W.fnOf "_law_picture" "_law_picture" (defArgs s__law_picture) (defBody s__law_picture) (defScope s__law_picture) .none kV__law_picture dc__law_picture pm__law_picture an__law_picture cd__law_picture ct__law_picture),sl__law_picture⟩) (c__law_picture:PySem.W.codeIn K cd__law_picture "_law_picture" =true) (p__law_picture:PySem.W.keepIn K (.ref f__law_picture)=true)
    (a__law_some:PySem.W.nsIn K mainGlobals "_law_some" =some (some (.ref f__law_some))) (l__law_some:K.lookup f__law_some=some ⟨oc__law_some,od__law_some,.func (PySem.W.fnOf "_law_some" "_law_some" (defArgs s__law_some) (defBody s__law_some) (defScope s__law_some) .none kV__law_some dc__law_some pm__law_some an__law_some cd__law_some ct__law_some),sl__law_some⟩) (c__law_some:PySem.W.codeIn K cd__law_some "_law_some" =true) (p__law_some:PySem.W.keepIn K (.ref f__law_some)=true)
    (a__law_ways:PySem.W.nsIn K mainGlobals "_law_ways" =some (some (.ref f__law_ways))) (l__law_ways:K.lookup f__law_ways=some ⟨oc__law_ways,od__law_ways,.func (PySem.W.fnOf "_law_ways" "_law_ways" (defArgs s__law_ways) (defBody s__law_ways) (defScope s__law_ways) .none kV__law_ways dc__law_ways pm__law_ways an__law_ways cd__law_ways ct__law_ways),sl__law_ways⟩) (c__law_ways:PySem.W.codeIn K cd__law_ways "_law_ways" =true) (p__law_ways:PySem.W.keepIn K (.ref f__law_ways)=true)
    (a_how_many:PySem.W.nsIn K mainGlobals "how_many" =some (some (.ref f_how_many))) (l_how_many:K.lookup f_how_many=some ⟨oc_how_many,od_how_many,.func (PySem.W.fnOf "how_many" "how_many" (defArgs s_how_many) (defBody s_how_many) (defScope s_how_many) .none kV_how_many dc_how_many pm_how_many an_how_many cd_how_many ct_how_many),sl_how_many⟩) (c_how_many:PySem.W.codeIn K cd_how_many "how_many" =true) (p_how_many:PySem.W.keepIn K (.ref f_how_many)=true)
    (a_law:PySem.W.nsIn K mainGlobals "law" =some (some (.ref f_law))) (l_law:K.lookup f_law=some ⟨oc_law,od_law,.func (PySem.W.fnOf "law" "law" (defArgs s_law) (defBody s_law) (defScope s_law) .none kV_law dc_law pm_law an_law cd_law ct_law),sl_law⟩) (c_law:PySem.W.codeIn K cd_law "law" =true) (p_law:PySem.W.keepIn K (.ref f_law)=true)
    (B_how_many_1:KB K (PySem.W.fnOf "how_many" "how_many" (defArgs s_how_many) (defBody s_how_many) (defScope s_how_many) .none kV_how_many dc_how_many pm_how_many an_how_many cd_how_many ct_how_many) ["picture","marks"] [] [.inr .none])
    (B_how_many_0:KB K (PySem.W.fnOf "how_many" "how_many" (defArgs s_how_many) (defBody s_how_many) (defScope s_how_many) .none kV_how_many dc_how_many pm_how_many an_how_many cd_how_many ct_how_many) ["picture","marks"] ["marks"] [.inl 0])
    (B_number_of_0:KB K (PySem.W.fnOf "number_of" "number_of" (defArgs s_number_of) (defBody s_number_of) (defScope s_number_of) .none kV_number_of dc_number_of pm_number_of an_number_of cd_number_of ct_number_of) ["picture","seam","marks"] [] [.inr .none])
    (B_number_of_1:KB K (PySem.W.fnOf "number_of" "number_of" (defArgs s_number_of) (defBody s_number_of) (defScope s_number_of) .none kV_number_of dc_number_of pm_number_of an_number_of cd_number_of ct_number_of) ["picture","seam","marks"] ["marks"] [.inl 0])
    (B_seam_at_0:KB K (PySem.W.fnOf "seam_at" "seam_at" (defArgs s_seam_at) (defBody s_seam_at) (defScope s_seam_at) .none kV_seam_at dc_seam_at pm_seam_at an_seam_at cd_seam_at ct_seam_at) ["picture","number","marks"] [] [.inr .none])
    (B_seam_at_1:KB K (PySem.W.fnOf "seam_at" "seam_at" (defArgs s_seam_at) (defBody s_seam_at) (defScope s_seam_at) .none kV_seam_at dc_seam_at pm_seam_at an_seam_at cd_seam_at ct_seam_at) ["picture","number","marks"] ["marks"] [.inl 0])
    :∃fd:FuncData,(∀(s:Shared) (v:Value),BindsTo s fd ⟨[v],[]⟩ [("_law_script",v)])∧∀(base:Heap) (c TP:Addr),K.In base→base.Ns mainGlobals mg→NestB base mg c TP→CodeIs K mg "best_counts" c→FnOk l.prog w K mg base CX0 11 fa fd ["_law_script"] (spT [(TP,"best_counts.<locals>.<lambda>")] K 1 F_law):=by
  have e:=hfa.symm.trans (PySem.W.mg_of X G a_law)
  cases e
  have X_NoNumber:XIn K C_NoNumber:=⟨v1_NoNumber,v2_NoNumber,v3_NoNumber,v4_NoNumber,v5_NoNumber,v6_NoNumber,v7_NoNumber,v8_NoNumber⟩
  have X_NoSeam:XIn K C_NoSeam:=⟨v1_NoSeam,v2_NoSeam,v3_NoSeam,v4_NoSeam,v5_NoSeam,v6_NoSeam,v7_NoSeam,v8_NoSeam⟩
  have t_SeamError:∀c C',subX c "SeamError" =true→PySem.W.nsIn K mainGlobals c=some (some (.ref C'))→PySem.W.exmOne K (.ref C') (.ref C_SeamError)=some true:=by
    intro c C' h1 h2
    rcases sub_cases h1 with rfl |rfl
    · cases o_NoSeam.symm.trans h2
      exact m_NoSeam_SeamError
    · cases o_NoNumber.symm.trans h2
      exact m_NoNumber_SeamError
  have i_NoNumber:∀c C',subX c c=true→PySem.W.nsIn K mainGlobals c=some (some (.ref C'))→XIn K C'∧PySem.W.kitOne K (.ref C') (.ref C_NoNumber)=some (subX c "NoNumber"):=by
    intro c C' h1 h2
    rcases sub_cases h1 with rfl |rfl
    · cases o_NoSeam.symm.trans h2
      exact⟨X_NoSeam,by rw[show subX "NoSeam" "NoNumber" =false from by decide];exact z_NoSeam_NoNumber⟩
    · cases o_NoNumber.symm.trans h2
      exact⟨X_NoNumber,by rw[show subX "NoNumber" "NoNumber" =true from by decide];exact z_NoNumber_NoNumber⟩
  have i_NoSeam:∀c C',subX c c=true→PySem.W.nsIn K mainGlobals c=some (some (.ref C'))→XIn K C'∧PySem.W.kitOne K (.ref C') (.ref C_NoSeam)=some (subX c "NoSeam"):=by
    intro c C' h1 h2
    rcases sub_cases h1 with rfl |rfl
    · cases o_NoSeam.symm.trans h2
      exact⟨X_NoSeam,by rw[show subX "NoSeam" "NoSeam" =true from by decide];exact z_NoSeam_NoSeam⟩
    · cases o_NoNumber.symm.trans h2
      exact⟨X_NoNumber,by rw[show subX "NoNumber" "NoSeam" =false from by decide];exact z_NoNumber_NoSeam⟩
  have T:Txt K mg:=⟨⟨_,PySem.W.mg_of X G x_FREE⟩,⟨_,PySem.W.mg_of X G x_GONE⟩,⟨_,PySem.W.mg_of X G x_KEPT⟩,⟨_,PySem.W.mg_of X G x_MOST_CELL⟩,⟨_,PySem.W.mg_of X G x_MOST_LONG⟩,PySem.W.mg_none_of X G n_abs,PySem.W.mg_none_of X G n_all,PySem.W.mg_none_of X G n_any,PySem.W.mg_none_of X G n_bool,PySem.W.mg_none_of X G n_enumerate,PySem.W.mg_none_of X G n_int,PySem.W.mg_none_of X G n_isinstance,PySem.W.mg_none_of X G n_len,PySem.W.mg_none_of X G n_list,PySem.W.mg_none_of X G n_max,PySem.W.mg_none_of X G n_min,PySem.W.mg_none_of X G n_range,PySem.W.mg_none_of X G n_reversed,PySem.W.mg_none_of X G n_sum,PySem.W.mg_none_of X G n_tuple,PySem.W.mg_none_of X G n_zip,k_int,k_bool,k_tuple,k_list,⟨C_NoNumber,o_NoNumber,PySem.W.mg_of X G o_NoNumber,e_NoNumber⟩,⟨C_NoSeam,o_NoSeam,PySem.W.mg_of X G o_NoSeam,e_NoSeam⟩,⟨C_SeamError,PySem.W.mg_of X G o_SeamError,t_SeamError⟩,⟨C_NoNumber,PySem.W.mg_of X G o_NoNumber,i_NoNumber⟩,⟨C_NoSeam,PySem.W.mg_of X G o_NoSeam,i_NoSeam⟩⟩
  have u__law_drawn:=fun_mk (st:=s__law_drawn) l__law_drawn c__law_drawn p__law_drawn
  have u__law_marks:=fun_mk (st:=s__law_marks) l__law_marks c__law_marks p__law_marks
  have u_as_good:=fun_mk (st:=s_as_good) l_as_good c_as_good p_as_good
  have u_fare_of:=fun_mk (st:=s_fare_of) l_fare_of c_fare_of p_fare_of
  have u_near:=fun_mk (st:=s_near) l_near c_near p_near
  have u_onward:=fun_mk (st:=s_onward) l_onward c_onward p_onward
  have u_swept:=fun_mk (st:=s_swept) l_swept c_swept p_swept
  have u_best_counts:=fun_mk (st:=s_best_counts) l_best_counts c_best_counts p_best_counts
  have u_gone_freed:=fun_mk (st:=s_gone_freed) l_gone_freed c_gone_freed p_gone_freed
  have u_counts_down:=fun_mk (st:=s_counts_down) l_counts_down c_counts_down p_counts_down
  have u_all_free:=fun_mk (st:=s_all_free) l_all_free c_all_free p_all_free
  have u_is_whole:=fun_mk (st:=s_is_whole) l_is_whole c_is_whole p_is_whole
  have u_is_mark:=fun_mk (st:=s_is_mark) l_is_mark c_is_mark p_is_mark
  have u_is_marks_row:=fun_mk (st:=s_is_marks_row) l_is_marks_row c_is_marks_row p_is_marks_row
  have u_is_marks:=fun_mk (st:=s_is_marks) l_is_marks c_is_marks p_is_marks
  have u_full_marks:=fun_mk (st:=s_full_marks) l_full_marks c_full_marks p_full_marks
  have u_meets_kept:=fun_mk (st:=s_meets_kept) l_meets_kept c_meets_kept p_meets_kept
  have u_is_line:=fun_mk (st:=s_is_line) l_is_line c_is_line p_is_line
  have u_is_cell:=fun_mk (st:=s_is_cell) l_is_cell c_is_cell p_is_cell
  have u_is_row:=fun_mk (st:=s_is_row) l_is_row c_is_row p_is_row
  have u_is_picture:=fun_mk (st:=s_is_picture) l_is_picture c_is_picture p_is_picture
  have u_need_picture:=fun_mk (st:=s_need_picture) l_need_picture c_need_picture p_need_picture
  have u_is_way:=fun_mk (st:=s_is_way) l_is_way c_is_way p_is_way
  have u_size_of:=fun_mk (st:=s_size_of) l_size_of c_size_of p_size_of
  have u_is_seam:=fun_mk (st:=s_is_seam) l_is_seam c_is_seam p_is_seam
  have u_need_seam:=fun_mk (st:=s_need_seam) l_need_seam c_need_seam p_need_seam
  have u_number_of:=fun_mk (st:=s_number_of) l_number_of c_number_of p_number_of
  have u_seam_at:=fun_mk (st:=s_seam_at) l_seam_at c_seam_at p_seam_at
  have u__law_no:=fun_mk (st:=s__law_no) l__law_no c__law_no p__law_no
  have u__law_signs:=fun_mk (st:=s__law_signs) l__law_signs c__law_signs p__law_signs
  have u__law_picture:=fun_mk (st:=s__law_picture) l__law_picture c__law_picture p__law_picture
  have u__law_some:=fun_mk (st:=s__law_some) l__law_some c__law_some p__law_some
  have u__law_ways:=fun_mk (st:=s__law_ways) l__law_ways c__law_ways p__law_ways
  have u_how_many:=fun_mk (st:=s_how_many) l_how_many c_how_many p_how_many
  have u_law:=fun_mk (st:=s_law) l_law c_law p_law
  have b__law_drawn:=u__law_drawn.binds (ps:=["_law_script","_law_k","_law_many"]) fun _ _ _ _ _ _ us hl=>lk3 hl fun _ _ _=>rfl
  have b__law_marks:=u__law_marks.binds (ps:=["_law_script","_law_at","_law_picture_here"]) fun _ _ _ _ _ _ us hl=>lk3 hl fun _ _ _=>rfl
  have b_as_good:=u_as_good.binds (ps:=["told"]) fun _ _ _ _ _ _ us hl=>lk1 hl fun _=>rfl
  have b_fare_of:=u_fare_of.binds (ps:=["row","above","place"]) fun _ _ _ _ _ _ us hl=>lk3 hl fun _ _ _=>rfl
  have b_near:=u_near.binds (ps:=["place","wide"]) fun _ _ _ _ _ _ us hl=>lk2 hl fun _ _=>rfl
  have b_onward:=u_onward.binds (ps:=["beneath","row","x"]) fun _ _ _ _ _ _ us hl=>lk3 hl fun _ _ _=>rfl
  have b_swept:=u_swept.binds (ps:=["table","marks","start","gather"]) fun _ _ _ _ _ _ us hl=>lk4 hl fun _ _ _ _=>rfl
  have b_best_counts:=u_best_counts.binds (ps:=["table","marks"]) fun _ _ _ _ _ _ us hl=>lk2 hl fun _ _=>rfl
  have b_gone_freed:=u_gone_freed.binds (ps:=["marks"]) fun _ _ _ _ _ _ us hl=>lk1 hl fun _=>rfl
  have b_counts_down:=u_counts_down.binds (ps:=["marks"]) fun _ _ _ _ _ _ us hl=>lk1 hl fun _=>rfl
  have b_all_free:=u_all_free.binds (ps:=["picture"]) fun _ _ _ _ _ _ us hl=>lk1 hl fun _=>rfl
  have b_is_whole:=u_is_whole.binds (ps:=["thing"]) fun _ _ _ _ _ _ us hl=>lk1 hl fun _=>rfl
  have b_is_mark:=u_is_mark.binds (ps:=["thing"]) fun _ _ _ _ _ _ us hl=>lk1 hl fun _=>rfl
  have b_is_marks_row:=u_is_marks_row.binds (ps:=["thing","wide"]) fun _ _ _ _ _ _ us hl=>lk2 hl fun _ _=>rfl
  have b_is_marks:=u_is_marks.binds (ps:=["thing","picture"]) fun _ _ _ _ _ _ us hl=>lk2 hl fun _ _=>rfl
  have b_full_marks:=u_full_marks.binds (ps:=["thing","picture"]) fun _ _ _ _ _ _ us hl=>lk2 hl fun _ _=>rfl
  have b_meets_kept:=u_meets_kept.binds (ps:=["seam","marks"]) fun _ _ _ _ _ _ us hl=>lk2 hl fun _ _=>rfl
  have b_is_line:=u_is_line.binds (ps:=["thing"]) fun _ _ _ _ _ _ us hl=>lk1 hl fun _=>rfl
  have b_is_cell:=u_is_cell.binds (ps:=["thing"]) fun _ _ _ _ _ _ us hl=>lk1 hl fun _=>rfl
  have b_is_row:=u_is_row.binds (ps:=["thing"]) fun _ _ _ _ _ _ us hl=>lk1 hl fun _=>rfl
  have b_is_picture:=u_is_picture.binds (ps:=["thing"]) fun _ _ _ _ _ _ us hl=>lk1 hl fun _=>rfl
  have b_need_picture:=u_need_picture.binds (ps:=["thing"]) fun _ _ _ _ _ _ us hl=>lk1 hl fun _=>rfl
  have b_is_way:=u_is_way.binds (ps:=["thing","wide","high"]) fun _ _ _ _ _ _ us hl=>lk3 hl fun _ _ _=>rfl
  have b_size_of:=u_size_of.binds (ps:=["picture"]) fun _ _ _ _ _ _ us hl=>lk1 hl fun _=>rfl
  have b_is_seam:=u_is_seam.binds (ps:=["thing","picture"]) fun _ _ _ _ _ _ us hl=>lk2 hl fun _ _=>rfl
  have b_need_seam:=u_need_seam.binds (ps:=["thing","picture"]) fun _ _ _ _ _ _ us hl=>lk2 hl fun _ _=>rfl
  have b__law_no:=u__law_no.binds (ps:=["_law_way","_law_picture_here","_law_thing"]) fun _ _ _ _ _ _ us hl=>lk3 hl fun _ _ _=>rfl
  have b__law_signs:=u__law_signs.binds (ps:=["_law_tags","_law_seam","_law_sign"]) fun _ _ _ _ _ _ us hl=>lk3 hl fun _ _ _=>rfl
  have b__law_picture:=u__law_picture.binds (ps:=["_law_script","_law_at","_law_broad","_law_tall"]) fun _ _ _ _ _ _ us hl=>lk4 hl fun _ _ _ _=>rfl
  have b__law_some:=u__law_some.binds (ps:=["_law_script","_law_at","_law_broad","_law_tall"]) fun _ _ _ _ _ _ us hl=>lk4 hl fun _ _ _ _=>rfl
  have b__law_ways:=u__law_ways.binds (ps:=["_law_broad","_law_tall"]) fun _ _ _ _ _ _ us hl=>lk2 hl fun _ _=>rfl
  have b_law:=u_law.binds (ps:=["_law_script"]) fun _ _ _ _ _ _ us hl=>lk1 hl fun _=>rfl
  refine⟨PySem.W.fnOf "law" "law" (defArgs s_law) (defBody s_law) (defScope s_law) .none kV_law dc_law pm_law an_law cd_law ct_law,fun s v=> .of_eq rfl,fun base cN TP _ _ hB hCI=>?_⟩
  have G__law_drawn:FnD l.prog w K mg base 1 "_law_drawn" 3 F__law_drawn:=ok__law_drawn u__law_drawn (PySem.W.mg_of X G a__law_drawn) b__law_drawn T
  have G__law_marks:FnD l.prog w K mg base 2 "_law_marks" 3 F__law_marks:=ok__law_marks u__law_marks (PySem.W.mg_of X G a__law_marks) b__law_marks T G__law_drawn
  have G_as_good:FnD l.prog w K mg base 1 "as_good" 1 F_as_good:=ok_as_good u_as_good (PySem.W.mg_of X G a_as_good) b_as_good T
  have G_fare_of:FnD l.prog w K mg base 1 "fare_of" 3 F_fare_of:=ok_fare_of u_fare_of (PySem.W.mg_of X G a_fare_of) b_fare_of T
  have G_near:FnD l.prog w K mg base 1 "near" 2 F_near:=ok_near u_near (PySem.W.mg_of X G a_near) b_near T
  have G_onward:FnD l.prog w K mg base 2 "onward" 3 F_onward:=ok_onward u_onward (PySem.W.mg_of X G a_onward) b_onward T G_fare_of G_near
  have G_swept:=ok_swept (P:=l.prog) (w:=w) (base:=base) u_swept (PySem.W.mg_of X G a_swept) b_swept T G_onward
  have G_best_counts:=ok_best_counts (P:=l.prog) (w:=w) (base:=base) u_best_counts (PySem.W.mg_of X G a_best_counts) T G_swept G_as_good hB hCI
  have G_gone_freed:FnD l.prog w K mg base 1 "gone_freed" 1 F_gone_freed:=ok_gone_freed u_gone_freed (PySem.W.mg_of X G a_gone_freed) b_gone_freed T
  have G_counts_down:=ok_counts_down (P:=l.prog) (w:=w) (base:=base) u_counts_down (PySem.W.mg_of X G a_counts_down) T G_best_counts b_best_counts G_gone_freed
  have G_all_free:FnD l.prog w K mg base 1 "all_free" 1 F_all_free:=ok_all_free u_all_free (PySem.W.mg_of X G a_all_free) b_all_free T
  have G_is_whole:FnD l.prog w K mg base 1 "is_whole" 1 F_is_whole:=ok_is_whole u_is_whole (PySem.W.mg_of X G a_is_whole) b_is_whole T
  have G_is_mark:FnD l.prog w K mg base 2 "is_mark" 1 F_is_mark:=ok_is_mark u_is_mark (PySem.W.mg_of X G a_is_mark) b_is_mark T G_is_whole
  have G_is_marks_row:FnD l.prog w K mg base 3 "is_marks_row" 2 F_is_marks_row:=ok_is_marks_row u_is_marks_row (PySem.W.mg_of X G a_is_marks_row) b_is_marks_row T G_is_mark
  have G_is_marks:FnD l.prog w K mg base 4 "is_marks" 2 F_is_marks:=ok_is_marks u_is_marks (PySem.W.mg_of X G a_is_marks) b_is_marks T G_is_marks_row
  have G_full_marks:FnD l.prog w K mg base 5 "full_marks" 2 F_full_marks:=ok_full_marks u_full_marks (PySem.W.mg_of X G a_full_marks) b_full_marks T G_all_free G_is_marks
  have G_meets_kept:FnD l.prog w K mg base 1 "meets_kept" 2 F_meets_kept:=ok_meets_kept u_meets_kept (PySem.W.mg_of X G a_meets_kept) b_meets_kept T
  have G_is_line:FnD l.prog w K mg base 1 "is_line" 1 F_is_line:=ok_is_line u_is_line (PySem.W.mg_of X G a_is_line) b_is_line T
  have G_is_cell:FnD l.prog w K mg base 2 "is_cell" 1 F_is_cell:=ok_is_cell u_is_cell (PySem.W.mg_of X G a_is_cell) b_is_cell T G_is_whole
  have G_is_row:FnD l.prog w K mg base 3 "is_row" 1 F_is_row:=ok_is_row u_is_row (PySem.W.mg_of X G a_is_row) b_is_row T G_is_cell G_is_line
  have G_is_picture:FnD l.prog w K mg base 4 "is_picture" 1 F_is_picture:=ok_is_picture u_is_picture (PySem.W.mg_of X G a_is_picture) b_is_picture T G_is_line G_is_row
  have G_need_picture:FnD l.prog w K mg base 5 "need_picture" 1 F_need_picture:=ok_need_picture u_need_picture (PySem.W.mg_of X G a_need_picture) b_need_picture T G_is_picture
  have G_is_way:FnD l.prog w K mg base 2 "is_way" 3 F_is_way:=ok_is_way u_is_way (PySem.W.mg_of X G a_is_way) b_is_way T G_is_whole
  have G_size_of:FnD l.prog w K mg base 6 "size_of" 1 F_size_of:=ok_size_of u_size_of (PySem.W.mg_of X G a_size_of) b_size_of T G_need_picture
  have G_is_seam:FnD l.prog w K mg base 7 "is_seam" 2 F_is_seam:=ok_is_seam u_is_seam (PySem.W.mg_of X G a_is_seam) b_is_seam T G_is_way G_size_of
  have G_need_seam:=ok_need_seam (P:=l.prog) (w:=w) (base:=base) (tsv:=[(TP,"best_counts.<locals>.<lambda>")]) u_need_seam (PySem.W.mg_of X G a_need_seam) T G_is_seam
  have G_number_of:=ok_number_of (P:=l.prog) (w:=w) (base:=base) (tsv:=[(TP,"best_counts.<locals>.<lambda>")]) u_number_of (PySem.W.mg_of X G a_number_of) T G_counts_down b_counts_down G_full_marks G_meets_kept G_near G_need_picture G_need_seam b_need_seam
  have G_seam_at:=ok_seam_at (P:=l.prog) (w:=w) (base:=base) (tsv:=[(TP,"best_counts.<locals>.<lambda>")]) u_seam_at (PySem.W.mg_of X G a_seam_at) T G_counts_down b_counts_down G_full_marks G_is_whole G_near G_need_picture
  have G__law_no:=ok__law_no (P:=l.prog) (w:=w) (base:=base) u__law_no (PySem.W.mg_of X G a__law_no) T G_number_of G_seam_at B_number_of_0 B_seam_at_0
  have G__law_signs:FnD l.prog w K mg base 1 "_law_signs" 3 F__law_signs:=ok__law_signs u__law_signs (PySem.W.mg_of X G a__law_signs) b__law_signs T
  have G__law_picture:FnD l.prog w K mg base 2 "_law_picture" 4 F__law_picture:=ok__law_picture u__law_picture (PySem.W.mg_of X G a__law_picture) b__law_picture T G__law_drawn
  have G__law_some:FnD l.prog w K mg base 3 "_law_some" 4 F__law_some:=ok__law_some u__law_some (PySem.W.mg_of X G a__law_some) b__law_some T G__law_drawn G__law_picture
  have G__law_ways:FnD l.prog w K mg base 1 "_law_ways" 2 F__law_ways:=ok__law_ways u__law_ways (PySem.W.mg_of X G a__law_ways) b__law_ways T
  have G_how_many:=ok_how_many (P:=l.prog) (w:=w) (base:=base) u_how_many (PySem.W.mg_of X G a_how_many) T G_counts_down b_counts_down G_full_marks G_need_picture
  have G_law:=ok_law (P:=l.prog) (w:=w) (base:=base) u_law (PySem.W.mg_of X G a_law) T G__law_drawn G__law_marks G__law_no b__law_no G__law_signs G__law_some G__law_ways G_how_many G_number_of G_seam_at B_how_many_1 B_how_many_0 B_number_of_0 B_number_of_1 B_seam_at_0 B_seam_at_1
  obtain⟨f',ok',hm',_⟩:=G_law
  cases (PySem.W.mg_of X G a_law).symm.trans hm'
  exact ok'
end K20
namespace K20
open PySem PySem.Spec L2 Pu
theorem walk {l:PySem.W.OpenLaw} {q:Program} {loose:List Str} {XP:(Str→Option Value)→Heap→Prop} {YP:World→Heap→Prop} {d:DefRec} {K:Params→PySem.W.Frag} (hn:l.most=some 63) (hdf:d.params.defaults=[])
    (hY:∀(w:World) (h:Heap),YP w h→(K w.params).In h) (hnt:∀w:World,PySem.W.noTabs (K w.params)=true) (hrec:∃dy,(PyProof.Rows.recsOf q).find? (fun e:DefRec=>e.name ==("best_counts" :Str))=some dy)
    (F:∀(w:World) (mg:Str→Option Value) (fa:Addr) (h:Heap),(K w.params).In h→h.Ns mainGlobals mg→mg d.name=some (.ref fa)→
      ∃fd:FuncData,(∀(s:Shared) (u:Value),BindsTo s fd ⟨[u],[]⟩ [("_law_script",u)])∧∀(base:Heap) (c T:Addr),(K w.params).In base→base.Ns mainGlobals mg→NestB base mg c T→CodeIs (K w.params) mg "best_counts" c→FnOk l.prog w (K w.params) mg base CX0 11 fa fd ["_law_script"] (spT [(T,"best_counts.<locals>.<lambda>")] (K w.params) 1 F_law)):
    PySem.W.WalkO q loose XP YP l.row.toRowW d [] (fun f vs=>PySem.call f vs):=
  Pu.walkT (n:=63) (k:=11) (x:= "_law_script") (y:= "best_counts") (q:= "best_counts.<locals>.<lambda>") (FL:=F_law) hn (by decide) hdf ⟨rfl,by decide,by decide⟩ hY hnt (by obtain⟨dy,e⟩:=hrec;exact⟨dy,List.mem_of_find?_eq_some e,beq_iff_eq.mp (List.find?_some (p:=fun e:DefRec=>e.name ==("best_counts" :Str)) e)⟩) F law_true
end K20
open PySem PySem.W PyProof.Rows
set_option bootstrap.genMatcherCode true
set_option compiler.extract_closed true
set_option maxRecDepth 100000 in
set_option maxHeartbeats 0 in
theorem PySem.Challenge.cw_seamhall_k20_ranks_holds : PySem.Challenge.rw_seamhall_k20_ranks.Holds := by
  w_on;o_law;k_head;(case hw=>w_witness2)
  k_fill
  refine K20.walk (l:=PySem.Challenge.rw_seamhall_k20_ranks) rfl rfl (fun w h Y=>PySem.W.km_in_of Y) ?nt ?rec ?F
  case nt=>intro w;kernel_rfl
  case rec=>exact⟨_,rfl⟩
  case F=>
    intro w mg fa h KX G hmg
    refine' K20.all_mk KX G hmg ?x_FREE ?x_GONE ?x_KEPT ?x_MOST_CELL ?x_MOST_LONG ?n_abs ?n_all ?n_any ?n_bool ?n_enumerate ?n_int ?n_isinstance ?n_len ?n_list ?n_max ?n_min ?n_range ?n_reversed ?n_sum ?n_tuple ?n_zip ?k_int ?k_bool ?k_tuple ?k_list ?o_NoNumber ?o_NoSeam ?o_SeamError ?e_NoNumber ?v1_NoNumber ?v2_NoNumber ?v3_NoNumber ?v4_NoNumber ?v5_NoNumber ?v6_NoNumber ?v7_NoNumber ?v8_NoNumber ?m_NoNumber_SeamError ?z_NoNumber_NoNumber ?z_NoNumber_NoSeam ?e_NoSeam ?v1_NoSeam ?v2_NoSeam ?v3_NoSeam ?v4_NoSeam ?v5_NoSeam ?v6_NoSeam ?v7_NoSeam ?v8_NoSeam ?m_NoSeam_SeamError ?z_NoSeam_NoNumber ?z_NoSeam_NoSeam ?a__law_drawn ?l__law_drawn ?c__law_drawn ?p__law_drawn ?a__law_marks ?l__law_marks ?c__law_marks ?p__law_marks ?a_as_good ?l_as_good ?c_as_good ?p_as_good ?a_fare_of ?l_fare_of ?c_fare_of ?p_fare_of ?a_near ?l_near ?c_near ?p_near ?a_onward ?l_onward ?c_onward ?p_onward ?a_swept ?l_swept ?c_swept ?p_swept ?a_best_counts ?l_best_counts ?c_best_counts ?p_best_counts ?a_gone_freed ?l_gone_freed ?c_gone_freed ?p_gone_freed ?a_counts_down ?l_counts_down ?c_counts_down ?p_counts_down ?a_all_free ?l_all_free ?c_all_free ?p_all_free ?a_is_whole ?l_is_whole ?c_is_whole ?p_is_whole ?a_is_mark ?l_is_mark ?c_is_mark ?p_is_mark ?a_is_marks_row ?l_is_marks_row ?c_is_marks_row ?p_is_marks_row ?a_is_marks ?l_is_marks ?c_is_marks ?p_is_marks ?a_full_marks ?l_full_marks ?c_full_marks ?p_full_marks ?a_meets_kept ?l_meets_kept ?c_meets_kept ?p_meets_kept ?a_is_line ?l_is_line ?c_is_line ?p_is_line ?a_is_cell ?l_is_cell ?c_is_cell ?p_is_cell ?a_is_row ?l_is_row ?c_is_row ?p_is_row ?a_is_picture ?l_is_picture ?c_is_picture ?p_is_picture ?a_need_picture ?l_need_picture ?c_need_picture ?p_need_picture ?a_is_way ?l_is_way ?c_is_way ?p_is_way ?a_size_of ?l_size_of ?c_size_of ?p_size_of ?a_is_seam ?l_is_seam ?c_is_seam ?p_is_seam ?a_need_seam ?l_need_seam ?c_need_seam ?p_need_seam ?a_number_of ?l_number_of ?c_number_of ?p_number_of ?a_seam_at ?l_seam_at ?c_seam_at ?p_seam_at ?a__law_no ?l__law_no ?c__law_no ?p__law_no ?a__law_signs ?l__law_signs ?c__law_signs ?p__law_signs ?a__law_picture ?l__law_picture ?c__law_picture ?p__law_picture ?a__law_some ?l__law_some ?c__law_some ?p__law_some ?a__law_ways ?l__law_ways ?c__law_ways ?p__law_ways ?a_how_many ?l_how_many ?c_how_many ?p_how_many ?a_law ?l_law ?c_law ?p_law ?B_how_many_1 ?B_how_many_0 ?B_number_of_0 ?B_number_of_1 ?B_seam_at_0 ?B_seam_at_1
    (case x_FREE=>k_is)
    (case x_GONE=>k_is)
    (case x_KEPT=>k_is)
    (case x_MOST_CELL=>k_is)
    (case x_MOST_LONG=>k_is)
    (case n_abs=>k_is)
    (case n_all=>k_is)
    (case n_any=>k_is)
    (case n_bool=>k_is)
    (case n_enumerate=>k_is)
    (case n_int=>k_is)
    (case n_isinstance=>k_is)
    (case n_len=>k_is)
    (case n_list=>k_is)
    (case n_max=>k_is)
    (case n_min=>k_is)
    (case n_range=>k_is)
    (case n_reversed=>k_is)
    (case n_sum=>k_is)
    (case n_tuple=>k_is)
    (case n_zip=>k_is)
    (case k_int=>intro d;cases d;(show PySem.W.kitOne _ (Value.type "NoneType") (Value.type "int")=some false);kit_is;(show PySem.W.kitOne _ (Value.type "bool") (Value.type "int")=some true);kit_is;(show PySem.W.kitOne _ (Value.type "int") (Value.type "int")=some true);kit_is;(show PySem.W.kitOne _ (Value.type "str") (Value.type "int")=some false);kit_is;(show PySem.W.kitOne _ (Value.type "tuple") (Value.type "int")=some false);kit_is;(show PySem.W.kitOne _ (Value.type "list") (Value.type "int")=some false);kit_is)
    (case k_bool=>intro d;cases d;(show PySem.W.kitOne _ (Value.type "NoneType") (Value.type "bool")=some false);kit_is;(show PySem.W.kitOne _ (Value.type "bool") (Value.type "bool")=some true);kit_is;(show PySem.W.kitOne _ (Value.type "int") (Value.type "bool")=some false);kit_is;(show PySem.W.kitOne _ (Value.type "str") (Value.type "bool")=some false);kit_is;(show PySem.W.kitOne _ (Value.type "tuple") (Value.type "bool")=some false);kit_is;(show PySem.W.kitOne _ (Value.type "list") (Value.type "bool")=some false);kit_is)
    (case k_tuple=>intro d;cases d;(show PySem.W.kitOne _ (Value.type "NoneType") (Value.type "tuple")=some false);kit_is;(show PySem.W.kitOne _ (Value.type "bool") (Value.type "tuple")=some false);kit_is;(show PySem.W.kitOne _ (Value.type "int") (Value.type "tuple")=some false);kit_is;(show PySem.W.kitOne _ (Value.type "str") (Value.type "tuple")=some false);kit_is;(show PySem.W.kitOne _ (Value.type "tuple") (Value.type "tuple")=some true);kit_is;(show PySem.W.kitOne _ (Value.type "list") (Value.type "tuple")=some false);kit_is)
    (case k_list=>intro d;cases d;(show PySem.W.kitOne _ (Value.type "NoneType") (Value.type "list")=some false);kit_is;(show PySem.W.kitOne _ (Value.type "bool") (Value.type "list")=some false);kit_is;(show PySem.W.kitOne _ (Value.type "int") (Value.type "list")=some false);kit_is;(show PySem.W.kitOne _ (Value.type "str") (Value.type "list")=some false);kit_is;(show PySem.W.kitOne _ (Value.type "tuple") (Value.type "list")=some false);kit_is;(show PySem.W.kitOne _ (Value.type "list") (Value.type "list")=some true);kit_is)
    (case o_NoNumber=>k_is)
    (case o_NoSeam=>k_is)
    (case o_SeamError=>k_is)
    (case e_NoNumber=>k_exc)
    (case v1_NoNumber=>first |k_is |kernel_rfl)
    (case v2_NoNumber=>first |k_is |kernel_rfl)
    (case v3_NoNumber=>first |k_is |kernel_rfl)
    (case v4_NoNumber=>first |k_is |kernel_rfl)
    (case v5_NoNumber=>first |k_is |kernel_rfl)
    (case v6_NoNumber=>first |k_is |kernel_rfl)
    (case v7_NoNumber=>first |k_is |kernel_rfl)
    (case v8_NoNumber=>first |k_is |kernel_rfl)
    (case m_NoNumber_SeamError=>first |k_is |kernel_rfl)
    (case z_NoNumber_NoNumber=>kit_is)
    (case z_NoNumber_NoSeam=>kit_is)
    (case e_NoSeam=>k_exc)
    (case v1_NoSeam=>first |k_is |kernel_rfl)
    (case v2_NoSeam=>first |k_is |kernel_rfl)
    (case v3_NoSeam=>first |k_is |kernel_rfl)
    (case v4_NoSeam=>first |k_is |kernel_rfl)
    (case v5_NoSeam=>first |k_is |kernel_rfl)
    (case v6_NoSeam=>first |k_is |kernel_rfl)
    (case v7_NoSeam=>first |k_is |kernel_rfl)
    (case v8_NoSeam=>first |k_is |kernel_rfl)
    (case m_NoSeam_SeamError=>first |k_is |kernel_rfl)
    (case z_NoSeam_NoNumber=>kit_is)
    (case z_NoSeam_NoSeam=>kit_is)
    (case a__law_drawn=>k_is)
    (case l__law_drawn=>k_is)
    (case c__law_drawn=>k_is)
    (case p__law_drawn=>k_is)
    (case a__law_marks=>k_is)
    (case l__law_marks=>k_is)
    (case c__law_marks=>k_is)
    (case p__law_marks=>k_is)
    (case a_as_good=>k_is)
    (case l_as_good=>k_is)
    (case c_as_good=>k_is)
    (case p_as_good=>k_is)
    (case a_fare_of=>k_is)
    (case l_fare_of=>k_is)
    (case c_fare_of=>k_is)
    (case p_fare_of=>k_is)
    (case a_near=>k_is)
    (case l_near=>k_is)
    (case c_near=>k_is)
    (case p_near=>k_is)
    (case a_onward=>k_is)
    (case l_onward=>k_is)
    (case c_onward=>k_is)
    (case p_onward=>k_is)
    (case a_swept=>k_is)
    (case l_swept=>k_is)
    (case c_swept=>k_is)
    (case p_swept=>k_is)
    (case a_best_counts=>k_is)
    (case l_best_counts=>k_is)
    (case c_best_counts=>k_is)
    (case p_best_counts=>k_is)
    (case a_gone_freed=>k_is)
    (case l_gone_freed=>k_is)
    (case c_gone_freed=>k_is)
    (case p_gone_freed=>k_is)
    (case a_counts_down=>k_is)
    (case l_counts_down=>k_is)
    (case c_counts_down=>k_is)
    (case p_counts_down=>k_is)
    (case a_all_free=>k_is)
    (case l_all_free=>k_is)
    (case c_all_free=>k_is)
    (case p_all_free=>k_is)
    (case a_is_whole=>k_is)
    (case l_is_whole=>k_is)
    (case c_is_whole=>k_is)
    (case p_is_whole=>k_is)
    (case a_is_mark=>k_is)
    (case l_is_mark=>k_is)
    (case c_is_mark=>k_is)
    (case p_is_mark=>k_is)
    (case a_is_marks_row=>k_is)
    (case l_is_marks_row=>k_is)
    (case c_is_marks_row=>k_is)
    (case p_is_marks_row=>k_is)
    (case a_is_marks=>k_is)
    (case l_is_marks=>k_is)
    (case c_is_marks=>k_is)
    (case p_is_marks=>k_is)
    (case a_full_marks=>k_is)
    (case l_full_marks=>k_is)
    (case c_full_marks=>k_is)
    (case p_full_marks=>k_is)
    (case a_meets_kept=>k_is)
    (case l_meets_kept=>k_is)
    (case c_meets_kept=>k_is)
    (case p_meets_kept=>k_is)
    (case a_is_line=>k_is)
    (case l_is_line=>k_is)
    (case c_is_line=>k_is)
    (case p_is_line=>k_is)
    (case a_is_cell=>k_is)
    (case l_is_cell=>k_is)
    (case c_is_cell=>k_is)
    (case p_is_cell=>k_is)
    (case a_is_row=>k_is)
    (case l_is_row=>k_is)
    (case c_is_row=>k_is)
    (case p_is_row=>k_is)
    (case a_is_picture=>k_is)
    (case l_is_picture=>k_is)
    (case c_is_picture=>k_is)
    (case p_is_picture=>k_is)
    (case a_need_picture=>k_is)
    (case l_need_picture=>k_is)
    (case c_need_picture=>k_is)
    (case p_need_picture=>k_is)
    (case a_is_way=>k_is)
    (case l_is_way=>k_is)
    (case c_is_way=>k_is)
    (case p_is_way=>k_is)
    (case a_size_of=>k_is)
    (case l_size_of=>k_is)
    (case c_size_of=>k_is)
    (case p_size_of=>k_is)
    (case a_is_seam=>k_is)
    (case l_is_seam=>k_is)
    (case c_is_seam=>k_is)
    (case p_is_seam=>k_is)
    (case a_need_seam=>k_is)
    (case l_need_seam=>k_is)
    (case c_need_seam=>k_is)
    (case p_need_seam=>k_is)
    (case a_number_of=>k_is)
    (case l_number_of=>k_is)
    (case c_number_of=>k_is)
    (case p_number_of=>k_is)
    (case a_seam_at=>k_is)
    (case l_seam_at=>k_is)
    (case c_seam_at=>k_is)
    (case p_seam_at=>k_is)
    (case a__law_no=>k_is)
    (case l__law_no=>k_is)
    (case c__law_no=>k_is)
    (case p__law_no=>k_is)
    (case a__law_signs=>k_is)
    (case l__law_signs=>k_is)
    (case c__law_signs=>k_is)
    (case p__law_signs=>k_is)
    (case a__law_picture=>k_is)
    (case l__law_picture=>k_is)
    (case c__law_picture=>k_is)
    (case p__law_picture=>k_is)
    (case a__law_some=>k_is)
    (case l__law_some=>k_is)
    (case c__law_some=>k_is)
    (case p__law_some=>k_is)
    (case a__law_ways=>k_is)
    (case l__law_ways=>k_is)
    (case c__law_ways=>k_is)
    (case p__law_ways=>k_is)
    (case a_how_many=>k_is)
    (case l_how_many=>k_is)
    (case c_how_many=>k_is)
    (case p_how_many=>k_is)
    (case a_law=>k_is)
    (case l_law=>k_is)
    (case c_law=>k_is)
    (case p_law=>k_is)
    (case B_how_many_1=>intro s us ws i hl hw;have h0:us.length=1:=(by simp only[List.length_cons,List.length_nil] at hl;omega);clear hl;obtain⟨u0,us0,rfl,h1⟩:=Pu.lenS h0;clear h0;cases Pu.len0 h1;have g0:ws.length=0:=hw;clear hw;cases Pu.len0 g0;exact PySem.W.kp_binds i (fun S=>rfl))
    (case B_how_many_0=>intro s us ws i hl hw;have h0:us.length=1:=(by simp only[List.length_cons,List.length_nil] at hl;omega);clear hl;obtain⟨u0,us0,rfl,h1⟩:=Pu.lenS h0;clear h0;cases Pu.len0 h1;have g0:ws.length=1:=hw;clear hw;obtain⟨w0,ws0,rfl,g1⟩:=Pu.lenS g0;clear g0;cases Pu.len0 g1;exact PySem.W.kp_binds i (fun S=>rfl))
    (case B_number_of_0=>intro s us ws i hl hw;have h0:us.length=2:=(by simp only[List.length_cons,List.length_nil] at hl;omega);clear hl;obtain⟨u0,us0,rfl,h1⟩:=Pu.lenS h0;clear h0;obtain⟨u1,us1,rfl,h2⟩:=Pu.lenS h1;clear h1;cases Pu.len0 h2;have g0:ws.length=0:=hw;clear hw;cases Pu.len0 g0;exact PySem.W.kp_binds i (fun S=>rfl))
    (case B_number_of_1=>intro s us ws i hl hw;have h0:us.length=2:=(by simp only[List.length_cons,List.length_nil] at hl;omega);clear hl;obtain⟨u0,us0,rfl,h1⟩:=Pu.lenS h0;clear h0;obtain⟨u1,us1,rfl,h2⟩:=Pu.lenS h1;clear h1;cases Pu.len0 h2;have g0:ws.length=1:=hw;clear hw;obtain⟨w0,ws0,rfl,g1⟩:=Pu.lenS g0;clear g0;cases Pu.len0 g1;exact PySem.W.kp_binds i (fun S=>rfl))
    (case B_seam_at_0=>intro s us ws i hl hw;have h0:us.length=2:=(by simp only[List.length_cons,List.length_nil] at hl;omega);clear hl;obtain⟨u0,us0,rfl,h1⟩:=Pu.lenS h0;clear h0;obtain⟨u1,us1,rfl,h2⟩:=Pu.lenS h1;clear h1;cases Pu.len0 h2;have g0:ws.length=0:=hw;clear hw;cases Pu.len0 g0;exact PySem.W.kp_binds i (fun S=>rfl))
    (case B_seam_at_1=>intro s us ws i hl hw;have h0:us.length=2:=(by simp only[List.length_cons,List.length_nil] at hl;omega);clear hl;obtain⟨u0,us0,rfl,h1⟩:=Pu.lenS h0;clear h0;obtain⟨u1,us1,rfl,h2⟩:=Pu.lenS h1;clear h1;cases Pu.len0 h2;have g0:ws.length=1:=hw;clear hw;obtain⟨w0,ws0,rfl,g1⟩:=Pu.lenS g0;clear g0;cases Pu.len0 g1;exact PySem.W.kp_binds i (fun S=>rfl))
