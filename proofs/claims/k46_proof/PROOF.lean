import PyProof.Rows.All
import Wide.All
import OpenK.AllK
import Wide.FinOn
import Lean
import PyProof.EqAt
import PyProof.EqKinds
import PyProof.TupleCall
import PyProof.NeKinds
import PySem.Challenge.RW_seamhall_k46_whole_papers
set_option bootstrap.genMatcherCode false
set_option compiler.extract_closed false
set_option Elab.async false
set_option linter.all false
set_option maxRecDepth 100000
set_option maxHeartbeats 4000000
namespace L2
open PySem PySem.Spec PyProof.Rows
noncomputable abbrev Key:=Sum Int Str
noncomputable def keyIs:Key→Value→Bool
  | .inl k,v=>Value.isInt k v
  | .inr x,v=>Value.isStrOf x v
noncomputable def keyH (w:World):Key→Int
  | .inl k=>hashInt k
  | .inr x=>hashStr w x
theorem keyIs_shape:∀{k:Key} {v:Value},keyIs k v=true→(∃i t,k=Sum.inl i∧v=Value.int i t)∨(∃x t,k=Sum.inr x∧v=Value.str x t)
  | .inl i,v,h=>by
    obtain⟨t,e⟩:=Value.isInt_shape (k:=i) (v:=v) h
    exact .inl ⟨i,t,rfl,e⟩
  | .inr x,v,h=>by
    obtain⟨t,e⟩:=Value.isStrOf_shape (x:=x) (v:=v) h
    exact .inr ⟨x,t,rfl,e⟩
theorem key_ll (a b:Int):decide ((Sum.inl a:Key)=Sum.inl b)=(a ==b):=by
  by_cases e:a=b
  · subst e;simp
  · have h:¬(Sum.inl a:Key)=Sum.inl b:=fun q=>e (Sum.inl.inj q)
    rw[decide_eq_false h]
    exact (beq_eq_false_iff_ne.mpr e).symm
theorem key_rr (a b:Str):decide ((Sum.inr a:Key)=Sum.inr b)=decide (a=b):=by
  by_cases e:a=b
  · subst e;simp
  · have h:¬(Sum.inr a:Key)=Sum.inr b:=fun q=>e (Sum.inr.inj q)
    rw[decide_eq_false h,decide_eq_false e]
theorem key_lr (a:Int) (b:Str):decide ((Sum.inl a:Key)=Sum.inr b)=false:=decide_eq_false (fun q=>nomatch q)
theorem key_rl (a:Str) (b:Int):decide ((Sum.inr a:Key)=Sum.inl b)=false:=decide_eq_false (fun q=>nomatch q)
noncomputable def mixKind (prog:Program) (w:World):PySem.KeyKind prog w Key where
  is:=keyIs
  hash:=keyH w
  inj :=fun v a b ha hb=>by
    rcases keyIs_shape ha with⟨i,t,rfl,rfl⟩ |⟨x,t,rfl,rfl⟩
    · rcases keyIs_shape hb with⟨j,u,rfl,e⟩ |⟨y,u,rfl,e⟩
      · injection e with e1 _;rw[e1]
      · exact nomatch e
    · rcases keyIs_shape hb with⟨j,u,rfl,e⟩ |⟨y,u,rfl,e⟩
      · exact nomatch e
      · injection e with e1 _;rw[e1]
  byValue:=fun k v h=>by
    rcases keyIs_shape h with⟨i,t,rfl,rfl⟩ |⟨x,t,rfl,rfl⟩ <;> rfl
  pyHash:=fun hv h=>by
    rcases keyIs_shape hv with⟨i,t,rfl,rfl⟩ |⟨x,t,rfl,rfl⟩
    · exact wpAny_pyHash_int h
    · exact wpAny_pyHash_str h
  eqBool:=fun hu hv h=>by
    rcases keyIs_shape hu with⟨i,t,rfl,rfl⟩ |⟨x,t,rfl,rfl⟩
    · rcases keyIs_shape hv with⟨j,u,rfl,rfl⟩ |⟨y,u,rfl,rfl⟩
      · rw[key_ll] at h;exact wpAny_eqBool_int h
      · rw[key_lr] at h;exact SeqAt.EqAt.int_str i t y u _ _ _ _ h
    · rcases keyIs_shape hv with⟨j,u,rfl,rfl⟩ |⟨y,u,rfl,rfl⟩
      · rw[key_rl] at h;exact SeqAt.EqAt.str_int x t j u _ _ _ _ h
      · rw[key_rr] at h;exact wpAny_eqBool_str h
  «strs»:=fun k x t v h=>by
    rcases keyIs_shape h with⟨i,u,rfl,e⟩ |⟨y,u,rfl,e⟩
    · exact nomatch e
    · injection e with e1 _
      subst e1
      cases v <;> rfl
end L2
namespace L2
open PySem PySem.Spec PyProof.Rows
inductive V where
  |non |bl (b:Bool) |int (i:Int) |str (x:Str) |byt (b:Array UInt8) |flt (b:UInt64) |ref (a:Addr) |ty (n:String)
  deriving DecidableEq
noncomputable def RelV:V→Value→Prop
  | .non,u=>u=Value.none
  | .bl b,u=>u=Value.bool b
  | .int i,u=>∃t,u=Value.int i t
  | .str x,u=>∃t,u=Value.str x t
  | .byt b,u=>∃t,u=Value.bytes b t
  | .flt b,u=>∃t,u=Value.float b t
  | .ref a,u=>u=Value.ref a
  | .ty n,u=>u=Value.type n
noncomputable abbrev Vals:List V→List Value→Prop:=Paired RelV
theorem Vals.length {xs:List V} {us:List Value} (r:Vals xs us):xs.length=us.length:=Paired.length r
theorem Vals.get:∀{xs:List V} {us:List Value} {i:Nat} {x:V},Vals xs us→xs[i]?=some x→∃u,us[i]?=some u∧RelV x u
  |_,_,_,_,.nil,e=>by simp at e
  |_,_,0,_,.cons r _,e=>by simp at e;subst e;exact⟨_,rfl,r⟩
  | _,_,i+1,x,.cons _ t,e=>by
    obtain⟨u,h1,h2⟩:=Vals.get (i:=i) (x:=x) t (by simpa using e)
    exact⟨u,by simpa using h1,h2⟩
theorem Vals.set {x:V} {u:Value} (r:RelV x u):∀{xs:List V} {us:List Value} (i:Nat),Vals xs us→Vals (xs.set i x) (us.set i u)
  |_,_,_,.nil=> .nil
  |_,_,0,.cons _ t=> .cons r t
  |_,_,i+1,.cons q t=> .cons q (Vals.set r i t)
theorem Vals.append:∀{xs ys:List V} {us ws:List Value},Vals xs us→Vals ys ws→Vals (xs++ys) (us++ws)
  :=by
  intro xs ys us ws h q
  induction h with
  |nil=>exact q
  |cons r t ih=>exact .cons r ih
theorem Vals.take:∀{xs:List V} {us:List Value} (n:Nat),Vals xs us→Vals (xs.take n) (us.take n)
  |_,_,0,_=> .nil
  |_,_,_+1,.nil=> .nil
  |_,_,n+1,.cons r t=> .cons r (Vals.take n t)
theorem Vals.drop:∀{xs:List V} {us:List Value} (n:Nat),Vals xs us→Vals (xs.drop n) (us.drop n)
  |_,_,0,r=>r
  |_,_,_+1,.nil=> .nil
  |_,_,n+1,.cons _ t=>Vals.drop n t
noncomputable def RelO:Option V→Option Value→Prop
  |some v,some u=>RelV v u
  |none,none=>True
  |_,_=>False
noncomputable def KV {κ:Type}:List (κ×V)→List (κ×Value)→Prop:=Paired fun (p:κ×V) (q:κ×Value)=>p.1=q.1∧RelV p.2 q.2
noncomputable def kV:Key→V
  | .inl i=> .int i
  | .inr x=> .str x
inductive HO where
  /-- a list -/
  |lst (xs:List V)
  /-- a tuple (never changes) -/
  |tup (xs:List V)
  /-- a dict whose keys are ints and texts;one whose keys are tuples of ints and texts (the empty one is both) -/
  |dK (kvs:List (Key×V)) |dT (kvs:List (List Key×V))
  /-- a set of ints:its members,its size -/
  |set (S:Int→Bool) (n:Nat)
  /-- an instance of the class at C,its dict at dx,its attributes -/
  |ins (C dx:Addr) (fs:List (Str×V))
  /-- the dict of the instance at x -/
  |own (x:Addr)
  /-- the dict of an exception -/
  |xd (fs:List (Str×V))
  /-- a bound method,f of x -/
  |met (f x:Addr)
  /-- a range object lo,lo+1,.. below hi -/
  |rng (lo hi:Int)
  /-- a thing that is known to the object (the script;a dict while a loop walks it):read,never written while it is so -/
  |frz (o:Obj) (u:HO)
  /-- a code object's table -/
  |tbl (ps:Array Value)
  /-- any other thing,by what is true of its one object (a def of one's own:SetO a S n:=HO.ext fun h=> ..) -/
  |ext (φ:Heap→Prop)
noncomputable abbrev Hp:=Addr→Option HO
noncomputable def upd (H:Hp) (a:Addr) (o:HO):Hp:=fun b=>if b=a then some o else H b
theorem upd_same {H:Hp} {a:Addr} {o:HO}:upd H a o a=some o:=by unfold upd;rw[if_pos rfl]
theorem upd_ne {H:Hp} {a b:Addr} {o:HO} (h:b≠a):upd H a o b=H b:=by unfold upd;rw[if_neg h]
theorem ne_of_none {H:Hp} {a b:Addr} {o:HO} (h:H a=some o) (h':H b=none):a≠b:=by
  intro e;subst e;rw[h] at h';cases h'
section
variable (P:Program) (w:World)
noncomputable def ObjOk (H:Hp) (h:Heap) (a:Addr):HO→Prop
  | .lst xs=>xs.length≤sizeLine∧∃(its:List Value) (n:Nat),Vals xs its∧h.get? a=some {cls:= .type "list",data:= .seq its.toArray n}
  | .tup xs=>xs.length≤sizeLine∧∃its:List Value,Vals xs its∧IsTup h a its.toArray
  | .dK kvs=>kvs.length≤sizeLine∧(a ==sysModules)=false∧∃vs,KV kvs vs∧h.DictOf (mixKind P w) a vs
  | .dT kvs=>kvs.length≤sizeLine∧(a ==sysModules)=false∧∃xs:List (List Key×Addr×Value),
      Paired (fun (p:List Key×V) (q:List Key×Addr×Value)=>p.1=q.1∧H q.2.1=some (.tup (p.1.map kV))∧RelV p.2 q.2.2) kvs xs∧
      ∃o es ep,h.get? a=some o∧o.ExactDict∧o.data= .dict es ep∧es.toList=xs.map (entryOfKey (tupleKind (mixKind P w)))∧(xs.map (·.1)).Nodup
  | .set S n=>h.SetOf (intKind P w) a S n
  | .ins C dx fs=>H dx=some (.own a)∧fs.length≤1000∧dx≠a∧h.get? a=some (PySem.W.instObj C dx)∧
      ∃mA,h.Ns1 dx mA∧(∀f,RelO (fs.lookup f) (mA f))∧PySem.Within mA (fs.map (·.1))
  | .own _=>∃o,h.get? a=some o
  | .xd fs=>∃mA,h.Ns1 a mA∧∀f,RelO (fs.lookup f) (mA f)
  | .rng lo hi=>∃t u v,h.get? a=some {cls:= .type "range",data:= .fields #[.int lo t,.int hi u,.int 1 v]}
  | .frz o u=>h.get? a=some o∧ObjOk H h a u
  | .tbl ps=>∃qs:Array Value,h.get? a=some (PySem.W.tabObj qs)∧TriplesOk qs.toList∧∀pos cv,codeAmong pos qs.toList=some cv→∃c oc vs q t tq,cv= .ref c∧H c=some (.frz oc (.own c))∧oc.data= .fields vs∧vs[1]?=some (.str q t)∧ps[0]?=some (.str q tq)
  | .met f x=>h.get? a=some (PySem.W.methodObj (.ref f) (.ref x))
  | .ext φ=>φ h∧(∃o,h.get? a=some o)∧∀h1 h2:Heap,φ h1→(∀o,h1.get? a=some o→h2.get? a=some o)→φ h2
noncomputable def HOk (H:Hp) (h:Heap):Prop:=∀a o,H a=some o→ObjOk P w H h a o
end
section
variable {P:Program} {w:World} {H H':Hp} {h h':Heap} {a:Addr} {o:HO}
theorem ObjOk.lt (x:ObjOk P w H h a o):a < h.objs.size:=by
  cases o with
  |lst xs=>obtain⟨_,_,_,_,e⟩:=x;exact Heap.lt_size e
  |tup xs=>obtain⟨_,_,_,p⟩:=x;exact p.lt
  |dK kvs=>obtain⟨_,_,_,_,o,_,_,e,_⟩:=x;exact Heap.lt_size e
  |dT kvs=>obtain⟨_,_,_,_,o,_,_,e,_⟩:=x;exact Heap.lt_size e
  |set S n=>obtain⟨o,_,_,_,e,_⟩:=x;exact Heap.lt_size e
  |ins C dx fs=>obtain⟨_,_,_,e,_⟩:=x;exact Heap.lt_size e
  |own y=>obtain⟨_,e⟩:=x;exact Heap.lt_size e
  |xd fs=>obtain⟨_,⟨_,_,_,e,_⟩,_⟩:=x;exact Heap.lt_size e
  |rng lo hi=>obtain⟨_,_,_,e⟩:=x;exact Heap.lt_size e
  |frz ob u=>obtain⟨e,_⟩:=x;exact Heap.lt_size e
  |tbl ps=>obtain⟨_,e,_⟩:=x;exact Heap.lt_size e
  |met f y=>exact Heap.lt_size (show h.get? a=some _ from x)
  |ext φ=>obtain⟨_,⟨_,e⟩,_⟩:=x;exact Heap.lt_size e
theorem Paired.mapP {α β:Type} {F G:α→β→Prop}:∀{l₁:List α} {l₂:List β},Paired F l₁ l₂→(∀a b,F a b→G a b)→Paired G l₁ l₂
  :=by
  intro l₁ l₂ h f
  induction h with
  |nil=>exact .nil
  |cons r t ih=>exact .cons (f _ _ r) ih
theorem ObjOk.stay (x:ObjOk P w H h a o) (k:∀b u,(b=a∨H b=some (.own a))→h.get? b=some u→h'.get? b=some u)
    (ho:∀b,H b=some (.own a)→H' b=some (.own a)) (ht:∀b xs,H b=some (.tup xs)→H' b=some (.tup xs)) (hz:∀b o u,(∃vs,o.data= .fields vs)→H b=some (.frz o u)→H' b=some (.frz o u)):ObjOk P w H' h' a o:=by
  induction o with
  |lst xs=>obtain⟨z,its,n,r,e⟩:=x;exact⟨z,its,n,r,k _ _ (.inl rfl) e⟩
  |tup xs=>obtain⟨z,its,r,ob,e,c⟩:=x;exact⟨z,its,r,ob,k _ _ (.inl rfl) e,c⟩
  |dK kvs=>obtain⟨z,y,vs,r,ob,es,ep,e,c⟩:=x;exact⟨z,y,vs,r,ob,es,ep,k _ _ (.inl rfl) e,c⟩
  | dT kvs=>
    obtain⟨z,y,xs,r,ob,es,ep,e,c⟩:=x
    exact⟨z,y,xs,Paired.mapP r fun p q z=>⟨z.1,ht _ _ z.2.1,z.2.2⟩,ob,es,ep,k _ _ (.inl rfl) e,c⟩
  |set S n=>obtain⟨ob,es,ep,t,e,c⟩:=x;exact⟨ob,es,ep,t,k _ _ (.inl rfl) e,c⟩
  | ins C dx fs=>
    obtain⟨d,z,ne,e,mA,⟨od,es,ep,e2,c⟩,r⟩:=x
    exact⟨ho _ d,z,ne,k _ _ (.inl rfl) e,mA,⟨od,es,ep,k _ _ (.inr d) e2,c⟩,r⟩
  |own y=>obtain⟨ob,e⟩:=x;exact⟨ob,k _ _ (.inl rfl) e⟩
  |xd fs=>obtain⟨mA,⟨od,es,ep,e,c⟩,r⟩:=x;exact⟨mA,⟨od,es,ep,k _ _ (.inl rfl) e,c⟩,r⟩
  |rng lo hi=>obtain⟨t,u,v,e⟩:=x;exact⟨t,u,v,k _ _ (.inl rfl) e⟩
  |frz ob u ih=>obtain⟨e,q⟩:=x;exact⟨k _ _ (.inl rfl) e,ih q⟩
  | tbl ps=>
    obtain⟨qs,e,tr,al⟩:=x
    exact⟨qs,k a _ (.inl rfl) e,tr,fun p cv z=>by
      obtain⟨c,oc,vs,q,t,tq,e1,e2,e3,r⟩:=al p cv z
      exact⟨c,oc,vs,q,t,tq,e1,hz _ _ _ ⟨vs,e3⟩ e2,e3,r⟩⟩
  | met f y=>
    have e:h.get? a=some (PySem.W.methodObj (.ref f) (.ref y)):=x
    show h'.get? a=some (PySem.W.methodObj (.ref f) (.ref y))
    exact k a _ (.inl rfl) e
  |ext φ=>obtain⟨p,⟨o,e⟩,st⟩:=x;exact⟨st _ _ p fun o q=>k _ _ (.inl rfl) q,⟨o,k _ _ (.inl rfl) e⟩,st⟩
theorem HOk.lt (x:HOk P w H h) (e:H a=some o):a < h.objs.size:=(x a o e).lt
theorem HOk.fresh (x:HOk P w H h) (e:h.objs.size≤a):H a=none:=by
  cases q:H a with
  |none=>rfl
  |some u=>exact absurd (Nat.lt_of_lt_of_le (x.lt q) e) (Nat.lt_irrefl _)
theorem HOk.kept (x:HOk P w H h) (k:∀b u,h.get? b=some u→h'.get? b=some u):HOk P w H h':=fun a o e=>
  (x a o e).stay (fun b u _ q=>k b u q) (fun _ q=>q) (fun _ _ q=>q) fun _ _ _ _ q=>q
theorem HOk.laid (x:HOk P w H h) (k:∀b u,h.get? b=some u→h'.get? b=some u) (hp:h.objs.size≤a) (new:ObjOk P w (upd H a o) h' a o):HOk P w (upd H a o) h':=fun b u e=>by
  have hn:=x.fresh hp
  by_cases hb:b=a
  · subst hb;rw[upd_same] at e;cases e;exact new
  · rw[upd_ne hb] at e
    exact (x b u e).stay (fun c v _ q=>k c v q) (fun c q=>by rw[upd_ne (ne_of_none q hn)];exact q) (fun c xs q=>by rw[upd_ne (ne_of_none q hn)];exact q) fun c _ _ _ q=>by rw[upd_ne (ne_of_none q hn)];exact q
end
noncomputable def Rd (H:Hp) (a:Addr) (u:HO):Prop:=H a=some u∨∃o,H a=some (.frz o u)
theorem Rd.ok {P:Program} {w:World} {H:Hp} {h:Heap} {a:Addr} {u:HO} (r:Rd H a u) (x:HOk P w H h):ObjOk P w H h a u:=by
  rcases r with r |⟨o,r⟩
  · exact x a u r
  · obtain⟨_,q⟩:=x a _ r
    exact q
noncomputable def Mut:Option HO→Prop
  |some (.lst _)=>True
  |some (.dK _)=>True
  |some (.dT _)=>True
  |some (.set _ _)=>True
  |some (.ins _ _ _)=>True
  |some (.ext _)=>True
  |_=>False
section
variable {P:Program} {w:World} {H:Hp} {h h':Heap} {x e:Addr} {o':HO}
theorem HOk.write (ok:HOk P w H h) (mu:Mut (H x)) (he:e=x∨H e=some (.own x)) (k:∀b u,b≠e→h.get? b=some u→h'.get? b=some u) (heo:∃u,h'.get? e=some u)
    (new:ObjOk P w (upd H x o') h' x o'):HOk P w (upd H x o') h':=fun b u q=>by
  have nown:∀c y,H c=some (.own y)→c≠x:=fun c y r z=>by subst z;rw[r] at mu;exact mu
  have ntup:∀c xs,H c=some (.tup xs)→c≠x:=fun c xs r z=>by subst z;rw[r] at mu;exact mu
  by_cases hb:b=x
  · subst hb;rw[upd_same] at q;cases q;exact new
  · rw [upd_ne hb] at q
    by_cases hbe:b=e
    · have q':H b=some (.own x):=by
        rcases he with z |z
        · exact absurd (hbe.trans z) hb
        · rw[hbe];exact z
      rw[q] at q';cases q'
      obtain⟨v,hv⟩:=heo
      exact⟨v,by rw[hbe];exact hv⟩
    · refine (ok b u q).stay (fun c v hc r=>k c v ?_ r) (fun c r=>by rw[upd_ne (nown c b r)];exact r) (fun c xs r=>by rw[upd_ne (ntup c xs r)];exact r) fun c o1 u1 _ r=>by rw[upd_ne (fun z=>by rw[z] at r;rw[r] at mu;exact mu)];exact r
      rcases hc with rfl |hc
      · exact hbe
      · rintro rfl
        rcases he with z |z
        · exact nown c b hc z
        · rw[hc] at z;cases z;exact hb rfl
end
structure Un (fs ex:List Addr) (H H':Hp) (h h':Heap):Prop where
  keep:∀b o,h.get? b=some o→H b=none→b∉fs→b∉ex→h'.get? b=some o
  slot:∀b o,h.get? b=some o→H b=none→b∈fs→b∉ex→∃sl,h'.get? b=some {o with slots:=sl}
  free:∀b o,h.get? b=some o→H b=none→b∉ex→H' b=none
  there:∀b o,h.get? b=some o→b∉ex→∃o',h'.get? b=some o'
  tups:∀b xs,H b=some (.tup xs)→H' b=some (.tup xs)
  frzs:∀b o u,H b=some (.frz o u)→H' b=some (.frz o u)
  tbls:∀b ps,H b=some (.tbl ps)→∃more,H' b=some (.tbl (ps++more))
section
variable {fs fs' ex ex':List Addr} {H H1 H2:Hp} {h h1 h2 h':Heap} {a x e:Addr} {o:HO}
theorem Un.any (u:Un fs ex H H1 h h1) {b:Addr} {ob:Obj} (q:h.get? b=some ob) (n:H b=none) (hx:b∉ex):∃sl,h1.get? b=some {ob with slots:=sl}:=by
  by_cases hb:b∈fs
  · exact u.slot b ob q n hb hx
  · exact⟨ob.slots,u.keep b ob q n hb hx⟩
theorem Un.kept (k:∀b u,h.get? b=some u→h'.get? b=some u):Un fs ex H H h h':=
  ⟨fun b ob q _ _ _=>k b ob q,fun b ob q _ _ _=>⟨ob.slots,k b ob q⟩,fun _ _ _ n _=>n,fun b ob q _=>⟨ob,k b ob q⟩,fun _ _ q=>q,fun _ _ _ q=>q,fun _ ps q=>⟨#[],by rw[q];simp⟩⟩
theorem Un.refl:Un fs ex H H h h:=Un.kept fun _ _ q=>q
theorem Un.laid (k:∀b u,h.get? b=some u→h'.get? b=some u) (hp:h.objs.size≤a) (hn:H a=none):Un fs ex H (upd H a o) h h' where
  keep:=fun b u q _ _ _=>k b u q
  slot:=fun b u q _ _ _=>⟨u.slots,k b u q⟩
  free:=fun b u q n _=>by rw[upd_ne (Nat.ne_of_lt (Nat.lt_of_lt_of_le (Heap.lt_size q) hp))];exact n
  there:=fun b u q _=>⟨u,k b u q⟩
  tups:=fun b xs q=>by rw[upd_ne (ne_of_none q hn)];exact q
  frzs:=fun b u xs q=>by rw[upd_ne (ne_of_none q hn)];exact q
  tbls:=fun b ps q=>⟨#[],by rw[upd_ne (ne_of_none q hn),q];simp⟩
theorem Un.write (mu:Mut (H x)) (he:e=x∨H e=some (.own x)) (k:∀b u,b≠e→h.get? b=some u→h'.get? b=some u) (heo:∃u,h'.get? e=some u):Un fs ex H (upd H x o) h h':=by
  have hx:∀b,H b=none→b≠x:=fun b n z=>by subst z;rw[n] at mu;exact mu
  have hb:∀b,H b=none→b≠e:=fun b n z=>by
    subst z
    rcases he with r |r
    · exact hx b n r
    · rw[n] at r;cases r
  have hm:∀b u,H b=some u→¬Mut (some u)→b≠x:=fun b u q nm z=>by subst z;rw[q] at mu;exact nm mu
  refine⟨fun b u q n _ _=>k b u (hb b n) q,fun b u q n _ _=>⟨u.slots,k b u (hb b n) q⟩,fun b u q n _=>by rw[upd_ne (hx b n)];exact n,fun b u q _=>?_,
    fun b xs q=>by rw[upd_ne (hm b _ q fun z=>z)];exact q,fun b u xs q=>by rw[upd_ne (hm b _ q fun z=>z)];exact q,fun b ps q=>⟨#[],by rw[upd_ne (hm b _ q fun z=>z),q];simp⟩⟩
  by_cases hbe:b=e
  · subst hbe;exact heo
  · exact⟨u,k b u hbe q⟩
end
noncomputable def trk (h:Heap) (H:Hp):List Addr:=(List.range h.objs.size).filter fun a=>(H a).isSome
noncomputable def hidT (h:Heap) (H:Hp):Heap:=PySem.W.hideAll h (trk h H)
theorem hidT_size (h:Heap) (H:Hp):(hidT h H).objs.size=h.objs.size:=PySem.W.hideAll_size _ _
theorem hidT_get {h:Heap} {H:Hp} {b:Addr} {o:Obj} (e:h.get? b=some o) (n:H b=none):(hidT h H).get? b=some o:=
  PySem.W.hideAll_get _ e fun hm=>by
    have q:(H b).isSome=true:=(List.mem_filter.mp hm).2
    rw[n] at q;simp at q
theorem of_hidT {h:Heap} {H:Hp} {b:Addr} {o:Obj} (e:(hidT h H).get? b=some o):h.get? b=some o∧H b=none:=by
  have e':h.get? b=some o:=PySem.W.of_hideAll (trk h H) e
  refine⟨e',?_⟩
  cases q:H b with
  |none=>rfl
  | some x=>
    have hm:b∈trk h H:=List.mem_filter.mpr ⟨List.mem_range.mpr (Heap.lt_size e'),by simp[q]⟩
    have z:(hidT h H).get? b=none:=PySem.W.hideAll_none (trk h H) hm
    rw[z] at e;cases e
noncomputable def allNews (g h:Heap) (L:Addr):List (Addr×Obj):=(List.range h.objs.size).filterMap fun a=>if a=L∨(g.get? a).isSome=true then none else (h.get? a).map fun o=>(a,o)
noncomputable def rest (g h:Heap) (L d:Addr):List (Addr×Obj):=(allNews g h L).filter fun p=>decide (p.1≠d)
end L2
namespace L2
open PySem PySem.Spec PyProof.Rows
structure Mod (K:PySem.W.Frag) (mg:Str→Option Value) (base:Heap):Prop where
  kin:K.In base
  glob:base.Ns mainGlobals mg
  blt:∃mb,base.Ns builtinsNs mb∧∀x:Str,x≠"__name__"→mb x=bootBuiltins x
  nolimit:base.NoLimit
structure Cx where
  prog:Program
  w:World
  K:PySem.W.Frag
  mg:Str→Option Value
  base:Heap
  A:Around
  N:List Str
  s₀:Shared
  H₀:Hp
  env:Env
  outer:List Env
  stack:List Env
  ex:List Addr
  fn:Str→Bool
  calm:Bool
  pn:List (Addr×Obj)
  xe:Value→Shared→Prop
noncomputable def frs (l:List Env):List Addr:=l.filterMap (·.frame)
noncomputable abbrev Cx.fs (X:Cx):List Addr:=frs X.outer
noncomputable def Vis (sc:Scope) (x:Str):Prop:=sc.names.lookup x=some .local∨sc.names.lookup x=some .cell∨sc.names.lookup x=some .free
noncomputable def Loc (sc:Scope) (x:Str):Prop:=sc.names.lookup x=some .local∨sc.names.lookup x=some .cell
noncomputable def Look (env:Env) (h:Heap) (m:Str→Option Value) (x:Str) (u:Value):Prop:=
  (env.kindOf x=some .local∧m x=some u)∨((env.kindOf x=some .cell∨env.kindOf x=some .free)∧∃c,env.cells.lookup x=some c∧h.IsCell c (some u))
structure Cx.Ok (X:Cx):Prop where
  mod:Mod X.K X.mg X.base
  kind:X.env.scope.kind= .function
  glob:X.env.globals=mainGlobals
  blt:X.env.builtins=builtinsNs
  above:X.s₀.heap.objs.size≤X.env.locals
  inj:∀x y c,X.env.cells.lookup x=some c→X.env.cells.lookup y=some c→x=y
  has:∀x,(X.env.kindOf x=some .cell∨X.env.kindOf x=some .free)→∃c,X.env.cells.lookup x=some c
  cab:∀x c,X.fn x=true→X.env.cells.lookup x=some c→X.s₀.heap.objs.size≤c
  hd:X.calm=true→X.A.handled=none
  frames:X.A.frames=some X.stack
  stk:X.stack=X.outer∨(X.stack=X.env::X.outer∧X.env.frame=some X.env.locals)
  exf:∀b∈X.ex,b≠X.env.locals∧∀x c,X.env.cells.lookup x=some c→c≠b
  bs:∀b o,X.base.get? b=some o→X.s₀.heap.get? b=some o∧X.H₀ b=none
  bsz:X.base.objs.size≤X.s₀.heap.objs.size
  noex:∀b o,X.base.get? b=some o→b∉X.ex
  exfs:∀b∈X.ex,b∉X.fs
  funs:X.s₀.heap.FunFrames X.base X.outer
  frf:∀b∈X.fs,X.H₀ b=none
structure Inv (X:Cx) (pins:List (Addr×Obj)) (σ:List (Option V)) (H:Hp) (s:Shared):Prop where
  ok:X.Ok
  os:s.os=X.s₀.os
  bare:AllBare s.gens
  base:Un X.fs X.ex X.H₀ H X.s₀.heap s.heap
  loc:∃m,s.heap.Ns X.env.locals m∧∀(i:Nat) (x:Str) (v:V),X.N[i]?=some x→σ[i]?=some (some v)→Vis X.env.scope x→∃u,RelV v u∧Look X.env s.heap m x u
  cell:∀x c,X.env.cells.lookup x=some c→∃v,s.heap.IsCell c v
  free:H X.env.locals=none
  freeC:∀x c,X.env.cells.lookup x=some c→H c=none
  pin:∀p∈X.pn++pins,s.heap.get? p.1=some p.2∧H p.1=none∧p.1≠X.env.locals∧p.1∉X.fs∧∀v,p.2.data≠.cell v
  hok:HOk X.prog X.w H s.heap
  len:σ.length=X.N.length
section
variable {X:Cx} {pins:List (Addr×Obj)} {σ:List (Option V)} {H H':Hp} {s:Shared} {h':Heap}
theorem Cx.Ok.nofr (ok:X.Ok) {b:Addr} {o:Obj} (e:X.base.get? b=some o):b∉X.fs:=fun hb=>by
  have:=(ok.funs.mem hb).1
  rw[e] at this;cases this
theorem Inv.bs (I:Inv X pins σ H s):∀b o,X.base.get? b=some o→s.heap.get? b=some o∧H b=none:=fun b o e=>
  ⟨I.base.keep b o (I.ok.bs b o e).1 (I.ok.bs b o e).2 (I.ok.nofr e) (I.ok.noex b o e),I.base.free b o (I.ok.bs b o e).1 (I.ok.bs b o e).2 (I.ok.noex b o e)⟩
theorem Inv.bk (I:Inv X pins σ H s):∀b o,X.base.get? b=some o→s.heap.get? b=some o:=fun b o e=>(I.bs b o e).1
theorem Inv.mod (I:Inv X pins σ H s):Mod X.K X.mg X.base:=I.ok.mod
theorem Inv.kIn (I:Inv X pins σ H s):X.K.In s.heap:=I.ok.mod.kin.keeps I.bk
theorem Inv.lt (I:Inv X pins σ H s):X.env.locals < s.heap.objs.size:=let ⟨_,hn,_⟩:=I.loc;hn.lt
theorem Inv.sz (I:Inv X pins σ H s):X.s₀.heap.objs.size≤s.heap.objs.size:=Nat.le_trans I.ok.above (Nat.le_of_lt I.lt)
theorem Inv.nofs (I:Inv X pins σ H s) {a:Addr} (h:s.heap.objs.size≤a):a∉X.fs:=fun hb=>by
  obtain⟨_,o,ho,_⟩:=I.ok.funs.mem hb
  exact absurd (Nat.lt_of_lt_of_le (Heap.lt_size ho) (Nat.le_trans I.sz h)) (Nat.lt_irrefl _)
theorem Inv.cne (I:Inv X pins σ H s):∀x c,X.env.cells.lookup x=some c→c≠X.env.locals:=fun x c e z=>by
  obtain⟨v,o,ho,hd⟩:=I.cell x c e
  obtain⟨m,⟨o',es,ep,ho',hd',_⟩,_⟩:=I.loc
  rw[z,ho'] at ho;cases ho;rw[hd'] at hd;cases hd
theorem Inv.funs (I:Inv X pins σ H s):s.heap.FunFrames X.base X.outer:=by
  have all:∀(l:List Env),(∀b∈frs l,b∈X.fs)→X.s₀.heap.FunFrames X.base l→s.heap.FunFrames X.base l:=by
    intro l
    induction l with
    |nil=>intro _ _;trivial
    | cons env r ih=>
      intro hs hl
      obtain⟨hk,⟨L,o,hf,hn,ho,hd⟩,hr⟩:=hl
      have hL:L∈X.fs:=hs L (by unfold frs;rw[List.filterMap_cons,hf];exact List.mem_cons_self)
      obtain⟨sl,e⟩:=I.base.slot L o ho (I.ok.frf L hL) hL fun z=>I.ok.exfs L z hL
      exact⟨hk,⟨L,_,hf,hn,e,hd⟩,ih (fun b hb=>hs b (by unfold frs;rw[List.filterMap_cons,hf];exact List.mem_cons_of_mem _ hb)) hr⟩
  exact all X.outer (fun _ hb=>hb) I.ok.funs
theorem Inv.stack (I:Inv X pins σ H s):s.heap.FunFrames X.base X.stack:=by
  rcases I.ok.stk with e |⟨e,hf⟩
  · rw[e];exact I.funs
  · rw[e]
    obtain⟨m,hn,_⟩:=I.loc
    refine .cons (by rw[I.ok.kind];decide) hf hn ?_ I.funs
    exact Heap.get?_none_of_le (Nat.le_trans I.ok.bsz I.ok.above)
theorem Inv.stkSub (I:Inv X pins σ H s):∀b∈frs X.stack,b∈X.env.locals::X.fs:=fun b hb=>by
  rcases I.ok.stk with e |⟨e,hf⟩
  · rw[e] at hb;exact List.mem_cons_of_mem _ hb
  · rw[e] at hb
    unfold frs at hb
    rw[List.filterMap_cons,hf] at hb
    exact hb
theorem Inv.stkFree (I:Inv X pins σ H s):∀b∈frs X.stack,H b=none:=fun b hb=>by
  rcases List.mem_cons.mp (I.stkSub b hb) with e |hb
  · rw[e];exact I.free
  · obtain⟨_,o,ho,_⟩:=I.ok.funs.mem hb
    exact I.base.free b o ho (I.ok.frf b hb) fun z=>I.ok.exfs b z hb
theorem Inv.step {g':Array GenState} {t':Nat} {d':Drawn} {ch:List Addr} (I:Inv X pins σ H s)
    (hch:∀b∈ch,(b∈X.ex∨X.s₀.heap.objs.size≤b)∧b≠X.env.locals∧(∀x c,X.env.cells.lookup x=some c→c≠b)∧∀p∈X.pn++pins,p.1≠b)
    (keep:∀b o,b≠X.env.locals→b∉X.fs→b∉ch→s.heap.get? b=some o→H b=none→h'.get? b=some o)
    (slot:∀b o,b≠X.env.locals→b∈X.fs→b∉ch→s.heap.get? b=some o→H b=none→∃sl,h'.get? b=some {o with slots:=sl}) (free:∀b o,b∉ch→s.heap.get? b=some o→H b=none→H' b=none)
    (there:∀b o,b∉ch→s.heap.get? b=some o→∃o',h'.get? b=some o')
    (tups:∀b xs,H b=some (.tup xs)→H' b=some (.tup xs)) (frzs:∀b o u,H b=some (.frz o u)→H' b=some (.frz o u)) (tbls:∀b ps,H b=some (.tbl ps)→∃more,H' b=some (.tbl (ps++more)))
    (ns:∀m,s.heap.Ns X.env.locals m→h'.Ns X.env.locals m) (hok:HOk X.prog X.w H' h') (hg:AllBare g'):
    Inv X pins σ H' {s with heap:=h',gens:=g',drawn:=d',toks:=t'}:=by
  have neL:∀b o,X.s₀.heap.get? b=some o→b≠X.env.locals:=fun b o e=>Nat.ne_of_lt (Nat.lt_of_lt_of_le (Heap.lt_size e) I.ok.above)
  have neC:∀b o,X.s₀.heap.get? b=some o→b∉X.ex→b∉ch:=fun b o e hx hb=>by
    rcases (hch b hb).1 with z |z
    · exact hx z
    · exact absurd (Nat.lt_of_lt_of_le (Heap.lt_size e) z) (Nat.lt_irrefl _)
  have cellK:∀x c,X.env.cells.lookup x=some c→∀v,s.heap.IsCell c v→h'.IsCell c v:=fun x c e v ⟨o,ho,hd⟩=>by
    have nch:c∉ch:=fun z=>(hch c z).2.2.1 x c e rfl
    by_cases hc:c∈X.fs
    · obtain⟨sl,q⟩:=slot c o (I.cne x c e) hc nch ho (I.freeC x c e)
      exact⟨_,q,hd⟩
    · exact⟨o,keep c o (I.cne x c e) hc nch ho (I.freeC x c e),hd⟩
  refine⟨I.ok,I.os,hg,⟨fun b o e n hb hx=>?_,fun b o e n hb hx=>?_,fun b o e n hx=>?_,fun b o e hx=>?_,fun b xs e=>tups b xs (I.base.tups b xs e),fun b o xs e=>frzs b o xs (I.base.frzs b o xs e),fun b ps e=>?_⟩,?_,fun x c e=>?_,?_,fun x c e=>?_,fun p hp=>?_,hok,I.len⟩
  · exact keep b o (neL b o e) hb (neC b o e hx) (I.base.keep b o e n hb hx) (I.base.free b o e n hx)
  · obtain⟨sl,e1⟩:=I.base.slot b o e n hb hx
    obtain⟨sl',e2⟩:=slot b _ (neL b o e) hb (neC b o e hx) e1 (I.base.free b o e n hx)
    exact⟨sl',e2⟩
  · obtain⟨o',e1⟩:=I.base.there b o e hx
    exact free b o' (neC b o e hx) e1 (I.base.free b o e n hx)
  · obtain⟨o',e1⟩:=I.base.there b o e hx
    exact there b o' (neC b o e hx) e1
  · obtain⟨m1,e1⟩:=I.base.tbls b ps e
    obtain⟨m2,e2⟩:=tbls b _ e1
    exact⟨m1++m2,by rw[e2,Array.append_assoc]⟩
  · obtain⟨m,hn,hl⟩:=I.loc
    refine⟨m,ns m hn,fun i x v e1 e2 e3=>?_⟩
    obtain⟨u,r,l⟩:=hl i x v e1 e2 e3
    refine⟨u,r,?_⟩
    rcases l with l |⟨k,c,e,z⟩
    · exact .inl l
    · exact .inr ⟨k,c,e,cellK x c e _ z⟩
  · obtain⟨v,z⟩:=I.cell x c e
    exact⟨v,cellK x c e v z⟩
  · obtain⟨m,⟨o,_,_,ho,_⟩,_⟩:=I.loc
    exact free _ o (fun z=>(hch _ z).2.1 rfl) ho I.free
  · obtain⟨v,o,ho,hd⟩:=I.cell x c e
    exact free c o (fun z=>(hch c z).2.2.1 x c e rfl) ho (I.freeC x c e)
  · obtain⟨e,n,ne,nf,d⟩:=I.pin p hp
    have nch:p.1∉ch:=fun z=>(hch p.1 z).2.2.2 p hp rfl
    exact⟨keep p.1 p.2 ne nf nch e n,free p.1 p.2 nch e n,ne,nf,d⟩
theorem Inv.un {t':Nat} (I:Inv X pins σ H s) (u:Un X.fs [] H H' s.heap h') (hok:HOk X.prog X.w H' h'):Inv X pins σ H' {s with heap:=h',toks:=t'}:=by
  obtain⟨m,⟨o,es,ep,ho,r⟩,_⟩:=id I.loc
  obtain⟨sl,hL⟩:=u.any ho I.free (by simp)
  exact I.step (g':=s.gens) (d':=s.drawn) (ch:=[]) (fun _ z=>nomatch z) (fun b o _ hb _ e n=>u.keep b o e n hb (by simp)) (fun b o _ hb _ e n=>u.slot b o e n hb (by simp)) (fun b o _ e n=>u.free b o e n (by simp)) (fun b o _ e=>u.there b o e (by simp)) u.tups u.frzs u.tbls (fun m' hm=>by
    obtain⟨o',es',ep',ho',r'⟩:=hm
    rw[ho] at ho';cases ho'
    exact⟨_,es',ep',hL,r'⟩) hok I.bare
theorem Inv.call {g':Array GenState} {t':Nat} {d':Drawn} {ch:List Addr} (I:Inv X pins σ H s) (u:Un (frs X.stack) ch H H' s.heap h') (hok:HOk X.prog X.w H' h') (hg:AllBare g')
    (hch:∀b∈ch,(b∈X.ex∨X.s₀.heap.objs.size≤b)∧b≠X.env.locals∧(∀x c,X.env.cells.lookup x=some c→c≠b)∧∀p∈X.pn++pins,p.1≠b):
    Inv X pins σ H' {s with heap:=h',gens:=g',drawn:=d',toks:=t'}:=by
  obtain⟨m,⟨o,es,ep,ho,r⟩,_⟩:=id I.loc
  obtain⟨sl,hL⟩:=u.any ho I.free fun z=>(hch _ z).2.1 rfl
  exact I.step (ch:=ch) hch (fun b o hL hb hc e n=>u.keep b o e n (fun z=>(List.mem_cons.mp (I.stkSub b z)).elim hL hb) hc) (fun b o _ _ hc e n=>u.any e n hc) (fun b o hc e n=>u.free b o e n hc) (fun b o hc e=>u.there b o e hc) u.tups u.frzs u.tbls (fun m' hm=>by
    obtain⟨o',es',ep',ho',r'⟩:=hm
    rw[ho] at ho';cases ho'
    exact⟨_,es',ep',hL,r'⟩) hok hg
theorem Inv.turned {t':Nat} {it:Addr} (I:Inv X pins σ H s) (k:∀b o,b≠it→s.heap.get? b=some o→h'.get? b=some o) (hn:H it=none) (hL:it≠X.env.locals)
    (h1:it∈X.ex∨X.s₀.heap.objs.size≤it) (h2:∀x c,X.env.cells.lookup x=some c→c≠it) (h3:∀p∈X.pn++pins,p.1≠it):Inv X pins σ H {s with heap:=h',toks:=t'}:=by
  have nit:∀b u,H b=some u→b≠it:=fun b u e z=>by rw[z,hn] at e;cases e
  refine I.step (g':=s.gens) (d':=s.drawn) (ch:=[it]) (fun b hb=>?_) (fun b o _ _ hc e _=>k b o (fun z=>hc (by simp[z])) e) (fun b o _ _ hc e _=>⟨o.slots,k b o (fun z=>hc (by simp[z])) e⟩) (fun _ _ _ _ n=>n)
    (fun b o hc e=>⟨o,k b o (fun z=>hc (by simp[z])) e⟩) (fun _ _ e=>e) (fun _ _ _ e=>e) (fun b ps e=>⟨#[],by rw[e];simp⟩) (fun m hm=>?_) (fun b u e=>?_) I.bare
  · have e:b=it:=by simpa using hb
    subst e
    exact⟨h1,hL,h2,h3⟩
  · obtain⟨o,es,ep,ho,r⟩:=hm
    exact⟨o,es,ep,k _ o (Ne.symm hL) ho,r⟩
  · refine (I.hok b u e).stay (fun c v hc q=>k c v ?_ q) (fun _ q=>q) (fun _ _ q=>q) fun _ _ _ _ q=>q
    rcases hc with z |z
    · rw[z];exact nit b u e
    · exact nit c _ z
theorem Inv.tok (I:Inv X pins σ H s) (t:Nat):Inv X pins σ H {s with toks:=t}:=I.un (h':=s.heap) (t':=t) Un.refl I.hok
theorem Inv.kept {t':Nat} (I:Inv X pins σ H s) (k:∀b u,s.heap.get? b=some u→h'.get? b=some u):Inv X pins σ H {s with heap:=h',toks:=t'}:=I.un (Un.kept k) (I.hok.kept k)
theorem Inv.laid {a:Addr} {o:HO} {t':Nat} (I:Inv X pins σ H s) (k:∀b u,s.heap.get? b=some u→h'.get? b=some u) (hp:s.heap.objs.size≤a) (new:ObjOk X.prog X.w (upd H a o) h' a o):
    Inv X pins σ (upd H a o) {s with heap:=h',toks:=t'}:=I.un (Un.laid k hp (I.hok.fresh hp)) (I.hok.laid k hp new)
theorem Inv.write {x e:Addr} {o:HO} {t':Nat} (I:Inv X pins σ H s) (mu:Mut (H x)) (he:e=x∨H e=some (.own x)) (k:∀b u,b≠e→s.heap.get? b=some u→h'.get? b=some u) (heo:∃u,h'.get? e=some u)
    (new:ObjOk X.prog X.w (upd H x o) h' x o):Inv X pins σ (upd H x o) {s with heap:=h',toks:=t'}:=I.un (Un.write mu he k heo) (I.hok.write mu he k heo new)
theorem Inv.pins_of {pins':List (Addr×Obj)} (I:Inv X pins σ H s) (h:∀p∈pins',s.heap.get? p.1=some p.2∧H p.1=none∧p.1≠X.env.locals∧p.1∉X.fs∧∀v,p.2.data≠.cell v):Inv X pins' σ H s:=
  ⟨I.ok,I.os,I.bare,I.base,I.loc,I.cell,I.free,I.freeC,fun p hp=>(List.mem_append.mp hp).elim (fun z=>I.pin p (List.mem_append_left _ z)) (h p),I.hok,I.len⟩
theorem nodup_ix {N:List Str} (hN:N.Nodup) {i j:Nat} {x:Str} (a:N[i]?=some x) (b:N[j]?=some x):i=j:=by
  obtain⟨h1,e1⟩:=List.getElem?_eq_some_iff.mp a
  obtain⟨h2,e2⟩:=List.getElem?_eq_some_iff.mp b
  exact (List.getElem_inj hN).mp (e1.trans e2.symm)
theorem store_ok2 {M:Model} {A:Around} {E:Value→Shared→Prop} {i:Nat} {x:Str} {v:V} {u:Value} {Q:Unit→Shared→Prop} (I:Inv X pins σ H s) (hN:X.N.Nodup) (hi:X.N[i]?=some x) (hx:Loc X.env.scope x) (r:RelV v u)
    (h:∀s',Inv X pins (σ.set i (some v)) H s'→(∃a,Heap.SameBut a s.heap s'.heap∧(a=X.env.locals∨X.env.cells.lookup x=some a))→Q () s') (hf:X.fn x=true∨X.env.scope.names.lookup x=some .local:=by first |exact .inl rfl |exact .inr rfl |assumption):wpAny M A (storeName X.env x u) Q E s:=by
  obtain⟨m,hn,hl⟩:=id I.loc
  have hcls:(X.env.scope.kind == .class || (X.env.scope.kind == .module && X.env.locals !=X.env.globals))=false:=by rw[I.ok.kind];rfl
  have hiσ:i < σ.length:=by rw[I.len];exact (List.getElem?_eq_some_iff.mp hi).1
  have cne:=I.cne
  have tracked:∀{a:Addr} {h':Heap},(∃o,s.heap.get? a=some o∧H a=none)→Heap.SameBut a s.heap h'→HOk X.prog X.w H h':=fun {a h'} ha hs b ob e=>by
    obtain⟨_,_,hfree⟩:=ha
    refine (I.hok b ob e).stay (fun c w' hc q=>(hs.2 c ?_).trans q) (fun _ q=>q) (fun _ _ q=>q) fun _ _ _ _ q=>q
    rintro rfl
    rcases hc with rfl |hc
    · rw[hfree] at e;cases e
    · rw[hfree] at hc;cases hc
  rcases hx with hk |hk
  · refine wpAny_storeName_local hk hn (fun h' hn' hs=>?_) hcls
    obtain⟨oL,_,_,hoL,_⟩:=id hn
    refine h _ ⟨I.ok,I.os,I.bare,⟨fun b o e n hb hx=>?_,fun b o e n hb hx=>?_,I.base.free,fun b o e hx=>?_,I.base.tups,I.base.frzs,I.base.tbls⟩,⟨_,hn',fun j y v' e1 e2 e3=>?_⟩,fun y c e=>?_,I.free,I.freeC,fun p hp=>?_,tracked ⟨oL,hoL,I.free⟩ hs,by simpa using I.len⟩ ⟨_,hs,.inl rfl⟩
    · exact (hs.2 b (Nat.ne_of_lt (Nat.lt_of_lt_of_le (Heap.lt_size e) I.ok.above))).trans (I.base.keep b o e n hb hx)
    · obtain⟨sl,e1⟩:=I.base.slot b o e n hb hx
      exact⟨sl,(hs.2 b (Nat.ne_of_lt (Nat.lt_of_lt_of_le (Heap.lt_size e) I.ok.above))).trans e1⟩
    · obtain⟨o',e1⟩:=I.base.there b o e hx
      exact⟨o',(hs.2 b (Nat.ne_of_lt (Nat.lt_of_lt_of_le (Heap.lt_size e) I.ok.above))).trans e1⟩
    · by_cases hj:j=i
      · subst hj
        rw[hi] at e1;cases e1
        rw[List.getElem?_set_self hiσ] at e2
        cases e2
        exact⟨u,r,.inl ⟨hk,by simp⟩⟩
      · rw[List.getElem?_set_ne (Ne.symm hj)] at e2
        obtain⟨u',r',q⟩:=hl j y v' e1 e2 e3
        refine⟨u',r',?_⟩
        rcases q with⟨k,e⟩ |⟨k,c,e,z⟩
        · refine .inl ⟨k,?_⟩
          have:y≠x:=fun e=>hj (nodup_ix hN e1 (e▸hi))
          simp[this,e]
        · exact .inr ⟨k,c,e,z.sameBut hs (cne y c e)⟩
    · obtain⟨w',z⟩:=I.cell y c e
      exact⟨w',z.sameBut hs (cne y c e)⟩
    · obtain⟨e,n,ne,nf,d⟩:=I.pin p hp
      exact⟨(hs.2 p.1 ne).trans e,n,ne,nf,d⟩
  · have hfn:X.fn x=true:=by
      rcases hf with z |z
      · exact z
      · rw[z] at hk;cases hk
    obtain⟨c,hc⟩:=I.ok.has x (.inl hk)
    obtain⟨w',z⟩:=I.cell x c hc
    refine wpAny_storeName_cell I.ok.kind hk hc z (fun h' hc' hs=>?_)
    obtain⟨oc,hoc,hocd⟩:=id z
    refine h {s with heap:=h'} ⟨I.ok,I.os,I.bare,⟨fun b o e n hb hx=>?_,fun b o e n hb hx=>?_,I.base.free,fun b o e hx=>?_,I.base.tups,I.base.frzs,I.base.tbls⟩,⟨m,hn.sameBut hs (Ne.symm (cne x c hc)),fun j y v' e1 e2 e3=>?_⟩,fun y c' e=>?_,I.free,I.freeC,fun p hp=>?_,tracked ⟨oc,hoc,I.freeC x c hc⟩ hs,by simpa using I.len⟩ ⟨c,hs,.inr hc⟩
    · exact (hs.2 b (Nat.ne_of_lt (Nat.lt_of_lt_of_le (Heap.lt_size e) (I.ok.cab x c hfn hc)))).trans (I.base.keep b o e n hb hx)
    · obtain⟨sl,e1⟩:=I.base.slot b o e n hb hx
      exact⟨sl,(hs.2 b (Nat.ne_of_lt (Nat.lt_of_lt_of_le (Heap.lt_size e) (I.ok.cab x c hfn hc)))).trans e1⟩
    · obtain⟨o',e1⟩:=I.base.there b o e hx
      exact⟨o',(hs.2 b (Nat.ne_of_lt (Nat.lt_of_lt_of_le (Heap.lt_size e) (I.ok.cab x c hfn hc)))).trans e1⟩
    · by_cases hj:j=i
      · subst hj
        rw[hi] at e1;cases e1
        rw[List.getElem?_set_self hiσ] at e2
        cases e2
        exact⟨u,r,.inr ⟨.inl hk,c,hc,hc'⟩⟩
      · rw[List.getElem?_set_ne (Ne.symm hj)] at e2
        obtain⟨u',r',q⟩:=hl j y v' e1 e2 e3
        refine⟨u',r',?_⟩
        rcases q with q |⟨k,c',e,z'⟩
        · exact .inl q
        · refine .inr ⟨k,c',e,z'.sameBut hs ?_⟩
          rintro rfl
          exact hj (nodup_ix hN e1 (I.ok.inj _ _ _ e hc▸hi))
    · by_cases hcc:c'=c
      · subst hcc;exact⟨_,hc'⟩
      · obtain⟨w2,z2⟩:=I.cell y c' e
        exact⟨w2,z2.sameBut hs hcc⟩
    · obtain⟨e,n,ne,nf,d⟩:=I.pin p hp
      refine⟨(hs.2 p.1 ?_).trans e,n,ne,nf,d⟩
      intro q
      rw[q,hoc] at e
      have q':oc=p.2:=Option.some.inj e
      exact d w' (by rw[←q'];exact hocd)
theorem store_ok {M:Model} {A:Around} {E:Value→Shared→Prop} {i:Nat} {x:Str} {v:V} {u:Value} {Q:Unit→Shared→Prop} (I:Inv X pins σ H s) (hN:X.N.Nodup) (hi:X.N[i]?=some x) (hx:Loc X.env.scope x) (r:RelV v u)
    (h:∀s',Inv X pins (σ.set i (some v)) H s'→Q () s') (hf:X.fn x=true∨X.env.scope.names.lookup x=some .local:=by first |exact .inl rfl |exact .inr rfl |assumption):wpAny M A (storeName X.env x u) Q E s:=
  store_ok2 I hN hi hx r (fun s' I' _=>h s' I') hf
theorem Inv.call' {s':Shared} {ch:List Addr} (I:Inv X pins σ H s) (ho:s'.os=s.os) (u:Un (frs X.stack) ch H H' s.heap s'.heap) (hok:HOk X.prog X.w H' s'.heap) (hg:AllBare s'.gens)
    (hch:∀b∈ch,(b∈X.ex∨X.s₀.heap.objs.size≤b)∧b≠X.env.locals∧(∀x c,X.env.cells.lookup x=some c→c≠b)∧∀p∈X.pn++pins,p.1≠b):Inv X pins σ H' s':=by
  obtain⟨h',g',d',t',o'⟩:=s'
  have e:o'=s.os:=ho
  subst e
  exact I.call (g':=g') (t':=t') (d':=d') u hok hg hch
end
noncomputable abbrev XK:=Value→Option Addr→Hp→Prop
noncomputable abbrev St:=List (Option V)
noncomputable abbrev VK:=V→Hp→Prop
noncomputable abbrev TE:=St→Hp→VK→Prop
noncomputable abbrev TT:=St→Hp→(Bool→Hp→Prop)→Prop
noncomputable abbrev TA:=St→Hp→(List V→Hp→Prop)→Prop
structure Ends where
  nx:St→Hp→Prop
  rt:VK
  bk:St→Hp→Prop:=fun _ _=>False
  ct:St→Hp→Prop:=fun _ _=>False
noncomputable abbrev TS:=Ends→St→Hp→Prop
inductive EP (X:Cx) (pins:List (Addr×Obj)) (σ:St) (Q:VK) (u:Value) (s':Shared):Prop
  |mk (v:V) (H':Hp) (I:Inv X pins σ H' s') (r:RelV v u) (q:Q v H'):EP X pins σ Q u s'
inductive TP (X:Cx) (pins:List (Addr×Obj)) (σ:St) (Q:Bool→Hp→Prop) (b:Bool) (s':Shared):Prop
  |mk (H':Hp) (I:Inv X pins σ H' s') (q:Q b H'):TP X pins σ Q b s'
inductive AP (X:Cx) (pins:List (Addr×Obj)) (σ:St) (Q:List V→Hp→Prop) (us:List Value) (s':Shared):Prop
  |mk (vs:List V) (H':Hp) (I:Inv X pins σ H' s') (r:Vals vs us) (q:Q vs H'):AP X pins σ Q us s'
inductive Tz (X:Cx) (pins:List (Addr×Obj)) (D:St→Hp→Prop) (s':Shared):Prop
  |mk (σ':St) (H':Hp) (I:Inv X pins σ' H' s') (d:D σ' H'):Tz X pins D s'
inductive SPr (X:Cx) (pins:List (Addr×Obj)) (D:V→Hp→Prop) (u:Value) (s':Shared):Prop
  |mk (v:V) (σ':St) (H':Hp) (I:Inv X pins σ' H' s') (r:RelV v u) (d:D v H'):SPr X pins D u s'
def SP (X:Cx) (pins:List (Addr×Obj)) (D:Ends) (f:Flow) (s':Shared):Prop:=
  match f with
  | .next=>Tz X pins D.nx s'
  | .brk=>Tz X pins D.bk s'
  | .cont=>Tz X pins D.ct s'
  | .ret u=>SPr X pins D.rt u s'
noncomputable def PE (X:Cx) (e:Expr) (t:TE):Prop:=
  ∀(pins:List (Addr×Obj)) (s:Shared) (σ:St) (H:Hp) (Q:VK),Inv X pins σ H s→t σ H Q→wpAny (model X.prog X.w) X.A (eval e X.env) (EP X pins σ Q) X.xe s
noncomputable def PT (X:Cx) (e:Expr) (t:TT):Prop:=
  ∀(pins:List (Addr×Obj)) (s:Shared) (σ:St) (H:Hp) (Q:Bool→Hp→Prop),Inv X pins σ H s→t σ H Q→wpAny (model X.prog X.w) X.A (isTrue e X.env (eval e X.env)) (TP X pins σ Q) X.xe s
noncomputable def PW (X:Cx) (e:Expr) (t:TT):Prop:=
  ∀(whole:Sem Value) (pins:List (Addr×Obj)) (s:Shared) (σ:St) (H:Hp) (Q:Bool→Hp→Prop),Inv X pins σ H s→t σ H Q→wpAny (model X.prog X.w) X.A (isTrue e X.env whole) (TP X pins σ Q) X.xe s
noncomputable def PA (X:Cx) (es:List Expr) (t:TA):Prop:=
  ∀(pos:Pos) (pins:List (Addr×Obj)) (s:Shared) (σ:St) (H:Hp) (Q:List V→Hp→Prop),Inv X pins σ H s→t σ H Q→wpAny (model X.prog X.w) X.A (spliced (backTo pos (starEach es X.env))) (AP X pins σ Q) X.xe s
noncomputable def PS (X:Cx) (st:Stmt) (t:TS):Prop:=
  ∀(pins:List (Addr×Obj)) (s:Shared) (σ:St) (H:Hp) (D:Ends),Inv X pins σ H s→t D σ H→wpAny (model X.prog X.w) X.A (exec st X.env) (SP X pins D) X.xe s
noncomputable def PSs (X:Cx) (st:List Stmt) (t:TS):Prop:=
  ∀(pins:List (Addr×Obj)) (s:Shared) (σ:St) (H:Hp) (D:Ends),Inv X pins σ H s→t D σ H→wpAny (model X.prog X.w) X.A (execs st X.env) (SP X pins D) X.xe s
theorem thn {α:Type} {t:Sem α} {Q Q':α→Shared→Prop} {M:Model} {A:Around} {E:Value→Shared→Prop} {s:Shared} (h:wpAny M A t Q E s) (hQ:∀a s,Q a s→Q' a s):wpAny M A t Q' E s:=wpAny_mono h hQ fun _ _ x=>x
end L2
namespace L2
open PySem PySem.Spec PyProof.Rows
section
variable {X:Cx}
theorem bin {a b:Expr} {ta tb:TE} (ha:PE X a ta) (hb:PE X b tb) {pins:List (Addr×Obj)} {s:Shared} {σ:St} {H:Hp} {R:V→V→Hp→Prop} (I:Inv X pins σ H s) (h:ta σ H fun x H1=>tb σ H1 fun y H2=>R x y H2)
    {α:Type} {Q:α→Shared→Prop} {f:Value→Value→Sem α}
    (hf:∀v u s2 x y H2,Inv X pins σ H2 s2→RelV x v→RelV y u→R x y H2→wpAny (model X.prog X.w) X.A (f v u) Q X.xe s2):
    wpAny (model X.prog X.w) X.A (eval a X.env) (fun v s₁=>wpAny (model X.prog X.w) X.A (eval b X.env) (fun u s₂=>wpAny (model X.prog X.w) X.A (f v u) Q X.xe s₂) X.xe s₁) X.xe s:=by
  refine thn (ha pins s σ H _ I h) fun v s1 bN=>?_
  obtain⟨x,H1,I1,r1,q1⟩:=bN
  refine thn (hb pins s1 σ H1 _ I1 q1) fun u s2 bN=>?_
  obtain⟨y,H2,I2,r2,q2⟩:=bN
  exact hf v u s2 x y H2 I2 r1 r2 q2
noncomputable def tVar (i:Nat):TE:=fun σ H Q=>∃v,σ[i]?=some (some v)∧Q v H
noncomputable def tC (v:V):TE:=fun _ H Q=>Q v H
theorem pe_var {i:Nat} {x:Str} {pos:Pos} (hN:X.N[i]?=some x) (hv:Vis X.env.scope x) (hd:(x ==("__debug__" :Str))=false:=by decide) (hcd:(x ==("__classdict__" :Str))=false:=by decide):PE X (.Name x pos) (tVar i):=by
  intro pins s σ H Q I h
  obtain⟨v,e,h⟩:=h
  obtain⟨m,hn,hl⟩:=I.loc
  obtain⟨u,r,l⟩:=hl i x v hN e hv
  have fin:EP X pins σ Q u s:=⟨v,H,I,r,h⟩
  rcases l with⟨hk,hm⟩ |⟨hk,c,hc,hcell⟩
  · exact wpAny_Name (wpAny_loadName_local I.ok.kind hk hn hm fin) hd
  · rcases hk with hk |hk
    · exact wpAny_Name (wpAny_loadName_cell I.ok.kind hk hc hcell fin) hd
    · exact wpAny_Name (wpAny_loadName_free I.ok.kind hk hc hcell fin hcd) hd
theorem pe_int {i j pos}:PE X (.Constant (.int i) j pos) (tC (.int i)):=fun _ _ _ H _ I h=>wpAny_Constant_int ⟨.int i,H,I.tok _,⟨_,rfl⟩,h⟩
theorem pe_bl {b j pos}:PE X (.Constant (.bool b) j pos) (tC (.bl b)):=fun _ _ _ H _ I h=>Constant_bool ⟨.bl b,H,I,rfl,h⟩
theorem pe_non {j pos}:PE X (.Constant .none j pos) (tC .non):=fun _ _ _ H _ I h=>Constant_none ⟨.non,H,I,rfl,h⟩
theorem pe_str {x j pos}:PE X (.Constant (.str x) j pos) (tC (.str x)):=fun _ _ _ H _ I h=>Calls.Constant_str ⟨.str x,H,I.tok _,⟨_,rfl⟩,h⟩
noncomputable def Gl (X:Cx) (x:Str):Prop:=X.env.kindOf x=some .globalImplicit
theorem ld_glob {E:Value→Shared→Prop} {pins:List (Addr×Obj)} {s:Shared} {σ:St} {H:Hp} {x:Str} {u:Value} {pos:Pos} {Q:Value→Shared→Prop} (I:Inv X pins σ H s) (hg:Gl X x) (hm:X.mg x=some u) (h:Q u s)
    (hd:(x ==("__debug__" :Str))=false:=by decide):wpAny (model X.prog X.w) X.A (eval (.Name x pos) X.env) Q E s:=
  Calls.Name_function_global I.ok.kind hg (Calls.loadGlobal_global (by rw[I.ok.glob];exact I.mod.glob.keeps I.bk) hm h) hd
theorem ld_blt {E:Value→Shared→Prop} {pins:List (Addr×Obj)} {s:Shared} {σ:St} {H:Hp} {x:Str} {u:Value} {pos:Pos} {Q:Value→Shared→Prop} (I:Inv X pins σ H s) (hg:Gl X x) (hm:X.mg x=none) (hv:bootBuiltins x=some u) (h:Q u s)
    (hn:x≠"__name__" :=by decide) (hd:(x ==("__debug__" :Str))=false:=by decide):wpAny (model X.prog X.w) X.A (eval (.Name x pos) X.env) Q E s:=by
  obtain⟨mb,h1,h2⟩:=I.mod.blt
  exact Calls.Name_function_global I.ok.kind hg (Calls.loadGlobal_builtin (by rw[I.ok.glob];exact I.mod.glob.keeps I.bk) hm (by rw[I.ok.blt];exact h1.keeps I.bk) ((h2 x hn).trans hv) h) hd
theorem pe_glob {x:Str} {v:V} {u:Value} {pos:Pos} (hg:Gl X x) (hm:X.mg x=some u) (r:RelV v u) (hd:(x ==("__debug__" :Str))=false:=by decide):PE X (.Name x pos) (tC v):=
  fun _ _ _ H _ I h=>ld_glob I hg hm ⟨v,H,I,r,h⟩ hd
theorem pe_bltn {x:Str} {v:V} {u:Value} {pos:Pos} (hg:Gl X x) (hm:X.mg x=none) (hv:bootBuiltins x=some u) (r:RelV v u) (hn:x≠"__name__" :=by decide) (hd:(x ==("__debug__" :Str))=false:=by decide):PE X (.Name x pos) (tC v):=
  fun _ _ _ H _ I h=>ld_blt I hg hm hv ⟨v,H,I,r,h⟩ hn hd
variable {a b:Expr} {ta tb:TE} {pos:Pos}
noncomputable def PC (X:Cx) (op:CmpOp) (a b:Expr) (t:TE):Prop:=
  ∀ (pins:List (Addr×Obj)) (s:Shared) (σ:St) (H:Hp) (Q:VK),Inv X pins σ H s→t σ H Q→
    wpAny (model X.prog X.w) X.A (eval a X.env) (fun v s₁=>wpAny (model X.prog X.w) X.A (eval b X.env) (fun u s₂=>wpAny (model X.prog X.w) X.A (compareOp op v u) (EP X pins σ Q) X.xe s₂) X.xe s₁) X.xe s
theorem nobehind (b:Expr) {op:CmpOp} (h:op≠.In) (h2:op≠.NotIn):behindInMarks op b=false:=by
  have e1:(op ==CmpOp.In)=false:=by cases op <;> first |rfl |exact absurd rfl h
  have e2:(op ==CmpOp.NotIn)=false:=by cases op <;> first |rfl |exact absurd rfl h2
  cases b <;> simp[behindInMarks,e1,e2]
noncomputable def tB (t:TE):TT:=fun σ H Q=>t σ H fun x H1=>∃c,x= .bl c∧Q c H1
theorem pt_cmp {op:CmpOp} {t:TE} (h:PC X op a b t) (h1:behindInMarks op b=false:=by first |exact nobehind _ (by decide) (by decide) |rfl):PT X (.Compare a [op] [b] pos) (tB t):=by
  intro pins s σ H Q I hw
  refine wpAny_isTrue_Compare1 (thn (h pins s σ H _ I hw) fun v s1 h1=>thn h1 fun u s2 h2=>thn h2 fun c s3 ⟨x,H1,I1,r1,q1⟩=>?_) h1
  obtain⟨d,rfl,q⟩:=q1
  cases r1
  exact wpAny_truthy_bool ⟨H1,I1,q⟩
theorem pt_val {e:Expr} {t:TE} (h:PE X e t) (he:∀whole,isTrue e X.env whole=(do let v ←whole;standAt e.pos;holding [v] (truthy v)):=by intro _;rfl):PT X e (tB t):=by
  intro pins s σ H Q I hw
  refine isTrue_plain (thn (h pins s σ H _ I hw) fun v s1 ⟨x,H1,I1,r1,q1⟩=>?_) (he _)
  obtain⟨d,rfl,q⟩:=q1
  cases r1
  exact wpAny_truthy_bool ⟨H1,I1,q⟩
variable {tA tB':TT} {rest:List Expr}
noncomputable def tAnd (t u:TT):TT:=fun σ H Q=>t σ H fun c H1=>if c=true then u σ H1 Q else Q false H1
noncomputable def tOr (t u:TT):TT:=fun σ H Q=>t σ H fun c H1=>if c=true then Q true H1 else u σ H1 Q
noncomputable def tNot (t:TT):TT:=fun σ H Q=>t σ H fun c H1=>Q (!c) H1
theorem pw_and1 (ha:PT X a tA):PW X (.BoolOp .And [a] pos) tA:=by
  intro wh pins s σ H Q I h
  refine isTrue_and (thn (ha pins s σ H Q I h) fun c s1 e=>?_)
  cases c with
  |true=>exact isTrue_and_nil e
  |false=>exact e
theorem pw_or1 (ha:PT X a tA):PW X (.BoolOp .Or [a] pos) tA:=by
  intro wh pins s σ H Q I h
  refine isTrue_or (thn (ha pins s σ H Q I h) fun c s1 e=>?_)
  cases c with
  |false=>exact isTrue_or_nil e
  |true=>exact e
theorem pw_and (ha:PT X a tA) (hb:PW X (.BoolOp .And (b::rest) pos) tB'):PW X (.BoolOp .And (a::b::rest) pos) (tAnd tA tB'):=by
  intro wh pins s σ H Q I h
  refine isTrue_and (thn (ha pins s σ H _ I h) fun c s1 bN=>?_)
  obtain⟨H1,I1,q1⟩:=bN
  cases c with
  |true=>exact hb wh pins s1 σ H1 Q I1 q1
  |false=>exact⟨H1,I1,q1⟩
theorem pw_or (ha:PT X a tA) (hb:PW X (.BoolOp .Or (b::rest) pos) tB'):PW X (.BoolOp .Or (a::b::rest) pos) (tOr tA tB'):=by
  intro wh pins s σ H Q I h
  refine isTrue_or (thn (ha pins s σ H _ I h) fun c s1 bN=>?_)
  obtain⟨H1,I1,q1⟩:=bN
  cases c with
  |true=>exact⟨H1,I1,q1⟩
  |false=>exact hb wh pins s1 σ H1 Q I1 q1
theorem pt_not (ha:PT X a tA):PT X (.UnaryOp .Not a pos) (tNot tA):=by
  intro pins s σ H Q I h
  refine isTrue_not (thn (ha pins s σ H (fun c H1=>Q (!c) H1) I h) fun c s1 hz=>?_)
  obtain⟨H1,I1,q1⟩:=hz
  exact⟨H1,I1,q1⟩
noncomputable def tAndV (ta tb:TE):TE:=fun σ H Q=>ta σ H fun x H1=>∃c,x= .bl c∧if c=true then tb σ H1 Q else Q (.bl false) H1
noncomputable def tNotV (ta:TE):TE:=fun σ H Q=>ta σ H fun x H1=>∃c,x= .bl c∧Q (.bl (!c)) H1
theorem pe_one {op} {t:TE} (h:PE X a t):PE X (.BoolOp op [a] pos) t:=fun pins s σ H Q I hw=>BoolOp_one (h pins s σ H Q I hw)
theorem pe_and (ha:PE X a ta) (hb:PE X (.BoolOp .And (b::rest) pos) tb):PE X (.BoolOp .And (a::b::rest) pos) (tAndV ta tb):=by
  intro pins s σ H Q I h
  refine BoolOp_and (thn (ha pins s σ H _ I h) fun v s1 bN=>?_)
  obtain⟨x,H1,I1,r1,q1⟩:=bN
  obtain⟨c,rfl,q1⟩:=q1
  cases r1
  refine wpAny_truthy_bool ?_
  cases c with
  |true=>exact hb pins s1 σ H1 Q I1 q1
  |false=>exact⟨.bl false,H1,I1,rfl,q1⟩
theorem pe_not (ha:PE X a ta):PE X (.UnaryOp .Not a pos) (tNotV ta):=by
  intro pins s σ H Q I h
  refine UnaryOp_ (thn (ha pins s σ H _ I h) fun v s1 bN=>?_)
  obtain⟨x,H1,I1,r1,q1⟩:=bN
  obtain⟨c,rfl,q1⟩:=q1
  cases r1
  exact not_of (wpAny_truthy_bool ⟨.bl (!c),H1,I1,rfl,q1⟩)
noncomputable def tIf (t:TT) (ta tb:TE):TE:=fun σ H Q=>t σ H fun c H1=>if c=true then ta σ H1 Q else tb σ H1 Q
theorem pe_ifExp {c:Expr} (hc:PT X c tA) (ha:PE X a ta) (hb:PE X b tb):PE X (.IfExp c a b pos) (tIf tA ta tb):=by
  intro pins s σ H Q I h
  refine wpAny_IfExp (thn (hc pins s σ H _ I h) fun d s1 bN=>?_)
  obtain⟨H1,I1,q1⟩:=bN
  cases d with
  |true=>exact ha pins s1 σ H1 Q I1 q1
  |false=>exact hb pins s1 σ H1 Q I1 q1
end
end L2
namespace L2
open PySem PySem.Spec PyProof.Rows
noncomputable def SqL (K:PySem.W.Frag) (H:Hp) (a:Addr) (xs:List V):Prop:=
  Rd H a (.lst xs)∨
    ∃(o:Obj) (its:Array Value) (n:Nat),K.lookup a=some o∧o.cls= .type "list"∧o.dict=none∧o.data= .seq its n∧its.size≤sizeLine∧Vals xs its.toList
noncomputable def SqT (K:PySem.W.Frag) (H:Hp) (a:Addr) (xs:List V):Prop:=
  Rd H a (.tup xs)∨
    ∃(o:Obj) (its:Array Value) (n:Nat),K.lookup a=some o∧o.cls= .type "tuple"∧o.data= .seq its n∧its.size≤sizeLine∧Vals xs its.toList
noncomputable def absV:Value→Option V
  | .none=>some .non
  | .bool b=>some (.bl b)
  | .int i _=>some (.int i)
  | .str x _=>some (.str x)
  | .bytes b _=>some (.byt b)
  | .float b _=>some (.flt b)
  | .ref a=>some (.ref a)
  | .type n=>some (.ty n)
  |_=>none
theorem RelV.abs {x:V} {u:Value} (r:RelV x u):absV u=some x:=by
  cases x with
  |non=>cases r;rfl
  |bl _=>cases r;rfl
  |int _=>obtain⟨t,rfl⟩:=r;rfl
  |str _=>obtain⟨t,rfl⟩:=r;rfl
  |byt _=>obtain⟨t,rfl⟩:=r;rfl
  |flt _=>obtain⟨t,rfl⟩:=r;rfl
  |ref _=>cases r;rfl
  |ty _=>cases r;rfl
theorem RelV.inj {x y:V} {u:Value} (r:RelV x u) (q:RelV y u):x=y:=Option.some.inj (r.abs.symm.trans q.abs)
theorem Vals.inj:∀{xs ys:List V} {us:List Value},Vals xs us→Vals ys us→xs=ys
  :=by
  intro xs ys us h
  induction h generalizing ys with
  |nil=>intro q;cases q;rfl
  |cons r t ih=>intro q;cases q with |cons r' t'=>rw[r.inj r',ih t']
section
variable {X:Cx} {pins:List (Addr×Obj)} {σ:St} {H:Hp} {s:Shared} {a:Addr} {xs ys:List V}
theorem SqL.of {K:PySem.W.Frag} (h:H a=some (.lst xs)):SqL K H a xs:= .inl (.inl h)
theorem SqT.of {K:PySem.W.Frag} (h:H a=some (.tup xs)):SqT K H a xs:= .inl (.inl h)
theorem Inv.list (I:Inv X pins σ H s) (h:SqL X.K H a xs):∃its:List Value,Vals xs its∧PlainL s.heap a its.toArray∧xs.length≤sizeLine:=by
  rcases h with h |⟨o,its,n,hk,hc,hd,hs,hz,r⟩
  · obtain⟨z,its,n,r,e⟩:=h.ok I.hok
    exact⟨its,r,⟨_,n,e,rfl,rfl,rfl⟩,z⟩
  · refine⟨its.toList,r,⟨o,n,I.kIn a o hk,hc,hd,by simpa using hs⟩,?_⟩
    have e:=r.length
    simp only[Array.length_toList] at e
    omega
theorem Inv.tuple (I:Inv X pins σ H s) (h:SqT X.K H a xs):∃its:List Value,Vals xs its∧IsTup s.heap a its.toArray∧xs.length≤sizeLine:=by
  rcases h with h |⟨o,its,n,hk,hc,hs,hz,r⟩
  · obtain⟨z,its,r,p⟩:=h.ok I.hok
    exact⟨its,r,p,z⟩
  · refine⟨its.toList,r,⟨o,I.kIn a o hk,hc,n,by simpa using hs⟩,?_⟩
    have e:=r.length
    simp only[Array.length_toList] at e
    omega
theorem Inv.list_inj (I:Inv X pins σ H s) (h:SqL X.K H a xs) (h':SqL X.K H a ys):xs=ys:=by
  obtain⟨its,r,⟨o,n,e,_,_,d⟩,_⟩:=I.list h
  obtain⟨its',r',⟨o',n',e',_,_,d'⟩,_⟩:=I.list h'
  rw[e] at e';cases e'
  rw[d] at d'
  injection d' with d1 _
  have:its=its':=by simpa using congrArg Array.toList d1
  subst this
  exact r.inj r'
theorem Inv.tuple_inj (I:Inv X pins σ H s) (h:SqT X.K H a xs) (h':SqT X.K H a ys):xs=ys:=by
  obtain⟨its,r,⟨o,e,_,n,d⟩,_⟩:=I.tuple h
  obtain⟨its',r',⟨o',e',_,n',d'⟩,_⟩:=I.tuple h'
  rw[e] at e';cases e'
  rw[d] at d'
  injection d' with d1 _
  have:its=its':=by simpa using congrArg Array.toList d1
  subst this
  exact r.inj r'
end
noncomputable abbrev Cx.wish (X:Cx) (E:Value→Shared→Prop):Cx:={X with xe:=E}
noncomputable abbrev Cx.nox (X:Cx):Cx:=X.wish fun _ _=>False
theorem Cx.Ok.wish {X:Cx} (ok:X.Ok) (E:Value→Shared→Prop):(X.wish E).Ok:=
  ⟨ok.mod,ok.kind,ok.glob,ok.blt,ok.above,ok.inj,ok.has,ok.cab,ok.hd,ok.frames,ok.stk,ok.exf,ok.bs,ok.bsz,ok.noex,ok.exfs,ok.funs,ok.frf⟩
theorem Cx.Ok.unwish {X:Cx} {E:Value→Shared→Prop} (ok:(X.wish E).Ok):X.Ok:=
  ⟨ok.mod,ok.kind,ok.glob,ok.blt,ok.above,ok.inj,ok.has,ok.cab,ok.hd,ok.frames,ok.stk,ok.exf,ok.bs,ok.bsz,ok.noex,ok.exfs,ok.funs,ok.frf⟩
section
variable {X:Cx} {pins:List (Addr×Obj)} {σ:St} {H:Hp} {s:Shared} {E:Value→Shared→Prop}
theorem Inv.wish (I:Inv X pins σ H s) (E:Value→Shared→Prop):Inv (X.wish E) pins σ H s:=⟨I.ok.wish E,I.os,I.bare,I.base,I.loc,I.cell,I.free,I.freeC,I.pin,I.hok,I.len⟩
theorem Inv.unwish (I:Inv (X.wish E) pins σ H s):Inv X pins σ H s:=⟨I.ok.unwish,I.os,I.bare,I.base,I.loc,I.cell,I.free,I.freeC,I.pin,I.hok,I.len⟩
theorem SP.unwish {D:Ends} {f:Flow} {s':Shared} (h:SP (X.wish E) pins D f s'):SP X pins D f s':=by
  cases f with
  |next=>obtain⟨σ',H',I,q⟩:=h;exact⟨σ',H',I.unwish,q⟩
  |brk=>obtain⟨σ',H',I,q⟩:=h;exact⟨σ',H',I.unwish,q⟩
  |cont=>obtain⟨σ',H',I,q⟩:=h;exact⟨σ',H',I.unwish,q⟩
  |ret u=>obtain⟨v,σ',H',I,r,q⟩:=h;exact⟨v,σ',H',I.unwish,r,q⟩
theorem PSs.nox {st:List Stmt} {t:TS} (h:PSs X.nox st t):PSs X st t:=fun pins s σ H D I hw=>
  wpAny_mono (h pins s σ H D (I.wish _) hw) (fun _ _ q=>q.unwish) fun _ _ z=>False.elim z
end
section
variable {X:Cx} {st:Stmt} {rest:List Stmt} {t u:TS} {e:Expr} {te:TE} {pos:Pos}
noncomputable def tNext:TS:=fun D σ H=>D.nx σ H
noncomputable def tSeq (t u:TS):TS:=fun D σ H=>t {D with nx:=u D} σ H
theorem pss_nil:PSs X [] tNext:=fun _ _ σ H _ I h=>wpAny_execs_nil ⟨σ,H,I,h⟩
theorem pss_cons (h1:PS X st t) (h2:PSs X rest u):PSs X (st::rest) (tSeq t u):=by
  intro pins s σ H D I h
  refine wpAny_execs_cons (thn (h1 pins s σ H {D with nx:=u D} I h) fun f s1 q=>?_)
  cases f with
  | next=>
    obtain⟨σ',H',I',q⟩:=q
    exact h2 pins s1 σ' H' D I' q
  |ret v=>exact q
  |brk=>exact q
  |cont=>exact q
theorem pss_one (h1:PS X st t):PSs X [st] t:=by
  intro pins s σ H D I h
  refine wpAny_execs_cons (thn (h1 pins s σ H D I h) fun f s1 q=>?_)
  cases f with
  |next=>exact wpAny_execs_nil q
  |ret v=>exact q
  |brk=>exact q
  |cont=>exact q
theorem Inv.quiet {pins:List (Addr×Obj)} {σ:St} {H:Hp} {s:Shared} (I:Inv X pins σ H s):interactive X.env=false:=by simp[interactive,I.ok.kind]
noncomputable def tDrop (te:TE):TS:=fun D σ H=>te σ H fun _ H1=>D.nx σ H1
theorem ps_expr (he:PE X e te) (hs:swapsWith e none pos.line X.env=pure false:=by rfl):PS X (.Expr e pos) (tDrop te):=by
  intro pins s σ H D I h
  exact wpAny_Expr_any (thn (he pins s σ H _ I h) fun v s1 ⟨x,H1,I1,r1,q1⟩=>⟨σ,H1,I1,q1⟩) I.quiet hs
noncomputable def tRet (te:TE):TS:=fun D σ H=>te σ H D.rt
theorem ps_ret (he:PE X e te):PS X (.Return (some e) pos) (tRet te):=by
  intro pins s σ H D I h
  exact wpAny_Return_some (thn (he pins s σ H _ I h) fun v s1 ⟨x,H1,I1,r1,q1⟩=>⟨x,σ,H1,I1,r1,q1⟩)
noncomputable def tIfS (c:TT) (t u:TS):TS:=fun D σ H=>c σ H fun b H1=>if b=true then t D σ H1 else u D σ H1
theorem ps_if {c:Expr} {a b:List Stmt} {tc:TT} (hc:PT X c tc) (ha:PSs X a t) (hb:PSs X b u):PS X (.If c a b pos) (tIfS tc t u):=by
  intro pins s σ H D I h
  refine wpAny_If (thn (hc pins s σ H _ I h) fun d s1 bN=>?_)
  obtain⟨H1,I1,q1⟩:=bN
  cases d with
  |true=>exact ha pins s1 σ H1 D I1 q1
  |false=>exact hb pins s1 σ H1 D I1 q1
end
noncomputable abbrev TG:=V→St→Hp→(St→Hp→Prop)→Prop
noncomputable abbrev TGs:=List V→St→Hp→(St→Hp→Prop)→Prop
noncomputable def PG (X:Cx) (target:Expr) (t:TG):Prop:=
  ∀ (pins:List (Addr×Obj)) (s:Shared) (σ:St) (H:Hp) (v:V) (u:Value) (Q:St→Hp→Prop),Inv X pins σ H s→RelV v u→t v σ H Q→
    wpAny (model X.prog X.w) X.A (assign target X.env u) (fun _ s'=>Tz X pins Q s') X.xe s
noncomputable def PGs (X:Cx) (ts:List Expr) (t:TGs):Prop:=
  ∀ (pins:List (Addr×Obj)) (s:Shared) (σ:St) (H:Hp) (vs:List V) (us:List Value) (Q:St→Hp→Prop),Inv X pins σ H s→Vals vs us→t vs σ H Q→
    wpAny (model X.prog X.w) X.A (assignInOrder ((assignEach ts X.env).map (·.2)) us) (fun _ s'=>Tz X pins Q s') X.xe s
noncomputable abbrev TSet:=V→V→V→Hp→(Hp→Prop)→Prop
noncomputable def PSet (X:Cx) (t:TSet):Prop:=
  ∀ (pins:List (Addr×Obj)) (s:Shared) (σ:St) (H:Hp) (o i v:V) (ov iv u:Value) (Q:Hp→Prop),Inv X pins σ H s→RelV o ov→RelV i iv→RelV v u→t o i v H Q→
    wpAny (model X.prog X.w) X.A (setItem ov iv u) (fun _ s'=>∃H',Inv X pins σ H' s'∧Q H') X.xe s
noncomputable abbrev TIp:=V→V→Hp→VK→Prop
noncomputable def PIp (X:Cx) (op:Operator) (t:TIp):Prop:=
  ∀ (pins:List (Addr×Obj)) (s:Shared) (σ:St) (H:Hp) (x y:V) (v u:Value) (Q:VK),Inv X pins σ H s→RelV x v→RelV y u→t x y H Q→
    wpAny (model X.prog X.w) X.A (inplaceOp op v u) (EP X pins σ Q) X.xe s
section
variable {X:Cx} {pos:Pos}
noncomputable def gName (i:Nat):TG:=fun v σ H Q=>Q (σ.set i (some v)) H
theorem pg_name {i:Nat} {x:Str} (hN:X.N.Nodup) (hi:X.N[i]?=some x) (hx:Loc X.env.scope x) (hf:X.fn x=true∨X.env.scope.names.lookup x=some .local:=by first |exact .inl rfl |exact .inr rfl |assumption):PG X (.Name x pos) (gName i):=by
  intro pins s σ H v u Q I r h
  exact wpAny_assign_Name (store_ok I hN hi hx r (fun s' I'=>⟨_,H,I',h⟩) hf)
noncomputable def gNil:TGs:=fun vs σ H Q=>vs=[]∧Q σ H
noncomputable def gCons (t:TG) (u:TGs):TGs:=fun vs σ H Q=>∃v r,vs=v::r∧t v σ H fun σ' H'=>u r σ' H' Q
theorem pgs_nil:PGs X [] gNil:=by
  intro pins s σ H vs us Q I r h
  obtain⟨e,h⟩:=h
  subst e
  cases r
  exact assignInOrder_nil ⟨σ,H,I,h⟩
theorem pgs_cons {e:Expr} {es:List Expr} {t:TG} {u:TGs} (h1:PG X e t) (h2:PGs X es u)
    (hs:(assignEach (e::es) X.env).map (·.2)=assign e X.env::(assignEach es X.env).map (·.2):=by rfl):PGs X (e::es) (gCons t u):=by
  intro pins s σ H vs us Q I r h
  obtain⟨v,vr,e1,h⟩:=h
  subst e1
  cases r with
  | cons r rr=>
    rw[hs]
    refine assignInOrder_cons (thn (h1 pins s σ H _ _ _ I r h) fun _ s1 bN=>?_)
    obtain⟨σ1,H1,I1,q1⟩:=bN
    exact h2 pins s1 σ1 H1 _ _ Q I1 rr q1
noncomputable def gTup (K:PySem.W.Frag) (n:Nat) (t:TGs):TG:=fun v σ H Q=>∃a xs,v= .ref a∧SqT K H a xs∧xs.length=n∧t xs σ H Q
theorem pg_tup {es:List Expr} {k:Nat} {t:TGs} {n:Nat} (hc:X.calm=true) (h:PGs X es t)
    (hn:(assignEach es X.env).length=n:=by rfl) (hst:(assignEach es X.env).findIdx? (·.1)=none:=by rfl):PG X (.Tuple es k pos) (gTup X.K n t):=by
  intro pins s σ H v u Q I r hw
  obtain⟨a,xs,e1,hq,hl,hw⟩:=hw
  subst e1
  cases r
  obtain⟨its,rv,ht,hz⟩:=I.tuple hq
  refine assign_Tuple_tuple (I.ok.hd hc) ht (by simp[hn,←hl,rv.length]) hst fun h' hx=>?_
  have I1:Inv X pins σ H {s with heap:=h'}:=I.kept (t':=s.toks) fun b o e=>hx b o (Nat.ne_of_lt (Heap.lt_size e)) e
  exact h pins _ σ H xs _ Q I1 (by simpa using rv) hw
noncomputable def gSub (to ti:TE) (t:TSet):TG:=fun v σ H Q=>to σ H fun o H1=>ti σ H1 fun i H2=>t o i v H2 fun H3=>Q σ H3
theorem pg_sub {o i:Expr} {to ti:TE} {t:TSet} (ho:PE X o to) (hi:PE X i ti) (hs:PSet X t)
    (ha:∀v,assign (.Subscript o i pos) X.env v=(do
      let ov ←holding [v] (eval o X.env)
      let iv ←holding [v,ov] (eval i X.env)
      standAt pos
      holding [v,ov,iv] (setItem ov iv v)
      release [v,ov,iv] []):=by intro _;rfl):PG X (.Subscript o i pos) (gSub to ti t):=by
  intro pins s σ H v u Q I r h
  rw[ha]
  refine wpAny_bind (wpAny_holding (thn (ho pins s σ H _ I h) fun ov s1 bN=>?_))
  obtain⟨x,H1,I1,r1,q1⟩:=bN
  refine wpAny_bind (wpAny_holding (thn (hi pins s1 σ H1 _ I1 q1) fun iv s2 bN=>?_))
  obtain⟨y,H2,I2,r2,q2⟩:=bN
  refine wpAny_bind (wpAny_standAt (wpAny_bind (wpAny_holding (thn (hs pins s2 σ H2 x y v ov iv u _ I2 r1 r2 r q2) fun _ s3 bN=>?_))))
  obtain⟨H3,I3,q3⟩:=bN
  exact wpAny_release ⟨σ,H3,I3,q3⟩
noncomputable def tAsg (te:TE) (g:TG):TS:=fun D σ H=>te σ H fun x H1=>g x σ H1 D.nx
theorem ps_asg {tg e:Expr} {te:TE} {g:TG} (he:PE X e te) (hg:PG X tg g) (hs:swapsWithSole [tg] e pos.line X.env=pure false:=by rfl) (hw:swappedStores [tg] e X.env=pure none:=by rfl)
    (h1:(assignEach [tg] X.env).map (·.2)=[assign tg X.env]:=by rfl):PS X (.Assign [tg] e pos) (tAsg te g):=by
  intro pins s σ H D I h
  refine wpAny_Assign_stores (thn (he pins s σ H _ I h) fun v s1 ⟨x,H1,I1,r1,q1⟩=>?_) hs hw
  rw[h1]
  exact thn (hg pins s1 σ H1 x v _ I1 r1 q1) fun _ s2 q=>q
theorem ps_set {i:Nat} {x:Str} {e:Expr} {te:TE} {pos':Pos} (hN:X.N.Nodup) (hi:X.N[i]?=some x) (hx:Loc X.env.scope x) (he:PE X e te) (hs:swapsWith e (some (.Name x pos')) pos.line X.env=pure false:=by rfl) (hf:X.fn x=true∨X.env.scope.names.lookup x=some .local:=by first |exact .inl rfl |exact .inr rfl |assumption):
    PS X (.Assign [.Name x pos'] e pos) (tAsg te (gName i)):=by
  intro pins s σ H D I h
  refine wpAny_Assign_Name (thn (he pins s σ H _ I h) fun v s1 ⟨y,H1,I1,r1,q1⟩=>?_) hs
  exact store_ok I1 hN hi hx r1 (fun s2 I2=>⟨_,H1,I2,q1⟩) hf
noncomputable def tPar (i j:Nat) (ta:TA):TS:=fun D σ H=>ta σ H fun vs H1=>∃v w,vs=[v,w]∧D.nx ((σ.set i (some v)).set j (some w)) H1
theorem ps_par {i j:Nat} {x y:Str} {a b:Expr} {ta:TA} {px py pt:Pos} {kt k2 pt2} (hc:X.calm=true) (hN:X.N.Nodup) (hi:X.N[i]?=some x) (hj:X.N[j]?=some y) (hij:i≠j)
    (hx:X.env.scope.names.lookup x=some .local) (hy:X.env.scope.names.lookup y=some .local) (ha:PA X [a,b] ta)
    (hw:swappedStores [.Tuple [.Name x px,.Name y py] kt pt] (.Tuple [a,b] k2 pt2) X.env=pure (some [x,y]))
    (hs:swapsWithSole [.Tuple [.Name x px,.Name y py] kt pt] (.Tuple [a,b] k2 pt2) pos.line X.env=pure false:=by rfl):
    PS X (.Assign [.Tuple [.Name x px,.Name y py] kt pt] (.Tuple [a,b] k2 pt2) pos) (tPar i j ta):=by
  intro pins s σ H D I h
  rw[exec_Assign_arm]
  refine wpAny_bind (wpAny_standAt ?_)
  rw[hs]
  refine wpAny_bind (wpAny_pure ?_)
  rw[if_neg (by decide)]
  refine wpAny_bind (Tuple_ (thn (ha _ pins s σ H _ I h) fun us s1 bN=>?_))
  obtain⟨vs,H1,I1,r1,q1⟩:=bN
  obtain⟨v,w,e1,q1⟩:=q1
  subst e1
  obtain⟨u1,u2,rfl,rv,rw'⟩:∃u1 u2,us=[u1,u2]∧RelV v u1∧RelV w u2:=by
    cases r1 with
    | cons p q=>
      cases q with
      | cons p' q'=>
        cases q'
        exact⟨_,_,rfl,p,p'⟩
  refine wpAny_newObj_type ?_ (by show 2≤sizeLine;decide)
  have I2:Inv X pins σ H1 {s1 with heap:=s1.heap.push {cls:= .type "tuple",data:= .seq [u1,u2].toArray}}:=I1.kept (t':=s1.toks) fun b o e=>Heap.get?_push_of_some _ e
  rw[hw]
  refine wpAny_bind (wpAny_pure ?_)
  show wpAny (model X.prog X.w) X.A (do rule "assign.swapped-stores";let items ←unpackItems (.ref s1.heap.objs.size) 2 none;assignInOrder [fun v=>bindName X.env y v,fun v=>bindName X.env x v] items.reverse;pure Flow.next) _ _ _
  refine wpAny_bind (wpAny_rule (wpAny_bind (unpackItems_tuple (items:= #[u1,u2]) (I.ok.hd hc) (IsTup.new s1.heap _) fun h' hx'=>?_)))
  have I3:=I2.kept (h':=h') (t':=s1.toks) fun b o e=>hx' b o (Nat.ne_of_lt (Heap.lt_size e)) e
  show wpAny _ _ (assignInOrder [fun v=>bindName X.env y v,fun v=>bindName X.env x v] [u2,u1] >>=fun _=>pure Flow.next) _ _ _
  refine wpAny_bind (assignInOrder_cons (wpAny_bindName (store_ok I3 hN hj (.inl hy) rw' (fun s2 I4=>?_) (.inr hy))))
  refine assignInOrder_cons (wpAny_bindName (store_ok I4 hN hi (.inl hx) rv (fun s3 I5=>assignInOrder_nil (wpAny_pure ?_)) (.inr hx)))
  rw[List.set_comm _ _ (Ne.symm hij)] at I5
  exact⟨_,H1,I5,q1⟩
noncomputable def tAug (i:Nat) (te:TE) (ti:TIp):TS:=fun D σ H=>∃x,σ[i]?=some (some x)∧te σ H fun y H1=>ti x y H1 fun z H2=>D.nx (σ.set i (some z)) H2
theorem ps_aug {i:Nat} {x:Str} {e:Expr} {te:TE} {op:Operator} {ti:TIp} {pos':Pos} (hN:X.N.Nodup) (hi:X.N[i]?=some x) (hx:Loc X.env.scope x) (he:PE X e te) (ho:PIp X op ti) (hf:X.fn x=true∨X.env.scope.names.lookup x=some .local:=by first |exact .inl rfl |exact .inr rfl |assumption):
    PS X (.AugAssign (.Name x pos') op e pos) (tAug i te ti):=by
  intro pins s σ H D I h
  obtain⟨v,e1,h⟩:=h
  obtain⟨m,hn,hl⟩:=I.loc
  have vis:Vis X.env.scope x:=by rcases hx with k |k;exact .inl k;exact .inr (.inl k)
  obtain⟨u,r,l⟩:=hl i x v hi e1 vis
  refine wpAny_AugAssign_Name ?_
  have go:wpAny (model X.prog X.w) X.A (eval e X.env) (fun w s₂=>wpAny (model X.prog X.w) X.A (inplaceOp op u w) (fun r s₃=>wpAny (model X.prog X.w) X.A (storeName X.env x r) (fun _=>SP X pins D .next) X.xe s₃) X.xe s₂) X.xe s:=by
    refine thn (he pins s σ H _ I h) fun w s1 bN=>?_
    obtain⟨y,H1,I1,r1,q1⟩:=bN
    refine thn (ho pins s1 σ H1 v y u w _ I1 r r1 q1) fun z s2 bN=>?_
    obtain⟨zv,H2,I2,r2,q2⟩:=bN
    exact store_ok I2 hN hi hx r2 (fun s3 I3=>⟨_,H2,I3,q2⟩) hf
  rcases l with⟨hk,hm⟩ |⟨hk,c,hc,hcell⟩
  · exact wpAny_loadName_local I.ok.kind hk hn hm go
  · rcases hk with hk |hk
    · exact wpAny_loadName_cell I.ok.kind hk hc hcell go
    · rcases hx with k |k
      · have:X.env.scope.names.lookup x=some .free:=hk
        rw[k] at this;cases this
      · have:X.env.scope.names.lookup x=some .free:=hk
        rw[k] at this;cases this
end
section
variable {X:Cx} {pos:Pos}
noncomputable def tWhile (c:TT) (tb:TS):TS:=fun D σ H=>∃W:Nat→St→Hp→Prop,(∃m,W m σ H)∧∀m σ H,W m σ H→
  c σ H fun b H1=>if b=true then ∃N:St→Hp→Prop,(∀σ' H',N σ' H'→∃m',m' < m∧W m' σ' H')∧tb {D with nx:=N,ct:=N,bk:=D.nx} σ H1 else D.nx σ H1
theorem ps_while {c:Expr} {body:List Stmt} {tc:TT} {tb:TS} (hp:PassesOwn (model X.prog X.w) X.A X.env X.xe) (hc:PT X c tc) (hb:PSs X body tb):PS X (.While c body [] pos) (tWhile tc tb):=by
  intro pins s σ H D I h
  obtain⟨W,⟨m0,w0⟩,turn⟩:=h
  refine wpAny_While (codeAny_whileLoop (fun n s'=>∃σ' H',Inv X pins σ' H' s'∧W n σ' H') ?_ m0 ⟨σ,H,I,w0⟩)
  rintro n s1 ⟨σ1,H1,I1,w1⟩
  refine wpAny_passesOwn hp (thn (hc pins s1 σ1 H1 _ I1 (turn n σ1 H1 w1)) fun b s2 bN=>?_)
  obtain⟨H2,I2,q2⟩:=bN
  cases b with
  | true=>
    obtain⟨N,hN,q2⟩:=q2
    rw[if_pos rfl]
    refine wpAny_passesOwn hp (thn (hb pins s2 σ1 H2 _ I2 q2) fun f s3 q3=>?_)
    cases f with
    | next=>
      obtain⟨σ3,H3,I3,n3⟩:=q3
      obtain⟨m',hm,w3⟩:=hN σ3 H3 n3
      exact⟨m',hm,σ3,H3,I3,w3⟩
    | cont=>
      obtain⟨σ3,H3,I3,n3⟩:=q3
      obtain⟨m',hm,w3⟩:=hN σ3 H3 n3
      exact⟨m',hm,σ3,H3,I3,w3⟩
    |brk=>exact q3
    |ret v=>exact q3
  | false=>
    rw[if_neg Bool.false_ne_true]
    exact wpAny_execs_nil ⟨σ1,H2,I2,q2⟩
end
structure It where
  go:Nat→Hp→Prop
  yld:Nat→Hp→V→Hp→Prop
  stop:Nat→Hp→Prop
noncomputable def FpOk (X:Cx) (pins:List (Addr×Obj)) (H:Hp) (b:Addr):Prop:=
  H b=none∧b≠X.env.locals∧b∉X.fs∧(b∈X.ex∨X.s₀.heap.objs.size≤b)∧(∀x c,X.env.cells.lookup x=some c→c≠b)∧∀p∈X.pn++pins,p.1≠b
theorem Inv.fpOk {X:Cx} {pins:List (Addr×Obj)} {σ:St} {H H':Hp} {s:Shared} {b:Addr} (I:Inv X pins σ H s) (hb:s.heap.objs.size≤b) (hn:H' b=none):FpOk X pins H' b:=by
  refine⟨hn,Nat.ne_of_gt (Nat.lt_of_lt_of_le I.lt hb),I.nofs hb,.inr (Nat.le_trans I.sz hb),fun x c e z=>?_,fun p hp z=>?_⟩
  · obtain⟨v,q⟩:=I.cell x c e
    exact absurd (Nat.lt_of_lt_of_le q.lt (by rw[z];exact hb)) (Nat.lt_irrefl _)
  · exact absurd (Nat.lt_of_lt_of_le (Heap.lt_size (I.pin p hp).1) (by rw[z];exact hb)) (Nat.lt_irrefl _)
inductive abp (X:Cx) (pins:List (Addr×Obj)) (σ:St) (H:Hp) (J:It) (tn:Nat→Heap→Prop) (fp:List Addr) (i:Nat) (u:Value) (s2:Shared):Prop
  |mk (x:V) (H':Hp) (I:Inv X pins σ H' s2) (r:RelV x u) (y:J.yld i H x H') (st:tn (i+1) s2.heap) (f:∀b∈fp,H' b=none):abp X pins σ H J tn fp i u s2
structure Turn (P:Program) (w:World) (K:PySem.W.Frag) (tg:Expr) (J:It) (fp:List Addr) (it:Addr) (tn:Nat→Heap→Prop):Prop where
  mem:it∈fp
  obj:∀i h,tn i h→∀b∈fp,∃o,h.get? b=some o∧∀v,o.data≠.cell v
  keep:∀i h h',tn i h→(∀b∈fp,∀o,h.get? b=some o→h'.get? b=some o)→tn i h'
  item:∀(X:Cx),X.prog=P→X.w=w→X.K=K→X.calm=true→∀(i:Nat) (pins:List (Addr×Obj)) (s:Shared) (σ:St) (H:Hp) (E:Value→Shared→Prop),Inv X pins σ H s→(∀b∈fp,FpOk X pins H b)→tn i s.heap→J.go i H→
    wpAny (model P w) X.A (pyNext (.ref it)) (fun r s1=>∃u,r=some u∧
      wpAny (model P w) X.A (letOwnedTupleGo tg (.ref it) u) (fun _ s2=>abp X pins σ H J tn fp i u s2) E s1) E s
  done:∀(X:Cx),X.prog=P→X.w=w→X.K=K→X.calm=true→∀(i:Nat) (pins:List (Addr×Obj)) (s:Shared) (σ:St) (H:Hp) (E:Value→Shared→Prop),Inv X pins σ H s→(∀b∈fp,FpOk X pins H b)→tn i s.heap→J.stop i H→
    wpAny (model P w) X.A (pyNext (.ref it)) (fun r s1=>r=none∧Inv X pins σ H s1) E s
  self:∀(A:Around) (i:Nat) (s:Shared) (Q:Value→Shared→Prop) (E:Value→Shared→Prop),tn i s.heap→Q (.ref it) s→wpAny (model P w) A (pyIter (.ref it)) Q E s
noncomputable abbrev TI:=St→Hp→(It→Hp→Prop)→Prop
inductive PIE (X:Cx) (pins:List (Addr×Obj)) (σ:St) (tg:Expr) (R:It→Hp→Prop) (itv:Value) (s2:Shared):Prop
  |mk (it:Addr) (fp:List Addr) (tn:Nat→Heap→Prop) (J:It) (H':Hp) (e:itv= .ref it) (I:Inv X pins σ H' s2) (T:Turn X.prog X.w X.K tg J fp it tn) (st:tn 0 s2.heap) (f:∀b∈fp,FpOk X pins H' b) (r:R J H'):PIE X pins σ tg R itv s2
noncomputable def PI (X:Cx) (tg iter:Expr) (wi:TI):Prop:=
  ∀ (pins:List (Addr×Obj)) (s:Shared) (σ:St) (H:Hp) (R:It→Hp→Prop),Inv X pins σ H s→wi σ H R→
    wpAny (model X.prog X.w) X.A (eval iter X.env) (fun v s1=>wpAny (model X.prog X.w) X.A (pyIter v) (PIE X pins σ tg R) X.xe s1) X.xe s
theorem go_of {M:Model} {A:Around} {E:Value→Shared→Prop} {s:Shared} {tg:Expr} {it:Addr} {u:Value} {o:Obj} {n:String} {vs:Array Value} {Q:Unit→Shared→Prop} (ho:s.heap.get? it=some o) (hc:o.cls= .type n) (hd:o.data= .fields vs)
    (hn:["enumerate","zip","dict_itemiterator","dict_reverseitemiterator","odict_iterator","itertools.zip_longest","itertools.pairwise"].contains n=false) (hQ:Q () s):wpAny M A (letOwnedTupleGo tg (.ref it) u) Q E s:=by
  unfold letOwnedTupleGo
  cases tg <;> first
    |exact wpAny_pure hQ
    | (cases u <;> first
        |exact wpAny_pure hQ
        | (refine wpAny_bind (wpAny_load ho ?_)
           rw[hc,hd]
           show wpAny M A (if (["enumerate","zip","dict_itemiterator","dict_reverseitemiterator","odict_iterator","itertools.zip_longest","itertools.pairwise"].contains n && vs[0]? ==some (rawInt _))=true then _ else _) Q E s
           rw[if_neg (by intro h;rw[hn,Bool.false_and] at h;cases h)]
           exact wpAny_pure hQ))
noncomputable def Itl (K:PySem.W.Frag) (a:Addr):It:=
  ⟨fun i H=>∃xs x,SqL K H a xs∧xs[i]?=some x,fun i H x H'=>H'=H∧∀xs,SqL K H a xs→xs[i]?=some x,fun i H=>∃xs,SqL K H a xs∧xs.length≤i⟩
noncomputable def Itt (K:PySem.W.Frag) (a:Addr):It:=
  ⟨fun i H=>∃xs x,SqT K H a xs∧xs[i]?=some x,fun i H x H'=>H'=H∧∀xs,SqT K H a xs→xs[i]?=some x,fun i H=>∃xs,SqT K H a xs∧xs.length≤i⟩
noncomputable def Itr (lo:Int) (n:Nat):It:=⟨fun i _=>i < n,fun i H x H'=>H'=H∧x= .int (lo+i),fun i _=>n≤i⟩
theorem turn_list {P:Program} {w:World} {K:PySem.W.Frag} {tg:Expr} (a it:Addr):Turn P w K tg (Itl K a) [it] it (fun i h=>h.IsListIter it a i) where
  mem:=by simp
  obj:=fun i h st b hb=>by
    have e:b=it:=by simpa using hb
    subst e
    obtain⟨o,e,c,d⟩:=st
    exact⟨o,e,fun v z=>by rw[d] at z;cases z⟩
  keep:=fun i h h' st k=>st.at fun o e=>k it (by simp) o e
  item:=by
    intro X hP hw hK hc i pins s σ H E I hf st hg
    subst hP hw hK
    obtain⟨xs,x,hq,hx⟩:=hg
    obtain⟨its,rv,p,hz⟩:=I.list hq
    obtain⟨u,hu,ru⟩:=rv.get hx
    obtain⟨f0,f1,f2,f3,f4,f5⟩:=hf it (by simp)
    refine wpAny_pyNext_list_item st p.isList (x:=u) (by simpa using hu) fun h' st' sb=>?_
    have I1:Inv X pins σ H {s with heap:=h'}:=I.turned (t':=s.toks) (fun b o hb e=>(sb.2 b hb).trans e) f0 f1 f3 f4 f5
    obtain⟨o,e,c,d⟩:=id st'
    exact⟨u,rfl,go_of (s:={s with heap:=h'}) e c d (by decide) ⟨x,H,I1,ru,⟨rfl,fun ys hy=>by rw[I.list_inj hy hq];exact hx⟩,st',fun b hb=>(hf b hb).1⟩⟩
  done:=by
    intro X hP hw hK hc i pins s σ H E I hf st hg
    subst hP hw hK
    obtain⟨xs,hq,hx⟩:=hg
    obtain⟨its,rv,p,hz⟩:=I.list hq
    obtain⟨f0,f1,f2,f3,f4,f5⟩:=hf it (by simp)
    have hl:=rv.length
    exact wpAny_pyNext_list_end (I.ok.hd hc) st p.isList (by simp;omega) fun h' eb=>⟨rfl,I.turned (t':=s.toks) (fun b o hb e=>eb b o hb e) f0 f1 f3 f4 f5⟩
  self:=fun _ _ _ _ _ st h=>wpAny_pyIter_listiter st h
theorem turn_tuple {P:Program} {w:World} {K:PySem.W.Frag} {tg:Expr} (a it:Addr):Turn P w K tg (Itt K a) [it] it (fun i h=>h.IsTupleIter it a i) where
  mem:=by simp
  obj:=fun i h st b hb=>by
    have e:b=it:=by simpa using hb
    subst e
    obtain⟨o,e,c,d⟩:=st
    exact⟨o,e,fun v z=>by rw[d] at z;cases z⟩
  keep:=fun i h h' st k=>st.at fun o e=>k it (by simp) o e
  item:=by
    intro X hP hw hK hc i pins s σ H E I hf st hg
    subst hP hw hK
    obtain⟨xs,x,hq,hx⟩:=hg
    obtain⟨its,rv,p,hz⟩:=I.tuple hq
    obtain⟨u,hu,ru⟩:=rv.get hx
    obtain⟨f0,f1,f2,f3,f4,f5⟩:=hf it (by simp)
    refine wpAny_pyNext_tuple_item st (show s.heap.IsTuple a its.toArray from p) (x:=u) (by simpa using hu) fun h' st' sb=>?_
    have I1:Inv X pins σ H {s with heap:=h'}:=I.turned (t':=s.toks) (fun b o hb e=>(sb.2 b hb).trans e) f0 f1 f3 f4 f5
    obtain⟨o,e,c,d⟩:=id st'
    exact⟨u,rfl,go_of (s:={s with heap:=h'}) e c d (by decide) ⟨x,H,I1,ru,⟨rfl,fun ys hy=>by rw[I.tuple_inj hy hq];exact hx⟩,st',fun b hb=>(hf b hb).1⟩⟩
  done:=by
    intro X hP hw hK hc i pins s σ H E I hf st hg
    subst hP hw hK
    obtain⟨xs,hq,hx⟩:=hg
    obtain⟨its,rv,p,hz⟩:=I.tuple hq
    obtain⟨f0,f1,f2,f3,f4,f5⟩:=hf it (by simp)
    have hl:=rv.length
    exact wpAny_pyNext_tuple_end (I.ok.hd hc) st (show s.heap.IsTuple a its.toArray from p) (by simp;omega) fun h' eb=>⟨rfl,I.turned (t':=s.toks) (fun b o hb e=>eb b o hb e) f0 f1 f3 f4 f5⟩
  self:=fun _ _ _ _ _ st h=>wpAny_pyIter_tupleiter st h
theorem turn_range {P:Program} {w:World} {K:PySem.W.Frag} {tg:Expr} (it:Addr) (lo:Int) (n:Nat):Turn P w K tg (Itr lo n) [it] it (fun i h=>IsRangeIter h it (lo+(i:Nat)*1) ((n:Int) - (i:Nat)) 1) where
  mem:=by simp
  obj :=fun i h st b hb=>by
    have e:b=it:=by simpa using hb
    subst e
    exact⟨_,st,fun v z=>by
      have z':Data.fields _=Data.cell v:=z
      cases z'⟩
  keep:=fun i h h' st k=>k it (by simp) _ st
  item:=by
    intro X hP hw hK hc i pins s σ H E I hf st hg
    subst hP hw hK
    obtain⟨f0,f1,f2,f3,f4,f5⟩:=hf it (by simp)
    have W:=Walks.range (prog:=X.prog) (w:=X.w) (I.ok.hd hc) it lo 1 n
    refine W.item i s _ _ hg st fun v h' tk hv st' kk=>?_
    obtain⟨t,rfl⟩:=hv
    have I1:Inv X pins σ H {s with heap:=h',toks:=tk}:=I.turned (fun b o hb e=>kk b o (by simpa using hb) e) f0 f1 f3 f4 f5
    refine⟨_,rfl,go_of (s:={s with heap:=h',toks:=tk}) (n:= "range_iterator") st' rfl rfl (by decide) ⟨.int (lo+i),H,I1,⟨t,?_⟩,⟨rfl,rfl⟩,st',fun b hb=>(hf b hb).1⟩⟩
    rw[Int.mul_one]
  done:=by
    intro X hP hw hK hc i pins s σ H E I hf st hg
    subst hP hw hK
    obtain⟨f0,f1,f2,f3,f4,f5⟩:=hf it (by simp)
    exact wpAny_pyNext_range_end (I.ok.hd hc) st (by have:n≤i:=hg;omega) fun h' eb=>⟨rfl,I.turned (t':=s.toks) (fun b o hb e=>eb b o hb e) f0 f1 f3 f4 f5⟩
  self:=fun _ _ _ _ _ st h=>wpAny_pyIter_rangeiter st h
end L2
namespace L2
open PySem PySem.Spec PyProof.Rows
section
variable {X:Cx} {tg:Expr}
theorem range_it {pins:List (Addr×Obj)} {σ:St} {H:Hp} {s:Shared} {R:It→Hp→Prop} {E:Value→Shared→Prop} {lo hi:Int} {t u v:Tok} {tk:Nat} (I:Inv X pins σ H s) (h1: -(2 ^ 62)≤lo) (h2:lo < 2 ^ 62) (h3: -(2 ^ 62)≤hi) (h4:hi < 2 ^ 62)
    (q:R (Itr lo (hi - lo).toNat) H):wpAny (model X.prog X.w) X.A (pyIter (.ref s.heap.objs.size)) (PIE X pins σ tg R) E {s with heap:=s.heap.push {cls:= .type "range",data:= .fields #[.int lo t,.int hi u,.int 1 v]},toks:=tk}:=by
  refine wpAny_pyIter_range (IsRange.new ..) (small_one h1 h2 h3 h4) ?_
  have I1:Inv X pins σ H {s with heap:=s.heap.push {cls:= .type "range",data:= .fields #[.int lo t,.int hi u,.int 1 v]},toks:=tk}:=I.kept fun b o e=>Heap.get?_push_of_some _ e
  refine⟨(s.heap.push {cls:= .type "range",data:= .fields #[.int lo t,.int hi u,.int 1 v]}).objs.size,[(s.heap.push {cls:= .type "range",data:= .fields #[.int lo t,.int hi u,.int 1 v]}).objs.size],_,_,H,rfl,
    I1.kept (t':=tk) fun b o e=>Heap.get?_push_of_some _ e,turn_range _ lo (hi - lo).toNat,?_,fun b hb=>?_,q⟩
  · have e1:lo+((0:Nat):Int)*1=lo:=by simp
    have e2:(((hi - lo).toNat:Nat):Int) - ((0:Nat):Int)=Builtin.Range.rangeSize lo hi 1:=by rw[rangeSize_one];split <;> omega
    show IsRangeIter _ _ (lo+((0:Nat):Int)*1) ((((hi - lo).toNat:Nat):Int) - ((0:Nat):Int)) 1
    rw[e1,e2]
    exact Heap.get?_push_size _ rfl
  · have e:b=(s.heap.push {cls:= .type "range",data:= .fields #[.int lo t,.int hi u,.int 1 v]}).objs.size:=by simpa using hb
    subst e
    exact I1.fpOk (Nat.le_refl _) (I1.hok.fresh (Nat.le_refl _))
noncomputable def iRng1 (ta:TA):TI:=fun σ H R=>ta σ H fun vs H1=>∃j:Int,vs=[.int j]∧-(2 ^ 62)≤j∧j < 2 ^ 62∧R (Itr 0 j.toNat) H1
noncomputable def iRng2 (ta:TA):TI:=fun σ H R=>ta σ H fun vs H1=>∃i j:Int,vs=[.int i,.int j]∧(-(2 ^ 62)≤i∧i < 2 ^ 62∧-(2 ^ 62)≤j∧j < 2 ^ 62)∧R (Itr i (j - i).toNat) H1
theorem pi_range1 {a:Expr} {ta:TA} {p pos:Pos} (hg:Gl X "range") (hm:X.mg "range" =none) (ha:PA X [a] ta) (hs:starEach [a] X.env=[(false,eval a X.env)]:=by rfl):PI X tg (.Call (.Name "range" p) [a] [] pos) (iRng1 ta):=by
  intro pins s σ H R I h
  refine Call_ (ld_blt I hg hm boot_range (PyProof.Rows.callWith_type1 (thn (ha pos pins s σ H _ I h) fun us s1 ⟨vs,H1,I1,r1,q1⟩=>?_) hs rfl))
  obtain⟨j,e,q1,q2,q⟩:=q1
  subst e
  cases r1 with
  | cons r rr=>
    cases rr
    obtain⟨t,rfl⟩:=r
    exact call_range_1 (range_it I1 (by omega) (by omega) q1 q2 (by simpa using q))
theorem pi_range2 {a b:Expr} {ta:TA} {p pos:Pos} (hg:Gl X "range") (hm:X.mg "range" =none) (ha:PA X [a,b] ta) (hs:starEach [a,b] X.env=[(false,eval a X.env),(false,eval b X.env)]:=by rfl) (hs2:starEach [b] X.env=[(false,eval b X.env)]:=by rfl):
    PI X tg (.Call (.Name "range" p) [a,b] [] pos) (iRng2 ta):=by
  intro pins s σ H R I h
  refine Call_ (ld_blt I hg hm boot_range (PyProof.Rows.callWith_type1 (thn (ha pos pins s σ H _ I h) fun us s1 ⟨vs,H1,I1,r1,q1⟩=>?_) (by rw[hs,hs2]) (by rw[hs2];rfl)))
  obtain⟨i,j,e,⟨q1,q2,q3,q4⟩,q⟩:=q1
  subst e
  cases r1 with
  | cons r rr=>
    cases rr with
    | cons r' rr=>
      cases rr
      obtain⟨t,rfl⟩:=r
      obtain⟨t',rfl⟩:=r'
      exact call_range_2 (range_it I1 q1 q2 q3 q4 q)
noncomputable def tFor (wi:TI) (g:TG) (tb:TS):TS:=fun D σ H=>wi σ H fun J H1=>∃W:Nat→Nat→St→Hp→Prop,(∃m,W 0 m σ H1)∧∀i m σ H,W i m σ H→
  (J.stop i H∧D.nx σ H)∨(J.go i H∧∃N:St→Hp→Prop,(∀σ' H',N σ' H'→∃m',m' < m∧W (i+1) m' σ' H')∧∀x H',J.yld i H x H'→g x σ H' fun σ2 H2=>tb {D with nx:=N,ct:=N,bk:=D.nx} σ2 H2)
noncomputable def pinsAt (fp:List Addr) (h:Heap):List (Addr×Obj):=fp.filterMap fun b=>(h.get? b).map fun o=>(b,o)
theorem mem_pinsAt {fp:List Addr} {h:Heap} {b:Addr} {o:Obj} (hb:b∈fp) (e:h.get? b=some o):(b,o)∈pinsAt fp h:=List.mem_filterMap.mpr ⟨b,hb,by rw[e];rfl⟩
theorem of_pinsAt {fp:List Addr} {h:Heap} {p:Addr×Obj} (hp:p∈pinsAt fp h):p.1∈fp∧h.get? p.1=some p.2:=by
  obtain⟨b,hb,e⟩:=List.mem_filterMap.mp hp
  cases q:h.get? b with
  |none=>rw[q] at e;cases e
  | some o=>
    rw[q] at e
    have e':(b,o)=p:=Option.some.inj e
    subst e'
    exact⟨hb,q⟩
theorem Inv.pinned {pins:List (Addr×Obj)} {σ:St} {H:Hp} {s:Shared} {fp:List Addr} (I:Inv X pins σ H s) (hf:∀b∈fp,FpOk X pins H b) (ho:∀b∈fp,∃o,s.heap.get? b=some o∧∀v,o.data≠.cell v):Inv X (pins++pinsAt fp s.heap) σ H s:=
  I.pins_of fun p hp=>(List.mem_append.mp hp).elim (fun z=>I.pin p (List.mem_append_right _ z)) fun z=>by
    obtain⟨hb,e⟩:=of_pinsAt z
    obtain⟨f0,f1,f2,_⟩:=hf p.1 hb
    obtain⟨o,e',d⟩:=ho p.1 hb
    rw[e] at e';cases e'
    exact⟨e,f0,f1,f2,d⟩
theorem Inv.unpinned {pins pl:List (Addr×Obj)} {σ:St} {H:Hp} {s:Shared} (I:Inv X (pins++pl) σ H s):Inv X pins σ H s:=I.pins_of fun p hp=>I.pin p (List.mem_append_right _ (List.mem_append_left _ hp))
inductive aat (X:Cx) (pins:List (Addr×Obj)) (tn:Nat→Heap→Prop) (fp:List Addr) (W:Nat→Nat→St→Hp→Prop) (n:Nat) (s':Shared):Prop
  |mk (i:Nat) (σ':St) (H':Hp) (I:Inv X pins σ' H' s') (st:tn i s'.heap) (fr:∀b∈fp,H' b=none) (w:W i n σ' H'):aat X pins tn fp W n s'
theorem ps_for {iter:Expr} {body:List Stmt} {wi:TI} {g:TG} {tb:TS} {pos:Pos} (hp:PassesOwn (model X.prog X.w) X.A X.env X.xe) (hc:X.calm=true) (hi:PI X tg iter wi) (hg:PG X tg g) (hb:PSs X body tb)
    (hs:∀x,foldedSetIterable iter X.env x=pure x:=by intro _;rfl):PS X (.For tg iter body [] pos) (tFor wi g tb):=by
  intro pins s σ H D I h
  refine wpAny_For (thn (hi pins s σ H _ I h) fun v s1 h1=>thn h1 fun itv s2 h2=>?_) hs
  obtain⟨it,fp,tn,J,H2,e,I2,T,st2,f2,W,⟨m0,w0⟩,turn⟩:=h2
  subst e
  have stat:∀{H':Hp},(∀b∈fp,H' b=none)→∀b∈fp,FpOk X pins H' b:=fun hn b hb=>⟨hn b hb,(f2 b hb).2⟩
  refine codeAny_forLoop_any (fun n s'=>aat X pins tn fp W n s') ?_ m0 ⟨0,σ,H2,I2,st2,fun b hb=>(f2 b hb).1,w0⟩
  rintro n s3 ⟨i,σ3,H3,I3,st3,fr3,w3⟩
  rcases turn i n σ3 H3 w3 with⟨stop,qn⟩ |⟨go,N,hN,step⟩
  · refine wpAny_passesOwn hp (thn (T.done X rfl rfl rfl hc i pins s3 σ3 H3 X.xe I3 (stat fr3) st3 stop) fun r s4 bN=>?_)
    obtain⟨hr,I4⟩:=bN
    subst hr
    exact wpAny_execs_nil ⟨σ3,H3,I4,qn⟩
  · refine wpAny_passesOwn hp (thn (T.item X rfl rfl rfl hc i pins s3 σ3 H3 X.xe I3 (stat fr3) st3 go) fun r s4 bN=>?_)
    obtain⟨u,hr,h4⟩:=bN
    subst hr
    refine wpAny_passesOwn hp (thn h4 fun _ s5 bN=>?_)
    obtain⟨x,H5,I5,r5,y5,st5,fr5⟩:=bN
    have I5':=I5.pinned (stat fr5) (T.obj _ _ st5)
    refine wpAny_passesOwn hp (thn (hg _ s5 σ3 H5 x u _ I5' r5 (step x H5 y5)) fun _ s6 bN=>?_)
    obtain⟨σ6,H6,I6,q6⟩:=bN
    refine wpAny_passesOwn hp (thn (hb _ s6 σ6 H6 _ I6 q6) fun f s7 q7=>?_)
    have again:∀{σ7:St} {H7:Hp},Inv X (pins++pinsAt fp s5.heap) σ7 H7 s7→N σ7 H7→∃m,m < n∧aat X pins tn fp W m s7:=fun {σ7 H7} I7 n7=>by
      obtain⟨m',hm,w7⟩:=hN σ7 H7 n7
      refine⟨m',hm,i+1,σ7,H7,I7.unpinned,T.keep _ _ _ st5 fun b hb o e=>(I7.pin (b,o) (List.mem_append_right _ (List.mem_append_right _ (mem_pinsAt hb e)))).1,fun b hb=>?_,w7⟩
      obtain⟨o,e,d⟩:=T.obj _ _ st5 b hb
      exact (I7.pin (b,o) (List.mem_append_right _ (List.mem_append_right _ (mem_pinsAt hb e)))).2.1
    cases f with
    |next=>obtain⟨σ7,H7,I7,n7⟩:=q7;exact again I7 n7
    |cont=>obtain⟨σ7,H7,I7,n7⟩:=q7;exact again I7 n7
    |brk=>obtain⟨σ7,H7,I7,q7⟩:=q7;exact⟨σ7,H7,I7.unpinned,q7⟩
    |ret v=>obtain⟨x7,σ7,H7,I7,r7,q7⟩:=q7;exact⟨x7,σ7,H7,I7.unpinned,r7,q7⟩
end
end L2
namespace L2
open PySem PySem.Spec PyProof.Rows
noncomputable abbrev R2:=V→V→Hp→VK→Prop
noncomputable def OpR (X:Cx) (f:Value→Value→Sem Value) (r:R2):Prop:=
  ∀ (pins:List (Addr×Obj)) (s:Shared) (σ:St) (H:Hp) (x y:V) (v u:Value) (Q:VK),Inv X pins σ H s→RelV x v→RelV y u→r x y H Q→
    wpAny (model X.prog X.w) X.A (f v u) (EP X pins σ Q) X.xe s
noncomputable def UnR (X:Cx) (f:Value→Sem Value) (r:V→Hp→VK→Prop):Prop:=
  ∀ (pins:List (Addr×Obj)) (s:Shared) (σ:St) (H:Hp) (x:V) (v:Value) (Q:VK),Inv X pins σ H s→RelV x v→r x H Q→
    wpAny (model X.prog X.w) X.A (f v) (EP X pins σ Q) X.xe s
noncomputable def CallR (X:Cx) (f:Value) (r:List V→Hp→VK→Prop):Prop:=
  ∀ (pins:List (Addr×Obj)) (s:Shared) (σ:St) (H:Hp) (xs:List V) (us:List Value) (Q:VK),Inv X pins σ H s→Vals xs us→r xs H Q→
    wpAny (model X.prog X.w) X.A (call f us) (EP X pins σ Q) X.xe s
noncomputable def tOp (r:R2) (ta tb:TE):TE:=fun σ H Q=>ta σ H fun x H1=>tb σ H1 fun y H2=>r x y H2 Q
noncomputable def tUn (r:V→Hp→VK→Prop) (ta:TE):TE:=fun σ H Q=>ta σ H fun x H1=>r x H1 Q
noncomputable def rI (C:Int→Int→Prop) (g:Int→Int→V):R2:=fun x y H Q=>∃i j,x= .int i∧y= .int j∧C i j∧Q (g i j) H
noncomputable def rI0 (g:Int→Int→V):R2:=fun x y H Q=>∃i j,x= .int i∧y= .int j∧Q (g i j) H
noncomputable def rU (g:Int→V):V→Hp→VK→Prop:=fun x H Q=>∃i,x= .int i∧Q (g i) H
section
variable {X:Cx} {a b c:Expr} {ta tb tc:TE} {pos:Pos}
theorem binT (ha:PE X a ta) (hb:PE X b tb) {pins:List (Addr×Obj)} {s:Shared} {σ:St} {H:Hp} {R:V→V→Hp→Prop} (I:Inv X pins σ H s)
    (h:ta σ H fun x H1=>tb σ H1 fun y H2=>R x y H2) {Q:Value→Shared→Prop} {f:Value→Value→Sem Value}
    (hf:∀v u s2 x y H2,Inv X pins σ H2 s2→RelV x v→RelV y u→R x y H2→wpAny (model X.prog X.w) X.A (f v u) Q X.xe s2):
    wpAny (model X.prog X.w) X.A (eval a X.env) (fun v s₁=>wpAny (model X.prog X.w) X.A (eval b X.env) (fun u s₂=>wpAny (model X.prog X.w) X.A (f v u) Q X.xe s₂) X.xe s₁) X.xe s:=by
  refine thn (ha pins s σ H _ I h) fun v s1 bN=>?_
  obtain⟨x,H1,I1,r1,q1⟩:=bN
  refine thn (hb pins s1 σ H1 _ I1 q1) fun u s2 bN=>?_
  obtain⟨y,H2,I2,r2,q2⟩:=bN
  exact hf v u s2 x y H2 I2 r1 r2 q2
theorem pe_op {op:Operator} {r:R2} (ho:OpR X (binaryOp op) r) (ha:PE X a ta) (hb:PE X b tb):PE X (.BinOp a op b pos) (tOp r ta tb):=by
  intro pins s σ H Q I h
  exact wpAny_BinOp (binT ha hb I h fun v u s2 x y H2 I2 rx ry q=>ho pins s2 σ H2 x y v u Q I2 rx ry q)
theorem pe_un {op:UnaryOp} {r:V→Hp→VK→Prop} (ho:UnR X (unaryOp op) r) (ha:PE X a ta):PE X (.UnaryOp op a pos) (tUn r ta):=by
  intro pins s σ H Q I h
  exact UnaryOp_ (thn (ha pins s σ H _ I h) fun v s1 ⟨x,H1,I1,r1,q1⟩=>ho pins s1 σ H1 x v Q I1 r1 q1)
theorem opI {f:Value→Value→Sem Value} {C:Int→Int→Prop} {g:Int→Int→Int}
    (rule:∀(i j:Int) (t u:Tok) (s:Shared) (Q:Value→Shared→Prop) (E:Value→Shared→Prop),C i j→Q (.int (g i j) s.toks) {s with toks:=s.toks+1}→wpAny (model X.prog X.w) X.A (f (.int i t) (.int j u)) Q E s):
    OpR X f (rI C fun i j=> .int (g i j)):=by
  intro pins s σ H x y v u Q I rx ry h
  obtain⟨i,j,rfl,rfl,hc,q⟩:=h
  obtain⟨t,rfl⟩:=rx
  obtain⟨t',rfl⟩:=ry
  exact rule i j t t' s _ _ hc ⟨.int (g i j),H,I.tok _,⟨_,rfl⟩,q⟩
theorem opI0 {f:Value→Value→Sem Value} {g:Int→Int→Int}
    (rule:∀(i j:Int) (t u:Tok) (s:Shared) (Q:Value→Shared→Prop) (E:Value→Shared→Prop),Q (.int (g i j) s.toks) {s with toks:=s.toks+1}→wpAny (model X.prog X.w) X.A (f (.int i t) (.int j u)) Q E s):
    OpR X f (rI0 fun i j=> .int (g i j)):=by
  intro pins s σ H x y v u Q I rx ry h
  obtain⟨i,j,rfl,rfl,q⟩:=h
  obtain⟨t,rfl⟩:=rx
  obtain⟨t',rfl⟩:=ry
  exact rule i j t t' s _ _ ⟨.int (g i j),H,I.tok _,⟨_,rfl⟩,q⟩
theorem opB0 {f:Value→Value→Sem Value} {g:Int→Int→Bool}
    (rule:∀(i j:Int) (t u:Tok) (s:Shared) (Q:Value→Shared→Prop) (E:Value→Shared→Prop),Q (.bool (g i j)) s→wpAny (model X.prog X.w) X.A (f (.int i t) (.int j u)) Q E s):
    OpR X f (rI0 fun i j=> .bl (g i j)):=by
  intro pins s σ H x y v u Q I rx ry h
  obtain⟨i,j,rfl,rfl,q⟩:=h
  obtain⟨t,rfl⟩:=rx
  obtain⟨t',rfl⟩:=ry
  exact rule i j t t' s _ _ ⟨.bl (g i j),H,I,rfl,q⟩
noncomputable def CPow (i j:Int):Prop:=0≤j∧j≤1000000∧i.natAbs < 2 ^ 64
noncomputable def CMul (i j:Int):Prop:=(-(2 ^ 64) < i∧i < 2 ^ 64)∨(-(2 ^ 64) < j∧j < 2 ^ 64)
theorem CMul.ok {i j:Int} (h:CMul i j):IntMulOk i j:=by
  rcases h with⟨h1,h2⟩ |⟨h1,h2⟩
  · exact .of_left (intBits_le_64 h1 h2)
  · exact .of_right (intBits_le_64 h1 h2)
theorem op_add:OpR X (binaryOp .Add) (rI0 fun i j=> .int (i+j)):=opI0 fun _ _ _ _ _ _ _ q=>add_int q
theorem op_sub:OpR X (binaryOp .Sub) (rI0 fun i j=> .int (i - j)):=opI0 fun _ _ _ _ _ _ _ q=>sub_int q
theorem op_mul:OpR X (binaryOp .Mult) (rI CMul fun i j=> .int (i*j)):=opI fun _ _ _ _ _ _ _ hc q=>mul_int q hc.ok
theorem op_mod:OpR X (binaryOp .Mod) (rI (fun _ j=>0 < j) fun i j=> .int (i % j)):=opI fun i j _ _ _ _ _ hc q=>by
  have h1:(0:Int) < j:=hc
  exact mod_int' (by omega) (by rw[Int.fmod_eq_emod_of_nonneg i (by omega)];exact q)
theorem op_pow:OpR X (binaryOp .Pow) (rI CPow fun i j=> .int (i ^ j.toNat)):=opI fun _ _ _ _ _ _ _ hc q=>pow_int_small hc.1 hc.2.1 hc.2.2 q
theorem unI {f:Value→Sem Value} {g:Int→Int}
    (rule:∀(i:Int) (t:Tok) (s:Shared) (Q:Value→Shared→Prop) (E:Value→Shared→Prop),Q (.int (g i) s.toks) {s with toks:=s.toks+1}→wpAny (model X.prog X.w) X.A (f (.int i t)) Q E s):
    UnR X f (rU fun i=> .int (g i)):=by
  intro pins s σ H x v Q I rx h
  obtain⟨i,rfl,q⟩:=h
  obtain⟨t,rfl⟩:=rx
  exact rule i t s _ _ ⟨.int (g i),H,I.tok _,⟨_,rfl⟩,q⟩
theorem un_neg:UnR X (unaryOp .USub) (rU fun i=> .int (-i)):=unI fun _ _ _ _ _ q=>neg_int q
end
section
variable {X:Cx} {a b c:Expr} {ta tb tc:TE} {pos:Pos}
theorem fin_bl {pins:List (Addr×Obj)} {σ:St} {H:Hp} {s:Shared} {Q:VK} {k k':Bool} (I:Inv X pins σ H s) (q:Q (.bl k) H) (e:k=k'):EP X pins σ Q (.bool k') s:=by
  subst e
  exact⟨.bl k,H,I,rfl,q⟩
theorem op_lt:OpR X (compareOp .Lt) (rI0 fun i j=> .bl (decide (i < j))):=opB0 fun _ _ _ _ _ _ _ q=>lt_int q
theorem op_le:OpR X (compareOp .LtE) (rI0 fun i j=> .bl (decide (i≤j))):=opB0 fun _ _ _ _ _ _ _ q=>le_int q
theorem op_gt:OpR X (compareOp .Gt) (rI0 fun i j=> .bl (decide (j < i))):=opB0 fun _ _ _ _ _ _ _ q=>gt_int q
theorem op_ge:OpR X (compareOp .GtE) (rI0 fun i j=> .bl (decide (j≤i))):=opB0 fun _ _ _ _ _ _ _ q=>ge_int q
theorem op_isN:OpR X (compareOp .Is) (fun x y H Q=>y= .non∧Q (.bl (decide (x= .non))) H):=by
  intro pins s σ H x y v u Q I rx ry h
  obtain⟨rfl,q⟩:=h
  cases ry
  refine is_none_gen (fin_bl I q ?_)
  cases x <;> first
    |(cases rx;rfl)
    |(obtain⟨t,rfl⟩:=rx;rfl)
theorem op_notN:OpR X (compareOp .IsNot) (fun x y H Q=>y= .non∧Q (.bl (!decide (x= .non))) H):=by
  intro pins s σ H x y v u Q I rx ry h
  obtain⟨rfl,q⟩:=h
  cases ry
  refine isnot_none_gen (fin_bl I q ?_)
  cases x <;> first
    |(cases rx;rfl)
    |(obtain⟨t,rfl⟩:=rx;rfl)
theorem OpR.or {f:Value→Value→Sem Value} {r r':R2} (h:OpR X f r) (h':OpR X f r'):OpR X f (fun x y H Q=>r x y H Q∨r' x y H Q):=by
  intro pins s σ H x y v u Q I rx ry q
  rcases q with q |q
  · exact h pins s σ H x y v u Q I rx ry q
  · exact h' pins s σ H x y v u Q I rx ry q
theorem nomark (b:Expr) {op:CmpOp} (h:op≠.In:=by decide) (h2:op≠.NotIn:=by decide):behindInMarks op b=false:=by
  have e1:(op ==CmpOp.In)=false:=by cases op <;> first |rfl |exact absurd rfl h
  have e2:(op ==CmpOp.NotIn)=false:=by cases op <;> first |rfl |exact absurd rfl h2
  cases b <;> simp[behindInMarks,e1,e2]
theorem pe_cmpR {op:CmpOp} {r:R2} (ho:OpR X (compareOp op) r) (ha:PE X a ta) (hb:PE X b tb) (hm:behindInMarks op b=false):PE X (.Compare a [op] [b] pos) (tOp r ta tb):=by
  intro pins s σ H Q I h
  exact wpAny_Compare1 (binT ha hb I h fun v u s2 x y H2 I2 rx ry q=>ho pins s2 σ H2 x y v u Q I2 rx ry q) hm
noncomputable def tTest (t:TE):TT:=fun σ H Q=>t σ H fun x H'=>∃k,x= .bl k∧Q k H'
theorem pt_cmpR {op:CmpOp} {r:R2} (ho:OpR X (compareOp op) r) (ha:PE X a ta) (hb:PE X b tb) (hm:behindInMarks op b=false):PT X (.Compare a [op] [b] pos) (tTest (tOp r ta tb)):=by
  intro pins s σ H Q I h
  refine wpAny_isTrue_Compare1 (thn (ha pins s σ H _ I h) fun v s1 ⟨x,H1,I1,r1,q1⟩=>thn (hb pins s1 σ H1 _ I1 q1) fun u s2 ⟨y,H2,I2,r2,q2⟩=>
    thn (ho pins s2 σ H2 x y v u _ I2 r1 r2 q2) fun c s3 ⟨z,H3,I3,r3,k,e,q3⟩=>?_) hm
  subst e
  cases r3
  exact wpAny_truthy_bool ⟨H3,I3,q3⟩
noncomputable def tChain (r r':R2) (ta tb tc:TE):TE:=fun σ H Q=>ta σ H fun x H1=>tb σ H1 fun y H2=>r x y H2 fun z H3=>∃k,z= .bl k∧
  (if k=true then tc σ H3 fun w' H4=>r' y w' H4 Q else Q (.bl false) H3)
theorem pe_chain {op op':CmpOp} {r r':R2} (ho:OpR X (compareOp op) r) (ho':OpR X (compareOp op') r') (ha:PE X a ta) (hb:PE X b tb) (hc:PE X c tc)
    (hm:lastMarks [op,op'] [b,c]=false:=by with_unfolding_all rfl):PE X (.Compare a [op,op'] [b,c] pos) (tChain r r' ta tb tc):=by
  intro pins s σ H Q I h
  refine Compare_chain (thn (ha pins s σ H _ I h) fun v s1 ⟨x,H1,I1,r1,q1⟩=>chain_link (thn (hb pins s1 σ H1 _ I1 q1) fun u s2 ⟨y,H2,I2,r2,q2⟩=>
    thn (ho pins s2 σ H2 x y v u _ I2 r1 r2 q2) fun d s3 ⟨z,H3,I3,r3,k,e,q3⟩=>?_)) hm
  subst e
  cases r3
  refine wpAny_truthy_bool ?_
  cases k with
  |false=>exact ite_ff ⟨.bl false,H3,I3,rfl,q3⟩
  |true=>exact ite_tt (chain_last (thn (hc pins s3 σ H3 _ I3 q3) fun w' s4 ⟨z',H4,I4,r4,q4⟩=>ho' pins s4 σ H4 y z' u w' Q I4 r2 r4 q4))
theorem pt_chain {op op':CmpOp} {r r':R2} (ho:OpR X (compareOp op) r) (ho':OpR X (compareOp op') r') (ha:PE X a ta) (hb:PE X b tb) (hc:PE X c tc)
    (hm:lastMarks [op,op'] [b,c]=false:=by with_unfolding_all rfl):PT X (.Compare a [op,op'] [b,c] pos) (tTest (tChain r r' ta tb tc)):=by
  intro pins s σ H Q I h
  refine isTrue_chain (thn (ha pins s σ H _ I h) fun v s1 ⟨x,H1,I1,r1,q1⟩=>test_link (thn (hb pins s1 σ H1 _ I1 q1) fun u s2 ⟨y,H2,I2,r2,q2⟩=>
    thn (ho pins s2 σ H2 x y v u _ I2 r1 r2 q2) fun d s3 ⟨z,H3,I3,r3,k,e,q3⟩=>?_)) hm
  subst e
  cases r3
  refine wpAny_truthy_bool ?_
  cases k with
  | false=>
    obtain⟨k',e',q'⟩:=q3
    cases e'
    exact ite_ff ⟨H3,I3,q'⟩
  | true=>
    refine ite_tt (test_last (thn (hc pins s3 σ H3 _ I3 q3) fun w' s4 ⟨z',H4,I4,r4,q4⟩=>thn (ho' pins s4 σ H4 y z' u w' _ I4 r2 r4 q4) fun d' s5 bN=>?_))
    obtain⟨z2,H5,I5,r5,k2,e2,q5⟩:=bN
    subst e2
    cases r5
    exact wpAny_truthy_bool ⟨H5,I5,q5⟩
theorem line63:(sizeLine:Nat) < 2 ^ 63:=by rw[sizeLine_eq];decide
theorem vals1 {x:V} {us:List Value} (r:Vals [x] us):∃u,us=[u]∧RelV x u:=by
  cases r with
  |cons r1 r2=>cases r2;exact⟨_,rfl,r1⟩
theorem vals2 {x y:V} {us:List Value} (r:Vals [x,y] us):∃u w',us=[u,w']∧RelV x u∧RelV y w':=by
  cases r with
  | cons r1 r2=>
    cases r2 with
    |cons r3 r4=>cases r4;exact⟨_,_,rfl,r1,r3⟩
theorem call_abs:CallR X (.builtin "abs") (fun xs H Q=>∃i,xs=[.int i]∧Q (.int (if i < 0 then -i else i)) H):=by
  intro pins s σ H xs us Q I r h
  obtain⟨i,rfl,q⟩:=h
  obtain⟨u,rfl,t,rfl⟩:=vals1 r
  exact call_abs_int fun u tk=>⟨.int (if i < 0 then -i else i),H,I.tok _,⟨_,rfl⟩,q⟩
theorem call_max2 (hc:X.calm=true):CallR X (.builtin "max") (fun xs H Q=>∃i j,xs=[.int i,.int j]∧Q (.int (if j > i then j else i)) H):=by
  intro pins s σ H xs us Q I r h
  obtain⟨i,j,rfl,q⟩:=h
  obtain⟨u,w',rfl,⟨t,rfl⟩,⟨t',rfl⟩⟩:=vals2 r
  refine max_two_ints (I.ok.hd hc) fun h' tk k=>⟨_,H,I.kept k,?_,q⟩
  by_cases hj:j > i
  · rw[if_pos hj,if_pos hj];exact⟨_,rfl⟩
  · rw[if_neg hj,if_neg hj];exact⟨_,rfl⟩
theorem call_min2 (hc:X.calm=true):CallR X (.builtin "min") (fun xs H Q=>∃i j,xs=[.int i,.int j]∧Q (.int (if j < i then j else i)) H):=by
  intro pins s σ H xs us Q I r h
  obtain⟨i,j,rfl,q⟩:=h
  obtain⟨u,w',rfl,⟨t,rfl⟩,⟨t',rfl⟩⟩:=vals2 r
  refine min_two_ints (I.ok.hd hc) fun h' tk k=>⟨_,H,I.kept k,?_,q⟩
  by_cases hj:j < i
  · rw[if_pos hj,if_pos hj];exact⟨_,rfl⟩
  · rw[if_neg hj,if_neg hj];exact⟨_,rfl⟩
end
end L2
namespace L2
open PySem PySem.Spec PyProof.Rows
section
variable {prog:Program} {w:World} {A:Around} {E:Value→Shared→Prop} {s:Shared} {K:PySem.W.Frag} {x dx C f:Addr} {mA:Str→Option Value} {name:Str} {v:Value}
end
section
variable {P:Program} {w:World} {H H':Hp} {h h':Heap} {a C dx:Addr} {fs fs':List (Str×V)}
end
section
variable {X:Cx} {pins:List (Addr×Obj)} {σ:St} {H:Hp} {s:Shared} {a C dx:Addr} {fs:List (Str×V)} {f:Str} {v:V} {A:Around} {E:Value→Shared→Prop}
end
section
variable {X:Cx} {o e value:Expr} {f:Str} {pos pos' tpos:Pos} {ta tv:TE}
end
section
variable {X:Cx} {pins:List (Addr×Obj)} {σ:St} {H:Hp} {s:Shared} {A:Around} {E:Value→Shared→Prop} {Q:Value→Shared→Prop} {c:Value} {b:Bool}
end
end L2
namespace L2
open PySem PySem.Spec PyProof.Rows
structure Room (k:Nat) (A:Around):Prop where
  hd:A.handled=none
  dp:A.depth+3*k+5 < recursionLimit
  un:A.units+16*k+200 < cLine
theorem Room.mono {j k:Nat} {A:Around} (r:Room k A) (h:j≤k):Room j A:=⟨r.hd,by have:=r.dp;omega,by have:=r.un;omega⟩
theorem Room.deeper {k:Nat} {A:Around} (r:Room (k+1) A) (env:Env):Room k (A.deeper env):=
  ⟨r.hd,by have:=r.dp;show A.depth+1+3*k+5 < _;omega,by have:=r.un;show A.units+3+16*k+200 < _;omega⟩
theorem Room.depth {k:Nat} {A:Around} (r:Room k A):A.depth < recursionLimit:=by have:=r.dp;omega
noncomputable def tNil:TA:=fun _ H Q=>Q [] H
noncomputable def tCons (ta:TE) (tr:TA):TA:=fun σ H Q=>ta σ H fun x H1=>tr σ H1 fun xs H2=>Q (x::xs) H2
section
variable {X:Cx} {e:Expr} {es:List Expr} {te:TE} {t:TA} {pos:Pos}
theorem pa_nil:PA X [] tNil:=fun _ _ _ _ H Q I h=>Calls.spliced_nil ⟨[],H,I,.nil,h⟩
theorem pa_cons (ha:PE X e te) (hr:PA X es t) (hs:starEach (e::es) X.env=(false,eval e X.env)::starEach es X.env:=by rfl):PA X (e::es) (tCons te t):=by
  intro pos pins s σ H Q I h
  rw[hs]
  show wpAny _ _ (spliced ((false,eval e X.env)::backTo pos (starEach es X.env))) _ _ s
  refine Calls.spliced_cons (thn (ha pins s σ H _ I h) fun u s1 bN=>?_)
  obtain⟨x,H1,I1,r1,q1⟩:=bN
  refine thn (hr pos pins s1 σ H1 _ I1 q1) fun us s2 bN=>?_
  obtain⟨xs,H2,I2,r2,q2⟩:=bN
  exact⟨x::xs,H2,I2,.cons r1 r2,q2⟩
noncomputable def tTup (t:TA):TE:=fun σ H Q=>t σ H fun xs H1=>xs.length≤sizeLine∧∀p,H1 p=none→Q (.ref p) (upd H1 p (.tup xs))
noncomputable def tLst (t:TA):TE:=fun σ H Q=>t σ H fun xs H1=>xs.length≤sizeLine∧∀p,H1 p=none→Q (.ref p) (upd H1 p (.lst xs))
theorem pe_tup {x1} (h:PA X es t):PE X (.Tuple es x1 pos) (tTup t):=by
  intro pins s σ H Q I hq
  refine wpAny_Tuple_spliced (thn (h pos pins s σ H _ I hq) fun us s1 ⟨xs,H1,I1,r,z,q⟩=>⟨by rw[←r.length];exact z,?_⟩)
  have hf:H1 s1.heap.objs.size=none:=I1.hok.fresh (Nat.le_refl _)
  refine⟨.ref s1.heap.objs.size,upd H1 s1.heap.objs.size (.tup xs),I1.laid (t':=s1.toks) (fun b u e=>Heap.get?_push_of_some _ e) (Nat.le_refl _) ?_,rfl,q _ hf⟩
  exact⟨z,us,r,⟨_,Heap.get?_push_size _ rfl,rfl,_,rfl⟩⟩
theorem pe_lst (h:PA X es t):PE X (.List es pos) (tLst t):=by
  intro pins s σ H Q I hq
  refine wpAny_List_spliced (thn (h pos pins s σ H _ I hq) fun us s1 ⟨xs,H1,I1,r,z,q⟩=>⟨by rw[←r.length];exact z,?_⟩)
  have hf:H1 s1.heap.objs.size=none:=I1.hok.fresh (Nat.le_refl _)
  refine⟨.ref s1.heap.objs.size,upd H1 s1.heap.objs.size (.lst xs),I1.laid (t':=s1.toks) (fun b u e=>Heap.get?_push_of_some _ e) (Nat.le_refl _) ?_,rfl,q _ hf⟩
  exact⟨z,us,0,r,Heap.get?_push_size _ rfl⟩
end
noncomputable abbrev Sp:=List V→Hp→VK→XK→Prop
noncomputable abbrev CXT:=List Env→Hp→Shared→XK→Value→Shared→Prop
structure Env0 (P:Program) (w:World) (K:PySem.W.Frag) (mg:Str→Option Value) (base:Heap) (A:Around) (outer:List Env) (s:Shared) (H:Hp):Prop where
  frames:A.frames=some outer
  mod:Mod K mg base
  bs:∀b o,base.get? b=some o→s.heap.get? b=some o∧H b=none
  bsz:base.objs.size≤s.heap.objs.size
  funs:s.heap.FunFrames base outer
  frf:∀b∈frs outer,H b=none
  hok:HOk P w H s.heap
  bare:AllBare s.gens
inductive CE (outer:List Env) (P:Program) (w:World) (H:Hp) (s:Shared) (Q:VK) (u:Value) (s':Shared):Prop
  |mk (v:V) (H':Hp) (os:s'.os=s.os) (bare:AllBare s'.gens) (un:Un (frs outer) [] H H' s.heap s'.heap) (hok:HOk P w H' s'.heap) (r:RelV v u) (q:Q v H'):CE outer P w H s Q u s'
noncomputable def CR (CX:CXT) (outer:List Env) (P:Program) (w:World) (H:Hp) (s:Shared) (Q:VK) (E:XK) (r:Result) (s':Shared):Prop:=
  match r with
  | .ok (.ret u)=>CE outer P w H s Q u s'
  | .ok _=>False
  | .error e=>CX outer H s E e s'
structure FnOk (P:Program) (w:World) (K:PySem.W.Frag) (mg:Str→Option Value) (base:Heap) (CX:CXT) (k:Nat) (f:Addr) (fd:FuncData) (ps:List Str) (sp:Sp):Prop where
  len:∀vs H Q E,sp vs H Q E→vs.length=ps.length
  run:∀(A:Around) (outer:List Env) (s:Shared) (H:Hp) (args:Args) (us:List Value) (vs:List V) (Q:VK) (E:XK),Room k A→Env0 P w K mg base A outer s H→BindsTo s fd args (ps.zip us)→Vals vs us→sp vs H Q E→
    codeAny (model P w) A (.call (.ref f) args) (CR CX outer P w H s Q E) s
section
variable {X:Cx} {pins:List (Addr×Obj)} {σ:St} {H:Hp} {s s':Shared}
theorem Inv.env0 (I:Inv X pins σ H s):Env0 X.prog X.w X.K X.mg X.base X.A X.stack s H:=
  ⟨I.ok.frames,I.ok.mod,I.bs,Nat.le_trans I.ok.bsz I.sz,I.stack,I.stkFree,I.hok,I.bare⟩
theorem Inv.after {Q:VK} {u:Value} (I:Inv X pins σ H s) (h:CE X.stack X.prog X.w H s Q u s'):EP X pins σ Q u s':=by
  obtain⟨v,H',os,bare,un,hok,r,q⟩:=h
  obtain⟨hh,g,d,t,os'⟩:=s'
  obtain rfl:os'=s.os:=os
  exact⟨v,H',I.call (h':=hh) (g':=g) (d':=d) (t':=t) (ch:=[]) un hok bare (fun b z=>absurd z (by simp)),r,q⟩
end
noncomputable def tCall (sp:Sp) (dvs:List V) (E:XK) (t:TA):TE:=fun σ H Q=>t σ H fun vs H1=>sp (vs++dvs) H1 Q E
noncomputable def Binds (K:PySem.W.Frag) (fd:FuncData) (ps:List Str) (ds:List Value):Prop:=
  ∀(s:Shared) (us:List Value),K.In s.heap→(us++ds).length=ps.length→BindsTo s fd ⟨us,[]⟩ (ps.zip (us++ds))
theorem Binds.all {K:PySem.W.Frag} {fd:FuncData} {ps:List Str} (h:∀us:List Value,us.length=ps.length→bindArgs fd ⟨us,[]⟩=pure (ps.zip us)):Binds K fd ps []:=fun s us _ hl=>by
  rw[List.append_nil] at hl ⊢
  exact .of_eq (h us hl)
noncomputable def Passes (CX:CXT) (X:Cx) (E:XK):Prop:=∀(pins:List (Addr×Obj)) (σ:St) (H:Hp) (s:Shared) (e:Value) (s':Shared),Inv X pins σ H s→CX X.stack H s E e s'→X.xe e s'
section
variable {X:Cx} {CX:CXT} {k:Nat} {f C:Addr} {fd:FuncData} {ps:List Str} {sp:Sp} {dvs:List V} {ds:List Value} {E:XK} {x m:Str} {p pos apos:Pos} {e o:Expr} {es:List Expr} {ta:TE} {t:TA}
theorem run_fn {pins:List (Addr×Obj)} {σ:St} {H:Hp} {s:Shared} {Q:VK} {us:List Value} {vs:List V} (F:FnOk X.prog X.w X.K X.mg X.base CX k f fd ps sp) (hr:Room k X.A) (hb:Binds X.K fd ps ds) (hd:Vals dvs ds) (hx:Passes CX X E)
    (I:Inv X pins σ H s) (r:Vals vs us) (h:sp (vs++dvs) H Q E):wpAny (model X.prog X.w) X.A (call (.ref f) us) (EP X pins σ Q) X.xe s:=by
  have r2:Vals (vs++dvs) (us++ds):=r.append hd
  have hl:(us++ds).length=ps.length:=by rw[←r2.length];exact F.len _ _ _ _ h
  refine wpAny_call (codeAny_mono (F.run X.A X.stack s H ⟨us,[]⟩ (us++ds) (vs++dvs) Q E hr I.env0 (hb s us I.kIn hl) r2 h) fun r s' hq=>?_)
  cases r with
  |error e=>exact hx pins σ H s e s' I hq
  | ok fl=>
    cases fl with
    |ret u=>exact I.after hq
    |next=>exact False.elim hq
    |brk=>exact False.elim hq
    |cont=>exact False.elim hq
theorem pe_call (F:FnOk X.prog X.w X.K X.mg X.base CX k f fd ps sp) (hr:Room k X.A) (hg:Gl X x) (hm:X.mg x=some (.ref f)) (hk:PySem.W.keepIn X.K (.ref f)=true) (hb:Binds X.K fd ps ds) (hd:Vals dvs ds) (hx:Passes CX X E)
    (ha:PA X (e::es) t) (hdb:(x ==("__debug__" :Str))=false:=by decide) (he:starEach (e::es) X.env=(false,eval e X.env)::starEach es X.env:=by rfl) (hpl:(backTo pos (starEach es X.env)).any (·.1)=false:=by rfl):
    PE X (.Call (.Name x p) (e::es) [] pos) (tCall sp dvs E t):=by
  intro pins s σ H Q I h
  refine wpAny_Call_Name_kw (ld_glob I hg hm ?_ hdb)
  refine PySem.W.callWith_K (h₀:=X.base) I.ok.mod.kin hk (thn (ha pos pins s σ H _ I h) fun us s1 ⟨vs,H1,I1,r,q⟩=>⟨I1.kIn,?_⟩) he hpl
  exact run_fn F hr hb hd hx I1 r q
end
section
variable {X:Cx} {CX:CXT} {k:Nat} {f C:Addr} {fd:FuncData} {ps ks:List Str} {sp:Sp} {E:XK} {x m:Str} {p pos apos kpos:Pos} {e o:Expr} {es:List Expr} {kws:List Keyword} {te ta:TE} {t tk:TA} {nm:Option Str}
variable {g:List Value→List Value→List Value} {gV:List V→List V→List V}
end
structure FnScope (N P:List Str) (sc:Scope):Prop where
  kind:sc.kind= .function
  co:sc.isCoroutine=false
  gen:sc.isGenerator=false
  nd:N.Nodup
  pre:N.take P.length=P
  par:∀x∈P,sc.names.lookup x=some .local∨sc.names.lookup x=some .cell
  nofree:∀y∈sc.names,y.2≠.free
theorem bindL_out {kindOf:Str→Option NameKind} {x:Str}:∀{binds:List (Str×Value)} {m:Str→Option Value},(∀v,(x,v)∉binds)→bindL kindOf binds m x=m x
  |[],_,_=>rfl
  | (n,v)::r,m,h=>by
    unfold bindL
    rw[bindL_out fun w hw=>h w (List.mem_cons_of_mem _ hw)]
    split
    · have:x≠n:=by rintro rfl;exact h v List.mem_cons_self
      simp[this]
    · rfl
theorem bindC_out {kindOf:Str→Option NameKind} {x:Str}:∀{binds:List (Str×Value)} {m:Str→Option Value},(∀v,(x,v)∉binds)→bindC kindOf binds m x=m x
  |[],_,_=>rfl
  | (n,v)::r,m,h=>by
    unfold bindC
    rw[bindC_out fun w hw=>h w (List.mem_cons_of_mem _ hw)]
    split
    · rfl
    · have:x≠n:=by rintro rfl;exact h v List.mem_cons_self
      simp[this]
theorem bindL_get {kindOf:Str→Option NameKind} {x:Str} {v:Value}:∀{P:List Str} {vs:List Value} {i:Nat} {m:Str→Option Value},P.Nodup→P[i]?=some x→vs[i]?=some v→kindOf x=some .local→
    bindL kindOf (P.zip vs) m x=some v
  |[],_,_,_,_,h,_,_=>by simp at h
  |_::_,[],_,_,_,_,h,_=>by simp at h
  | p::P,w::vs,0,m,nd,h1,h2,hk=>by
    simp at h1 h2;subst h1;subst h2
    show bindL kindOf ((p,w)::P.zip vs) m p=_
    unfold bindL
    rw[bindL_out fun v hv=>(List.nodup_cons.mp nd).1 (List.of_mem_zip hv).1,if_pos hk]
    simp
  | p::P,w::vs,i+1,m,nd,h1,h2,hk=>by
    show bindL kindOf ((p,w)::P.zip vs) m x=_
    unfold bindL
    exact bindL_get (i:=i) (List.nodup_cons.mp nd).2 (by simpa using h1) (by simpa using h2) hk
theorem bindC_get {kindOf:Str→Option NameKind} {x:Str} {v:Value}:∀{P:List Str} {vs:List Value} {i:Nat} {m:Str→Option Value},P.Nodup→P[i]?=some x→vs[i]?=some v→kindOf x≠some .local→
    bindC kindOf (P.zip vs) m x=some v
  |[],_,_,_,_,h,_,_=>by simp at h
  |_::_,[],_,_,_,_,h,_=>by simp at h
  | p::P,w::vs,0,m,nd,h1,h2,hk=>by
    simp at h1 h2;subst h1;subst h2
    show bindC kindOf ((p,w)::P.zip vs) m p=_
    unfold bindC
    rw[bindC_out fun v hv=>(List.nodup_cons.mp nd).1 (List.of_mem_zip hv).1,if_neg hk]
    simp
  | p::P,w::vs,i+1,m,nd,h1,h2,hk=>by
    show bindC kindOf ((p,w)::P.zip vs) m x=_
    unfold bindC
    exact bindC_get (i:=i) (List.nodup_cons.mp nd).2 (by simpa using h1) (by simpa using h2) hk
noncomputable def start (N:List Str) (vs:List V):St:=vs.map some++List.replicate (N.length - vs.length) none
noncomputable def cxOf (CX:CXT) (P:Program) (w:World) (K:PySem.W.Frag) (mg:Str→Option Value) (base:Heap) (N:List Str) (qual:Str) (scope:Scope) (f:Addr) (cd:Value) (A:Around) (outer:List Env) (s:Shared) (H:Hp) (E:XK):Cx where
  prog:=P
  w:=w
  K:=K
  mg:=mg
  base:=base
  A:=A.deeper (envOfC qual scope s.heap.objs.size f cd)
  N:=N
  s₀:=s
  H₀:=H
  env:=envOfC qual scope s.heap.objs.size f cd
  outer:=outer
  stack:=envOfC qual scope s.heap.objs.size f cd::outer
  ex:=[]
  calm:=true
  fn:=fun _=>true
  pn:=[]
  xe:=fun e s'=>wpAny (model P w) (A.deeper (envOfC qual scope s.heap.objs.size f cd)) (leaving (envOfC qual scope s.heap.objs.size f cd) e) (fun _ s''=>CX outer H s E e s'') (fun e' s''=>CX outer H s E e' s'') s'
theorem cell_has {sc:Scope} {n:Nat} {x:Str} (h:sc.names.lookup x=some .cell):∃c,(cellsFrom n sc.names []).lookup x=some c:=by
  have q:=PySem.W.cellsFrom_some sc.names n [] (.inl h)
  exact Option.isSome_iff_exists.mp q
theorem inv_start {CX:CXT} {P:Program} {w:World} {K:PySem.W.Frag} {mg:Str→Option Value} {base:Heap} {N ps:List Str} {qual:Str} {scope:Scope} {f:Addr} {cd:Value} {A:Around} {outer:List Env} {s s1:Shared} {H:Hp} {E:XK} {us:List Value} {vs:List V}
    (S:FnScope N ps scope) (hd:A.handled=none) (e0:Env0 P w K mg base A outer s H) (hl:vs.length=ps.length) (r:Vals vs us)
    (x:InCallC s s.heap.objs.size (bindL (envOfC qual scope s.heap.objs.size f cd).kindOf (ps.zip us) fun _=>none) (cellsFrom (s.heap.objs.size+1) scope.names []) (bindC (envOfC qual scope s.heap.objs.size f cd).kindOf (ps.zip us) fun _=>none) s1):
    Inv (cxOf CX P w K mg base N qual scope f cd A outer s H E) [] (start N vs) H s1:=by
  have hpl:ps.length≤N.length:=by have:=congrArg List.length S.pre;rw[List.length_take] at this;omega
  obtain⟨h1,tk,rfl,hk⟩:=x.done
  have noA:∀b:Addr,b∉(cxOf CX P w K mg base N qual scope f cd A outer s H E).ex:=fun b z=>absurd (show b∈([]:List Addr) from z) (by simp)
  refine⟨⟨e0.mod,S.kind,rfl,rfl,Nat.le_refl _,fun y z c h1 h2=>?_,fun y hy=>?_,fun y c _ h=>?_,fun _=>hd,Around.frames_deeper e0.frames,.inr ⟨rfl,rfl⟩,fun b z=>absurd z (noA b),e0.bs,e0.bsz,fun b _ _=>noA b,fun b z=>absurd z (noA b),e0.funs,e0.frf⟩,
    rfl,e0.bare,Un.kept hk,⟨_,x.toInCall.ns,fun i y v h1 h2 h3=>?_⟩,fun y c h=>⟨_,x.cell y c h⟩,e0.hok.fresh (Nat.le_refl _),fun y c h=>?_,fun p hp=>absurd (show p∈([]:List (Addr×Obj)) from hp) (by simp),e0.hok.kept hk,?_⟩
  · exact name_of_addr x.apart (PySem.mem_of_lookup h1) (PySem.mem_of_lookup h2)
  · have hy:scope.names.lookup y=some .cell∨scope.names.lookup y=some .free:=hy
    rcases hy with hy |hy
    · exact cell_has hy
    · exact absurd rfl (S.nofree _ (PySem.mem_of_lookup hy))
  · exact Nat.le_of_lt (x.above y c (PySem.mem_of_lookup h))
  · have hi:i < vs.length:=by
      unfold start at h2
      by_cases hi:i < vs.length
      · exact hi
      · rw[List.getElem?_append_right (by simpa using hi)] at h2
        rw[List.getElem?_replicate] at h2
        split at h2 <;> cases h2
    have ha:vs[i]?=some v:=by
      unfold start at h2
      rw[List.getElem?_append_left (by simpa using hi),List.getElem?_map] at h2
      cases e:vs[i]? with
      |none=>rw[e] at h2;cases h2
      |some a=>rw[e] at h2;cases h2;rfl
    obtain⟨u,hu,rv⟩:=r.get ha
    have hp:ps[i]?=some y:=by
      rw[←S.pre,List.getElem?_take_of_lt (by omega)];exact h1
    have ndP:ps.Nodup:=by rw[←S.pre];exact S.nd.sublist (List.take_sublist _ _)
    refine⟨u,rv,?_⟩
    rcases S.par y (List.mem_of_getElem? hp) with k |k
    · exact .inl ⟨k,bindL_get ndP hp hu k⟩
    · obtain⟨c,e⟩:=cell_has (n:=s.heap.objs.size+1) k
      refine .inr ⟨.inl k,c,e,?_⟩
      have q:=x.cell y c e
      rw[bindC_get ndP hp hu (by show scope.names.lookup y≠_;rw[k];decide)] at q
      exact q
  · exact e0.hok.fresh (Nat.le_of_lt (x.above y c (PySem.mem_of_lookup h)))
  · unfold start
    show _=N.length
    rw[List.length_append,List.length_map,List.length_replicate]
    omega
theorem fn_of {CX:CXT} {P:Program} {w:World} {K:PySem.W.Frag} {mg:Str→Option Value} {base:Heap} {k:Nat} {f:Addr} {name qual:Str} {params:Arguments} {body:List Stmt} {scope:Scope} {dV kV doc pm cdv ct oc:Value} {an od:Option Addr}
    {osl:Array (Option Value)} {N ps:List Str} {sp:Sp} (lk:K.lookup f=some ⟨oc,od,.func (PySem.W.fnOf name qual params body scope dV kV doc pm an cdv ct),osl⟩) (hcd:PySem.W.codeIn K cdv qual=true) (S:FnScope N ps scope)
    (len:∀vs H Q E,sp vs H Q E→vs.length=ps.length)
    (hbody:∀(A:Around) (outer:List Env) (s:Shared) (H:Hp) (vs:List V) (Q:VK) (E:XK),Room k (A.deeper (envOfC qual scope s.heap.objs.size f cdv))→sp vs H Q E→
      ∃t,PSs (cxOf CX P w K mg base N qual scope f cdv A outer s H E) body t∧t {nx:=fun _ H'=>Q .non H',rt:=Q} (start N vs) H):
    FnOk P w K mg base CX (k+1) f (PySem.W.fnOf name qual params body scope dV kV doc pm an cdv ct) ps sp:=by
  refine⟨len,fun A outer s H args us vs Q E hr e0 hb r hsp=>?_⟩
  have hl:=len _ _ _ _ hsp
  have KX:K.In s.heap:=e0.mod.kin.keeps fun b o e=>(e0.bs b o e).1
  have lim:s.heap.NoLimit:=e0.mod.nolimit.keeps fun b o e=>(e0.bs b o e).1
  have hkind:∀y∈ps.zip us,scope.names.lookup y.1=some .local∨(scope.names.lookup y.1=some .cell∧((cellsFrom (s.heap.objs.size+1) scope.names []).lookup y.1).isSome=true):=fun ⟨n,v⟩ hy=>by
    rcases S.par n (List.of_mem_zip hy).1 with q |q
    · exact .inl q
    · exact .inr ⟨q,PySem.W.cellsFrom_some _ _ _ (.inl q)⟩
  refine codeAny_call_function hr.depth (KX _ _ lk) rfl S.co S.gen rfl (PySem.W.codeRec_of KX hcd) (hb _ _ _ _ ?_)
  refine wpAny_newFunctionEnv_cells S.kind hkind fun env he s1 x=>?_
  subst he
  refine⟨lim.keeps x.toInCall.keep,codeAny_func ?_⟩
  obtain⟨t,ht,hq⟩:=hbody A outer s H vs Q E (hr.deeper _) hsp
  have I:Inv (cxOf CX P w K mg base N qual scope f cdv A outer s H E) [] (start N vs) H s1:=inv_start S hr.hd e0 hl r x
  refine wpAny_mono (ht [] s1 (start N vs) H _ I hq) (fun fl s' hs=>?_) fun e s' hs=>hs
  have fin:∀{σ':St} {H':Hp} {v:V} {u:Value},Inv (cxOf CX P w K mg base N qual scope f cdv A outer s H E) [] σ' H' s'→RelV v u→Q v H'→CE outer P w H s Q u s':=
    fun {σ' H' v u} J rv q=>⟨v,H',J.os,J.bare,J.base,J.hok,rv,q⟩
  cases fl with
  | ret u=>
    obtain⟨v,σ',H',J,rv,q⟩:=hs
    exact fin J rv q
  | next=>
    obtain⟨σ',H',J,q⟩:=hs
    exact fin (v:=V.non) (u:=Value.none) J rfl q
  | brk=>
    obtain⟨_,_,_,q⟩:=hs
    exact False.elim q
  | cont=>
    obtain⟨_,_,_,q⟩:=hs
    exact False.elim q
end L2
namespace L2
open PySem PySem.Spec PyProof.Rows
section
variable {X:Cx} {x:Str} {p pos:Pos} {e:Expr} {es:List Expr} {t:TA} {id T:String} {r:List V→Hp→VK→Prop}
noncomputable def tCB (r:List V→Hp→VK→Prop) (t:TA):TE:=fun σ H Q=>t σ H fun vs H1=>r vs H1 Q
theorem pe_callB (hc:CallR X (.builtin id) r) (hg:Gl X x) (hm:X.mg x=none) (hv:bootBuiltins x=some (.builtin id)) (ha:PA X (e::es) t) (hn:x≠"__name__" :=by decide) (hdb:(x ==("__debug__" :Str))=false:=by decide)
    (he:starEach (e::es) X.env=(false,eval e X.env)::starEach es X.env:=by rfl) (hpl:(backTo pos (starEach es X.env)).any (·.1)=false:=by rfl):PE X (.Call (.Name x p) (e::es) [] pos) (tCB r t):=by
  intro pins s σ H Q I h
  refine wpAny_Call_Name_kw (ld_blt I hg hm hv ?_ hn hdb)
  exact PyProof.Rows.callWith_builtin1 (thn (ha pos pins s σ H _ I h) fun us s1 ⟨vs,H1,I1,r1,q1⟩=>hc pins s1 σ H1 vs us Q I1 r1 q1) he hpl
theorem pe_callTy (hc:CallR X (.type T) r) (hg:Gl X x) (hm:X.mg x=none) (hv:bootBuiltins x=some (.type T)) (ha:PA X (e::es) t) (hn:x≠"__name__" :=by decide) (hdb:(x ==("__debug__" :Str))=false:=by decide)
    (he:starEach (e::es) X.env=(false,eval e X.env)::starEach es X.env:=by rfl) (hpl:(backTo pos (starEach es X.env)).any (·.1)=false:=by rfl):PE X (.Call (.Name x p) (e::es) [] pos) (tCB r t):=by
  intro pins s σ H Q I h
  refine wpAny_Call_Name_kw (ld_blt I hg hm hv ?_ hn hdb)
  exact PyProof.Rows.callWith_type1 (thn (ha pos pins s σ H _ I h) fun us s1 ⟨vs,H1,I1,r1,q1⟩=>hc pins s1 σ H1 vs us Q I1 r1 q1) he hpl
end
end L2
namespace HT
open PySem PyProof.Rows
section
open PySem.SeqAt
open PySem.AutoSeq1 (wpAny_loadPart')
open PySem.MeetsSeq PySem.MeetsSeq2 PySem.MeetsSeq3
end
section
variable {prog:Program} {w:World} {A:Around} {E:Value→Shared→Prop} {s:Shared}
theorem cat_tup {t b:Addr} {vs ws:List Value} {Q:Value→Shared→Prop} (ht:IsTup s.heap t vs.toArray) (hb:IsTup s.heap b ws.toArray) (hv:vs≠[])
    (h1:ws=[]→Q (.ref t) s) (h2:ws≠[]→Q (.ref s.heap.objs.size) {s with heap:=s.heap.push {cls:= .type "tuple",data:= .seq (vs++ws).toArray}})
    (hsz:vs.length+ws.length≤sizeLine):wpAny (model prog w) A (binaryOp .Add (.ref t) (.ref b)) Q E s:=by
  obtain⟨⟨cls,dd,data,sl⟩,ho,hc,n,hd⟩:=id ht
  obtain⟨⟨cls2,dd2,data2,sl2⟩,ho2,hc2,n2,hd2⟩:=id hb
  simp only at hc hd hc2 hd2
  subst hc hd hc2 hd2
  have e:vs.toArray++ws.toArray=(vs++ws).toArray:=by simp
  by_cases hw:ws=[]
  · exact concat_meets ⟨_,ho,rfl⟩ ⟨_,ho2,rfl⟩ noFill_tuple_add seq_tuple_add PySem.F.slot_tuple_add PySem.F.entry_tuple_add (PySem.F.args_tuple_add_2 _ _)
      (tuple_addW1 t b vs.toArray ws.toArray n n2 dd dd2 sl sl2 (by simpa using hv) (by simp[hw])) ⟨ho,ho2,h1 hw⟩
  · refine concat_meets ⟨_,ho,rfl⟩ ⟨_,ho2,rfl⟩ noFill_tuple_add seq_tuple_add PySem.F.slot_tuple_add PySem.F.entry_tuple_add (PySem.F.args_tuple_add_2 _ _)
      (tuple_addW2 t b vs.toArray ws.toArray n n2 dd dd2 sl sl2 (by simpa using hv) (by simpa using hw) (by rw[List.size_toArray,List.size_toArray];exact hsz)) ⟨ho,ho2,?_⟩
    rw[e]
    exact h2 hw
noncomputable def sIx (n d:Nat):Option Int→Nat
  |none=>d
  |some v=>if v < 0 then (v+(n:Int)).toNat else min v.toNat n
theorem sIx_le (n d:Nat) (hd:d≤n) (o:Option Int):sIx n d o≤n:=by
  cases o with
  |none=>exact hd
  | some v=>
    show (if v < 0 then (v+(n:Int)).toNat else min v.toNat n)≤n
    by_cases hv:v < 0
    · rw[if_pos hv];omega
    · rw[if_neg hv];exact Nat.min_le_right _ _
theorem Xp (a b:Nat):((min a b:Nat):Int)=min (a:Int) (b:Int):=by
  rcases Nat.le_total a b with h |h
  · rw[Nat.min_eq_left h,Int.min_eq_left (Int.ofNat_le.mpr h)]
  · rw[Nat.min_eq_right h,Int.min_eq_right (Int.ofNat_le.mpr h)]
theorem adu {i:Int} (n:Nat) (h:i < 0):max 0 (min (i+(n:Int)) (n:Int))=(((i+(n:Int)).toNat:Nat):Int):=by
  rw[Int.min_eq_left (by omega),Int.max_comm];exact (Int.ofNat_toNat _).symm
theorem adv (k n:Nat):max 0 (min (k:Int) (n:Int))=((min (k:Int).toNat n:Nat):Int):=by
  rw[Int.max_eq_right (Int.le_min.mpr ⟨Int.natCast_nonneg _,Int.natCast_nonneg _⟩)];exact (Xp k n).symm
theorem clip_eq (v:Int) (n d:Nat):(if v < 0 then max (v+(n:Int)) 0 else min v (n:Int))=((sIx n d (some v):Nat):Int):=by
  show (if v < 0 then max (v+(n:Int)) 0 else min v (n:Int))=(((if v < 0 then (v+(n:Int)).toNat else min v.toNat n):Nat):Int)
  by_cases hv:v < 0
  · simp only[if_pos hv];exact (Int.ofNat_toNat _).symm
  · simp only[if_neg hv]
    obtain⟨k,rfl⟩:=Int.eq_ofNat_of_zero_le (Int.not_lt.mp hv)
    exact (Xp k n).symm
theorem adjust_gen (lo hi:Option Int) (n:Nat):Builtin.Slice.sliceAdjust lo hi 1 (n:Int)=(((sIx n 0 lo:Nat):Int),((sIx n n hi:Nat):Int)):=by
  have h1:¬((1:Int) < 0):=by omega
  unfold Builtin.Slice.sliceAdjust
  simp only[h1,if_false]
  refine Prod.ext ?_ ?_
  · cases lo with
    |none=>rfl
    |some v=>exact clip_eq v n 0
  · cases hi with
    |none=>rfl
    |some v=>exact clip_eq v n n
theorem places_gen (i j:Nat):Builtin.Slice.slicePlaces (i:Int) (j:Int) 1=j - i:=by
  unfold Builtin.Slice.slicePlaces
  have h1:(1:Int) > 0:=by omega
  simp only[h1,if_true,Int.ediv_one]
  split <;> omega
theorem slicePart_ {v:Value} {o:Option Int} {Q:Option Int→Shared→Prop} (p:IsPart v o) (h:Q o s):wpAny (model prog w) A (Builtin.Slice.slicePartIndex v) Q E s:=by
  cases p with
  |none=>exact slicePart_none h
  |int i t=>exact slicePart_int h
theorem sliceApplied_gen {sl:Addr} {vl vu:Value} {lo hi:Option Int} {n:Nat} {Q:Int×Int×Nat→Shared→Prop} (hs:s.heap.IsSliceOf sl vl vu .none) (pl:IsPart vl lo) (pu:IsPart vu hi)
    (h:Q (((sIx n 0 lo:Nat):Int),1,sIx n n hi - sIx n 0 lo) s):wpAny (model prog w) A (Builtin.Slice.sliceApplied (.ref sl) (pure (n:Int))) Q E s:=by
  obtain⟨os,hos,hcs,hds⟩:=id hs
  unfold Builtin.Slice.sliceApplied Builtin.Slice.sliceFields
  refine wpAny_bind (wpAny_bind (wpAny_field hos hds (x:=vl) rfl (wpAny_bind (wpAny_field hos hds (x:=vu) rfl (wpAny_bind (wpAny_field hos hds (x:= .none) rfl (wpAny_pure ?_)))))))
  refine wpAny_bind (slicePart_none ?_)
  show wpAny _ _ (if ((1:Int) ==0)=true then _ else _) _ _ s
  rw[if_neg (by decide)]
  refine wpAny_bind (slicePart_ pl (wpAny_bind (slicePart_ pu (wpAny_bind (wpAny_pure ?_)))))
  show wpAny _ _ (match Builtin.Slice.sliceAdjust lo hi 1 (n:Int) with |(lo,hi)=>pure (lo,(1:Int),Builtin.Slice.slicePlaces lo hi 1)) _ _ s
  rw[adjust_gen lo hi n]
  show wpAny _ _ (pure (((sIx n 0 lo:Nat):Int),(1:Int),Builtin.Slice.slicePlaces ((sIx n 0 lo:Nat):Int) ((sIx n n hi:Nat):Int) 1)) _ _ s
  rw[places_gen]
  exact wpAny_pure h
theorem pick_gen (xs:Array Value) (i k:Nat):((List.range k).filterMap fun (m:Nat)=>xs[((i:Int)+(m:Int)*1).toNat]?).toArray=((xs.toList.drop i).take k).toArray:=by
  have e:(fun (m:Nat)=>xs[((i:Int)+(m:Int)*1).toNat]?)=fun m=>xs[i+m]?:=by
    funext m
    have:((i:Int)+(m:Int)*1).toNat=i+m:=by omega
    rw[this]
  rw[e]
  have:=pick_run xs i k
  rw[List.filterMap_map] at this
  have e2:((fun x=>xs[x]?) ∘ fun x=>i+x)=fun m=>xs[i+m]?:=rfl
  rw[e2] at this
  rw[this]
theorem getItem_tuple_cut {t sl:Addr} {items:Array Value} {vl vu:Value} {lo hi:Option Int} {Q:Value→Shared→Prop} (ht:IsTup s.heap t items) (hs:s.heap.IsSliceOf sl vl vu .none) (pl:IsPart vl lo) (pu:IsPart vu hi)
    (hw:¬(sIx items.size 0 lo=0∧sIx items.size items.size hi=items.size))
    (h:Q (.ref s.heap.objs.size) {s with heap:=s.heap.push {cls:= .type "tuple",data:= .seq ((items.toList.drop (sIx items.size 0 lo)).take (sIx items.size items.size hi - sIx items.size 0 lo)).toArray}})
    (hsz:items.size≤sizeLine):wpAny (model prog w) A (getItem (.ref t) (.ref sl)) Q E s:=by
  have htake:sizeOk (.seq ((items.toList.drop (sIx items.size 0 lo)).take (sIx items.size items.size hi - sIx items.size 0 lo)).toArray):=by
    show ((items.toList.drop (sIx items.size 0 lo)).take (sIx items.size items.size hi - sIx items.size 0 lo)).toArray.size≤sizeLine
    rw[List.size_toArray,List.length_take,List.length_drop,Array.length_toList]
    omega
  have hj:sIx items.size items.size hi≤items.size:=sIx_le _ _ (Nat.le_refl _) hi
  obtain⟨os,hos,hcs,hds⟩:=id hs
  have hTs:s.TypeIs (.ref sl) "slice" :=⟨os,hos,hcs⟩
  unfold getItem
  try with_reducible refine wpAny_holding ?_
  first |refine wpAny_bind (wpAny_pure ?_) |skip
  refine wpAny_bind (wpAny_sequenceKey ht.typeIs (by decide) ?_)
  refine wpAny_bind (wpAny_callSpecial?_slot (name:=Str.ofString "__getitem__") ht.typeIs PyProof.Rows.slot_tuple_getitem
    (wpAny_call_entry PyProof.Rows.slot_tuple_getitem ht.typeIs entry_tuple_getitem ?_ (args_tuple_getitem _ _)))
  show wpAny _ _ (Builtin.Tuple.tupleItemsOf (.ref t) >>=_) _ _ s
  refine wpAny_bind (tupleItemsOf_ ht ?_)
  refine wpAny_bind (wpAny_typeOf hTs ?_)
  rw[if_pos (by decide)]
  refine wpAny_bind (sliceApplied_gen hs pl pu ?_)
  have hno:¬((((sIx items.size 0 lo:Nat):Int) ==0 && (1:Int) ==1 && (sIx items.size items.size hi - sIx items.size 0 lo) ==items.size)=true):=by
    intro q
    rw[Bool.and_eq_true,Bool.and_eq_true] at q
    have q1:((sIx items.size 0 lo:Nat):Int)=0:=eq_of_beq q.1.1
    have q2:sIx items.size items.size hi - sIx items.size 0 lo=items.size:=eq_of_beq q.2
    exact hw ⟨by omega,by omega⟩
  show wpAny _ _ (if (((sIx items.size 0 lo:Nat):Int) ==0 && (1:Int) ==1 && (sIx items.size items.size hi - sIx items.size 0 lo) ==items.size)=true then _ else _) _ _ s
  rw[if_neg hno,pick_gen]
  first
    |exact wpAny_bind (m:=Builtin.Tuple.tupleExact _) (wpAny_newObj_type (wpAny_pure ⟨_,rfl,wpAny_pure h⟩) htake)
    |exact wpAny_bind (m:=Builtin.Tuple.tupleExact _) (wpAny_newObj_type (wpAny_bind (wpAny_pure (wpAny_pure ⟨_,rfl,wpAny_pure h⟩))) htake)
    |exact wpAny_bind (wpAny_bind (m:=Builtin.Tuple.tupleExact _) (wpAny_newObj_type (wpAny_pure (wpAny_pure ⟨_,rfl,wpAny_pure h⟩)) htake))
    |exact wpAny_bind (wpAny_bind (m:=Builtin.Tuple.tupleExact _) (wpAny_newObj_type (wpAny_pure ⟨_,rfl,wpAny_pure h⟩) htake))
end
end HT
namespace L2
open PySem PySem.Spec PyProof.Rows
noncomputable abbrev TO:=St→Hp→(Option Int→Hp→Prop)→Prop
noncomputable def PO (X:Cx) (e:Option Expr) (t:TO):Prop:=
  ∀ (pins:List (Addr×Obj)) (s:Shared) (σ:St) (H:Hp) (Q:Option Int→Hp→Prop),Inv X pins σ H s→t σ H Q→
    wpAny (model X.prog X.w) X.A (evalPart e X.env) (fun u s'=>∃o H',Inv X pins σ H' s'∧IsPart u o∧Q o H') X.xe s
noncomputable def tNoPart:TO:=fun _ H Q=>Q none H
noncomputable def tPart (t:TE):TO:=fun σ H Q=>t σ H fun x H1=>∃i,x= .int i∧Q (some i) H1
theorem intsAre_of {ns:List Int}:∀{us:List Value},Vals (ns.map V.int) us→IntsAre us ns:=by
  induction ns with
  |nil=>intro us r;rw[List.map_nil] at r;cases r;exact .nil
  | cons n ns ih=>
    intro us r
    rw[List.map_cons] at r
    cases r with
    | cons r1 r2=>
      obtain⟨t,e⟩:=r1
      subst e
      exact .cons n t (ih r2)
section
variable {X:Cx} {e:Expr} {te:TE} {lo hi:Option Expr} {tl th:TO} {pos p2:Pos}
theorem po_none:PO X none tNoPart:=by
  intro pins s σ H Q I h
  rw[evalPart_none]
  exact wpAny_pure ⟨none,H,I,.none,h⟩
theorem po_some (h:PE X e te):PO X (some e) (tPart te):=by
  intro pins s σ H Q I hw
  rw[evalPart_some]
  refine thn (h pins s σ H _ I hw) fun u s1 bN=>?_
  obtain⟨x,H1,I1,r1,q1⟩:=bN
  obtain⟨i,rfl,q⟩:=q1
  obtain⟨t,rfl⟩:=r1
  exact⟨some i,H1,I1,.int i t,q⟩
noncomputable def SlR (X:Cx) (r:V→Option Int→Option Int→Hp→VK→Prop):Prop:=
  ∀ (pins:List (Addr×Obj)) (s:Shared) (σ:St) (H:Hp) (x:V) (v vl vu:Value) (lo hi:Option Int) (sl:Addr) (Q:VK),Inv X pins σ H s→RelV x v→s.heap.IsSliceOf sl vl vu .none→IsPart vl lo→IsPart vu hi→r x lo hi H Q→
    ∃T id,typeLookup (.type T) "__getitem__" =pure (some (.builtin id))∧s.TypeIs v T∧wpAny (model X.prog X.w) X.A (getItem v (.ref sl)) (EP X pins σ Q) X.xe s
theorem SlR.or {r r':V→Option Int→Option Int→Hp→VK→Prop} (h:SlR X r) (h':SlR X r'):SlR X (fun x lo hi H Q=>r x lo hi H Q∨r' x lo hi H Q):=by
  intro pins s σ H x v vl vu lo hi sl Q I rx hs pl pu q
  rcases q with q |q
  · exact h pins s σ H x v vl vu lo hi sl Q I rx hs pl pu q
  · exact h' pins s σ H x v vl vu lo hi sl Q I rx hs pl pu q
noncomputable def tSl (r:V→Option Int→Option Int→Hp→VK→Prop) (te:TE) (tl th:TO):TE:=fun σ H Q=>te σ H fun x H1=>tl σ H1 fun l H2=>th σ H2 fun u H3=>r x l u H3 Q
theorem pe_slice {r:V→Option Int→Option Int→Hp→VK→Prop} (hr:SlR X r) (he:PE X e te) (hl:PO X lo tl) (hu:PO X hi th):PE X (.Subscript e (.Slice lo hi none p2) pos) (tSl r te tl th):=by
  intro pins s σ H Q I h
  refine Subscript_ (thn (he pins s σ H _ I h) fun v s1 bN=>?_)
  obtain⟨x,H1,I1,r1,q1⟩:=bN
  refine wpAny_Slice (thn (hl pins s1 σ H1 _ I1 q1) fun vl s2 ⟨l,H2,I2,pl,q2⟩=>thn (hu pins s2 σ H2 _ I2 q2) fun vu s3 bN=>?_)
  obtain⟨u,H3,I3,pu,q3⟩:=bN
  rw[evalPart_none]
  refine wpAny_pure ?_
  have I4:Inv X pins σ H3 {s3 with heap:=s3.heap.push {cls:= .type "slice",data:= .fields #[vl,vu,.none]}}:=I3.kept (t':=s3.toks) fun b ob q=>Heap.get?_push_of_some _ q
  obtain⟨T,id,hT,ht,hg⟩:=hr pins {s3 with heap:=s3.heap.push {cls:= .type "slice",data:= .fields #[vl,vu,.none]}} σ H3 x v vl vu l u s3.heap.objs.size Q I4 r1 (Heap.IsSliceOf.new ..) pl pu q3
  show wpAny (model X.prog X.w) X.A (subscriptTail e (.Slice lo hi none p2) v (.ref s3.heap.objs.size)) (EP X pins σ Q) X.xe {s3 with heap:=s3.heap.push {cls:= .type "slice",data:= .fields #[vl,vu,.none]}}
  exact tail_any (ops:=[.ref s3.heap.objs.size,v]) ht hT hg (by with_unfolding_all rfl)
noncomputable def cutV (xs:List V) (lo hi:Option Int):List V:=(xs.drop (HT.sIx xs.length 0 lo)).take (HT.sIx xs.length xs.length hi - HT.sIx xs.length 0 lo)
theorem cutV_length (xs:List V) (lo hi:Option Int):(cutV xs lo hi).length≤xs.length:=by
  unfold cutV
  rw[List.length_take,List.length_drop]
  omega
noncomputable def rSlT (K:PySem.W.Frag):V→Option Int→Option Int→Hp→VK→Prop:=fun x lo hi H Q=>∃a xs,x= .ref a∧SqT K H a xs∧
  ¬(HT.sIx xs.length 0 lo=0∧HT.sIx xs.length xs.length hi=xs.length)∧∀p,H p=none→Q (.ref p) (upd H p (.tup (cutV xs lo hi)))
theorem sl_tup:SlR X (rSlT X.K):=by
  intro pins s σ H x v vl vu lo hi sl Q I rx hs pl pu h
  obtain⟨a,xs,rfl,hx,hw,q⟩:=h
  cases rx
  obtain⟨its,r,ht,hz⟩:=I.tuple hx
  have hlen:its.toArray.size=xs.length:=by rw[List.size_toArray];exact r.length.symm
  refine⟨"tuple",_,PyProof.Rows.slot_tuple_getitem.lookup,ht.typeIs,?_⟩
  refine HT.getItem_tuple_cut ht hs pl pu (by rw[hlen];exact hw) ?_ (by rw[hlen];exact hz)
  rw[hlen]
  refine⟨.ref s.heap.objs.size,_,I.laid (t':=s.toks) (o:= .tup (cutV xs lo hi)) (fun b ob q=>Heap.get?_push_of_some _ q) (Nat.le_refl _) ?_,rfl,q _ (I.hok.fresh (Nat.le_refl _))⟩
  exact⟨Nat.le_trans (cutV_length xs lo hi) hz,_,(r.drop (HT.sIx xs.length 0 lo)).take (HT.sIx xs.length xs.length hi - HT.sIx xs.length 0 lo),IsTup.new _ _⟩
noncomputable def rCatT (K:PySem.W.Frag):R2:=fun x y H Q=>∃a b xs ys,x= .ref a∧y= .ref b∧SqT K H a xs∧SqT K H b ys∧xs≠[]∧xs.length+ys.length≤sizeLine∧
  (ys=[]→Q (.ref a) H)∧(ys≠[]→∀p,H p=none→Q (.ref p) (upd H p (.tup (xs++ys))))
theorem Vals.nil_iff {xs:List V} {us:List Value} (r:Vals xs us):us=[]↔xs=[]:=by
  cases r with
  |nil=>simp
  |cons _ _=>simp
theorem op_catT:OpR X (binaryOp .Add) (rCatT X.K):=by
  intro pins s σ H x y v u Q I rx ry h
  obtain⟨a,b,xs,ys,rfl,rfl,ha,hb,hx,hz,q1,q2⟩:=h
  cases rx
  cases ry
  obtain⟨its,r1,p1,_⟩:=I.tuple ha
  obtain⟨its2,r2,p2,_⟩:=I.tuple hb
  refine HT.cat_tup p1 p2 (fun z=>hx (r1.nil_iff.mp z)) (fun z=>⟨.ref a,H,I,rfl,q1 (r2.nil_iff.mp z)⟩) (fun z=>?_) (by rw[←r1.length,←r2.length];exact hz)
  refine⟨.ref s.heap.objs.size,_,I.laid (t':=s.toks) (o:= .tup (xs++ys)) (fun b ob q=>Heap.get?_push_of_some _ q) (Nat.le_refl _) ?_,rfl,q2 (fun w=>z (r2.nil_iff.mpr w)) _ (I.hok.fresh (Nat.le_refl _))⟩
  exact⟨by rw[List.length_append];exact hz,_,r1.append r2,IsTup.new _ _⟩
end
end L2
namespace L2
open PySem PySem.Spec PyProof.Rows
noncomputable def ixN (n:Nat) (i:Int):Option Nat:=if 0≤i then (if i < n then some i.toNat else none) else if -(n:Int)≤i then some (i+n).toNat else none
noncomputable def atI {α:Type} (xs:List α) (i:Int):Option α:=(ixN xs.length i).bind fun j=>xs[j]?
theorem ixN_seq {n:Nat} {i:Int} {j:Nat} (h:ixN n i=some j):seqIndex? i n=some j∧j < n∧-(n:Int)≤i∧i < n:=by
  unfold ixN at h
  by_cases h0:0≤i
  · rw[if_pos h0] at h
    by_cases h1:i < n
    · rw[if_pos h1] at h
      have e:i.toNat=j:=Option.some.inj h
      exact⟨by rw[seqIndex_of h0 h1,e],by omega,by omega,h1⟩
    · rw[if_neg h1] at h;cases h
  · rw[if_neg h0] at h
    by_cases h1: -(n:Int)≤i
    · rw[if_pos h1] at h
      have e:(i+n).toNat=j:=Option.some.inj h
      exact⟨by rw[seqIndex_neg (by omega) h1,e],by omega,h1,by omega⟩
    · rw[if_neg h1] at h;cases h
theorem atI_get {α:Type} {xs:List α} {i:Int} {v:α} (h:atI xs i=some v):∃j,seqIndex? i xs.length=some j∧xs[j]?=some v∧j < xs.length∧-(xs.length:Int)≤i∧i < xs.length:=by
  unfold atI at h
  cases e:ixN xs.length i with
  |none=>rw[e] at h;cases h
  | some j=>
    rw[e] at h
    obtain⟨h1,h2,h3,h4⟩:=ixN_seq e
    exact⟨j,h1,h,h2,h3,h4⟩
noncomputable def PlainIx (b:Expr):Prop:=∀o i,subscripted b false o i=operate [o,i] (getItem o i)
noncomputable def IxR (X:Cx) (r:R2):Prop:=
  ∀ (value slice:Expr) (pins:List (Addr×Obj)) (s:Shared) (σ:St) (H:Hp) (x y:V) (v u:Value) (Q:VK),Inv X pins σ H s→RelV x v→RelV y u→r x y H Q→
    subscripted slice false v u=operate [v,u] (getItem v u)→wpAny (model X.prog X.w) X.A (subscriptTail value slice v u) (EP X pins σ Q) X.xe s
noncomputable def MtR (X:Cx) (id:String) (r:V→List V→Hp→VK→Prop):Prop:=
  ∀ (pins:List (Addr×Obj)) (s:Shared) (σ:St) (H:Hp) (x:V) (xs:List V) (v:Value) (us:List Value) (Q:VK),Inv X pins σ H s→RelV x v→Vals xs us→r x xs H Q→
    wpAny (model X.prog X.w) X.A (call (.builtin id) (v::us)) (EP X pins σ Q) X.xe s
section
variable {X:Cx} {a b:Expr} {ta tb:TE} {pos:Pos}
theorem IxR.or {r r':R2} (h:IxR X r) (h':IxR X r'):IxR X (fun x y H Q=>r x y H Q∨r' x y H Q):=by
  intro value slice pins s σ H x y v u Q I rx ry q hs
  rcases q with q |q
  · exact h value slice pins s σ H x y v u Q I rx ry q hs
  · exact h' value slice pins s σ H x y v u Q I rx ry q hs
theorem pe_ix {r:R2} (hr:IxR X r) (ha:PE X a ta) (hb:PE X b tb) (hs:PlainIx b):PE X (.Subscript a b pos) (tOp r ta tb):=by
  intro pins s σ H Q I h
  exact Subscript_ (binT ha hb I h fun v u s2 x y H2 I2 rx ry q=>hr a b pins s2 σ H2 x y v u Q I2 rx ry q (hs _ _))
noncomputable def rIxL (K:PySem.W.Frag):R2:=fun x y H Q=>∃p xs i v,x= .ref p∧y= .int i∧SqL K H p xs∧atI xs i=some v∧Q v H
noncomputable def rIxT (K:PySem.W.Frag):R2:=fun x y H Q=>∃p xs i v,x= .ref p∧y= .int i∧SqT K H p xs∧atI xs i=some v∧Q v H
noncomputable def rIxS:R2:=fun x y H Q=>∃z i c,x= .str z∧y= .int i∧z.length≤sizeLine∧atI z.cps.toList i=some c∧Q (.str ⟨#[c]⟩) H
theorem ix_list:IxR X (rIxL X.K):=by
  intro value slice pins s σ H x y v u Q I rx ry h hs
  obtain⟨p,xs,i,z,rfl,rfl,hq,he,q⟩:=h
  cases rx
  obtain⟨t,rfl⟩:=ry
  obtain⟨its,r,pl,hz⟩:=I.list hq
  obtain⟨j,h1,h2,h3,h4,h5⟩:=atI_get he
  obtain⟨w,ew,rw'⟩:=r.get h2
  have hl:=r.length
  have hn:=line63
  have fin:EP X pins σ Q w s:=⟨z,H,I,rw',q⟩
  by_cases h0:0≤i
  · have hj:i.toNat=j:=by
      rw[seqIndex_of h0 h5] at h1
      exact Option.some.inj h1
    exact item_listR pl.isList h0 (by omega) (by rw[hj];simpa using ew) fin hs
  · have hj:(i+(its.toArray.size:Int)).toNat=j:=by
      rw[seqIndex_neg (by omega) h4] at h1
      rw[List.size_toArray,←hl]
      exact Option.some.inj h1
    exact subscriptTail_builtinR (x:=w) pl.isList.typeIs slot_list_getitem.lookup
      (wpAny_getItem_list_neg (Q:=fun r s'=>r=w∧EP X pins σ Q r s') pl.isList (by omega) (by rw[List.size_toArray] <;> omega) (by omega) (by rw[hj];simpa using ew) ⟨rfl,fin⟩) hs
theorem ix_tup:IxR X (rIxT X.K):=by
  intro value slice pins s σ H x y v u Q I rx ry h hs
  obtain⟨p,xs,i,z,rfl,rfl,hq,he,q⟩:=h
  cases rx
  obtain⟨t,rfl⟩:=ry
  obtain⟨its,r,pl,hz⟩:=I.tuple hq
  obtain⟨j,h1,h2,h3,h4,h5⟩:=atI_get he
  obtain⟨w,ew,rw'⟩:=r.get h2
  have hl:=r.length
  have hn:=line63
  have fin:EP X pins σ Q w s:=⟨z,H,I,rw',q⟩
  exact subscriptTail_builtinR (x:=w) pl.typeIs slot_tuple_getitem.lookup
    (getItem_tuple (j:=j) (Q:=fun r s'=>r=w∧EP X pins σ Q r s') pl (by omega) (by omega) (by rw[List.size_toArray,←hl];exact h1) (by simpa using ew) ⟨rfl,fin⟩) hs
theorem ix_str:IxR X rIxS:=by
  intro value slice pins s σ H x y v u Q I rx ry h hs
  obtain⟨z,i,c,rfl,rfl,hz,he,q⟩:=h
  obtain⟨t,rfl⟩:=rx
  obtain⟨t',rfl⟩:=ry
  obtain⟨j,h1,h2,h3,h4,h5⟩:=atI_get he
  have hl:z.cps.toList.length=z.length:=by simp[Str.length]
  rw[hl] at h1 h4 h5
  have hn:=line63
  exact tail_any (typeIs_str s z t) slot_str_getitem.lookup (getItem_str (c:=c) (by
    have e1:decide (i < -(2 ^ 63:Int))=false:=decide_eq_false (by omega)
    have e2:decide (i≥2 ^ 63)=false:=decide_eq_false (by omega)
    rw[e1,e2,Bool.or_false]) (by rw[h1];simpa using h2) ⟨.str ⟨#[c]⟩,H,I.tok _,⟨_,rfl⟩,q⟩) hs
noncomputable def rIx (K:PySem.W.Frag):R2:=fun x y H Q=>rIxL K x y H Q∨rIxT K x y H Q∨rIxS x y H Q
theorem ix_seq:IxR X (rIx X.K):=ix_list.or (ix_tup.or ix_str)
theorem mapSeq_set (its:List Value) (n j:Nat) (u:Value):Obj.mapSeq (·.setIfInBounds j u) {cls:= .type "list",data:= .seq its.toArray n}={cls:= .type "list",data:= .seq (its.set j u).toArray n}:=by
  simp[Obj.mapSeq]
theorem Inv.lst {pins:List (Addr×Obj)} {σ:St} {H:Hp} {s:Shared} {p:Addr} {xs:List V} (I:Inv X pins σ H s) (h:H p=some (.lst xs)):
    ∃(its:List Value) (n:Nat),Vals xs its∧s.heap.get? p=some {cls:= .type "list",data:= .seq its.toArray n}∧xs.length≤sizeLine:=by
  obtain⟨z,its,n,r,e⟩:=I.hok p _ h
  exact⟨its,n,r,e,z⟩
theorem Inv.lstUpd {pins:List (Addr×Obj)} {σ:St} {H:Hp} {s:Shared} {p:Addr} {xs ys:List V} {its its':List Value} {n n':Nat} {f:Obj→Obj} (I:Inv X pins σ H s) (h:H p=some (.lst xs))
    (ho:s.heap.get? p=some {cls:= .type "list",data:= .seq its.toArray n}) (hf:f {cls:= .type "list",data:= .seq its.toArray n}={cls:= .type "list",data:= .seq its'.toArray n'}) (r:Vals ys its') (hz:ys.length≤sizeLine) (t:Nat):
    Inv X pins σ (upd H p (.lst ys)) {s with heap:=s.heap.update p f,toks:=t}:=by
  have e:(s.heap.update p f).get? p=some {cls:= .type "list",data:= .seq its'.toArray n'}:=by
    rw[Heap.get?_update_self f ho (by rw[hf] <;> rfl),hf]
  refine I.write (x:=p) (e:=p) (by rw[h];trivial) (.inl rfl) (fun b u hb q=>(Heap.get?_update_other _ _ (Ne.symm hb)).trans q) ⟨_,e⟩ ?_
  exact⟨hz,its',n',r,e⟩
noncomputable def rSetL:V→V→V→Hp→(Hp→Prop)→Prop:=fun o i v H Q=>∃p xs k j,o= .ref p∧i= .int k∧H p=some (.lst xs)∧ixN xs.length k=some j∧Q (upd H p (.lst (xs.set j v)))
theorem set_list:PSet X rSetL:=by
  intro pins s σ H o i v ov iv u Q I ro ri rv h
  obtain⟨p,xs,k,j,rfl,rfl,hp,hj,q⟩:=h
  cases ro
  obtain⟨t,rfl⟩:=ri
  obtain⟨its,n,r,ho,hz⟩:=I.lst hp
  obtain⟨h1,h2,h3,h4⟩:=ixN_seq hj
  have hl:=r.length
  have hn:=line63
  have I':Inv X pins σ (upd H p (.lst (xs.set j v))) {s with heap:=s.heap.update p (Obj.mapSeq (·.setIfInBounds j u))}:=
    I.lstUpd hp ho (mapSeq_set its n j u) (r.set rv j) (by rw[List.length_set];exact hz) s.toks
  by_cases h0:0≤k
  · have hk:k.toNat=j:=by
      rw[seqIndex_of h0 h4] at h1
      exact Option.some.inj h1
    exact PySem.W.ki_setAt ho h0 (by omega) (by rw[List.size_toArray,←hl];exact h4) (by rw[hk];exact⟨_,I',q⟩)
  · have hk:(k+(its.toArray.size:Int)).toNat=j:=by
      rw[seqIndex_neg (by omega) h3] at h1
      rw[List.size_toArray,←hl]
      exact Option.some.inj h1
    exact PySem.W.ki_setBack ho (by omega) (by rw[List.size_toArray,←hl];exact h3) (by omega) (by rw[hk];exact⟨_,I',q⟩)
theorem slice_bounds (lo hi:Option Int) (n:Nat):(sliceBounds lo hi none n).1=((HT.sIx n 0 lo:Nat):Int)∧(sliceBounds lo hi none n).2.1=((HT.sIx n n hi:Nat):Int)∧(sliceBounds lo hi none n).2.2=1:=by
  refine⟨?_,?_,rfl⟩
  · cases lo with
    |none=>simp[sliceBounds,HT.sIx]
    | some i=>
      simp only[sliceBounds,HT.sIx,Option.getD_none,show (1:Int) > 0 by decide,if_true]
      by_cases h:i < 0
      · simp only[h,if_true];exact HT.adu n h
      · simp only[h,if_false]
        obtain⟨k,rfl⟩:=Int.eq_ofNat_of_zero_le (Int.not_lt.mp h)
        exact HT.adv k n
  · cases hi with
    |none=>simp[sliceBounds,HT.sIx]
    | some i=>
      simp only[sliceBounds,HT.sIx,Option.getD_none,show (1:Int) > 0 by decide,if_true]
      by_cases h:i < 0
      · simp only[h,if_true];exact HT.adu n h
      · simp only[h,if_false]
        obtain⟨k,rfl⟩:=Int.eq_ofNat_of_zero_le (Int.not_lt.mp h)
        exact HT.adv k n
theorem slicePick_cut (its:List Value) (lo hi:Option Int):slicePick its.toArray lo hi none=((its.drop (HT.sIx its.length 0 lo)).take (HT.sIx its.length its.length hi - HT.sIx its.length 0 lo)).toArray:=by
  obtain⟨h1,h2,h3⟩:=slice_bounds lo hi its.toArray.size
  unfold slicePick
  rw[h1,h2,h3]
  simp only[sliceRange_one,pick_run,List.size_toArray] <;> rfl
noncomputable def rSlL (K:PySem.W.Frag):V→Option Int→Option Int→Hp→VK→Prop:=fun x lo hi H Q=>∃a xs,x= .ref a∧SqL K H a xs∧∀p,H p=none→Q (.ref p) (upd H p (.lst (cutV xs lo hi)))
theorem sl_list:SlR X (rSlL X.K):=by
  intro pins s σ H x v vl vu lo hi sl Q I rx hs pl pu h
  obtain⟨a,xs,rfl,hx,q⟩:=h
  cases rx
  obtain⟨its,r,ht,hz⟩:=I.list hx
  have hlen:=r.length
  refine⟨"list",_,slot_list_getitem.lookup,ht.isList.typeIs,?_⟩
  refine wpAny_getItem_list_slice ht.isList hs pl pu .none (by simp) ?_ (by rw[List.size_toArray] <;> omega)
  rw[slicePick_cut,←hlen]
  refine⟨.ref s.heap.objs.size,_,I.laid (t':=s.toks) (o:= .lst (cutV xs lo hi)) (fun b ob q=>Heap.get?_push_of_some _ q) (Nat.le_refl _) ?_,rfl,q _ (I.hok.fresh (Nat.le_refl _))⟩
  exact⟨Nat.le_trans (cutV_length xs lo hi) hz,_,0,(r.drop (HT.sIx xs.length 0 lo)).take (HT.sIx xs.length xs.length hi - HT.sIx xs.length 0 lo),Heap.get?_push_size _ rfl⟩
noncomputable def flatV:V→Bool
  | .non=>true
  | .bl _=>true
  | .int _=>true
  | .str _=>true
  |_=>false
noncomputable def eqV:V→V→Bool
  | .non,.non=>true
  | .bl a,.bl b=>a ==b
  | .bl a,.int b=>(if a then 1 else 0) ==b
  | .int a,.bl b=>a ==(if b then 1 else 0)
  | .int a,.int b=>a ==b
  | .str a,.str b=>a ==b
  |_,_=>false
theorem eqAt_V {A:Around} {s:Shared} {y x:V} {u v:Value} (ry:RelV y u) (rx:RelV x v) (fy:flatV y=true) (fx:flatV x=true):SeqAt.EqAt A s u v (eqV y x):=by
  cases y with
  | non=>
    cases ry
    cases x with
    |non=>cases rx;exact SeqAt.EqAt.same _
    |bl b=>cases rx;exact SeqAt.EqAt.none_bool b
    |int b=>obtain⟨t,rfl⟩:=rx;exact SeqAt.EqAt.none_int b t
    |str b=>obtain⟨t,rfl⟩:=rx;exact SeqAt.EqAt.none_str b t
    |_=>exact absurd (show false=true from fx) Bool.false_ne_true
  | bl a=>
    cases ry
    cases x with
    |non=>cases rx;exact SeqAt.EqAt.bool_none a
    |bl b=>cases rx;exact SeqAt.EqAt.bool_bool a b
    |int b=>obtain⟨t,rfl⟩:=rx;exact SeqAt.EqAt.bool_int a b t
    |str b=>obtain⟨t,rfl⟩:=rx;exact SeqAt.EqAt.bool_str a b t
    |_=>exact absurd (show false=true from fx) Bool.false_ne_true
  | int a=>
    obtain⟨t',rfl⟩:=ry
    cases x with
    |non=>cases rx;exact SeqAt.EqAt.int_none a t'
    |bl b=>cases rx;exact SeqAt.EqAt.int_bool a t' b
    |int b=>obtain⟨t,rfl⟩:=rx;exact SeqAt.EqAt.int_int a t' b t
    |str b=>obtain⟨t,rfl⟩:=rx;exact SeqAt.EqAt.int_str a t' b t
    |_=>exact absurd (show false=true from fx) Bool.false_ne_true
  | str a=>
    obtain⟨t',rfl⟩:=ry
    cases x with
    |non=>cases rx;exact SeqAt.EqAt.str_none a t'
    |bl b=>cases rx;exact SeqAt.EqAt.str_bool a t' b
    |int b=>obtain⟨t,rfl⟩:=rx;exact SeqAt.EqAt.str_int a t' b t
    |str b=>obtain⟨t,rfl⟩:=rx;exact SeqAt.EqAt.str_str a t' b t
    |_=>exact absurd (show false=true from fx) Bool.false_ne_true
  |_=>exact absurd (show false=true from fy) Bool.false_ne_true
noncomputable def eqU (x:V) (u:Value):Bool:=match u with
  | .none=>eqV .non x
  | .bool b=>eqV (.bl b) x
  | .int i _=>eqV (.int i) x
  | .str z _=>eqV (.str z) x
  |_=>false
theorem eqU_of {x y:V} {u:Value} (r:RelV y u) (f:flatV y=true):eqU x u=eqV y x:=by
  cases y with
  |non=>cases r;rfl
  |bl b=>cases r;rfl
  |int i=>obtain⟨t,rfl⟩:=r;rfl
  |str z=>obtain⟨t,rfl⟩:=r;rfl
  |_=>exact absurd (show false=true from f) Bool.false_ne_true
theorem any_eqU {x:V}:∀{xs:List V} {us:List Value},Vals xs us→xs.all flatV=true→us.any (eqU x)=xs.any fun y=>eqV y x
  |_,_,.nil,_=>rfl
  | y::xs,u::us,.cons r t,f=>by
    rw[List.all_cons,Bool.and_eq_true] at f
    rw[List.any_cons,List.any_cons,eqU_of r f.1,any_eqU t f.2]
theorem mem_eqAt {A:Around} {s:Shared} {x:V} {v:Value} (rx:RelV x v) (fx:flatV x=true):∀{xs:List V} {us:List Value},Vals xs us→xs.all flatV=true→∀u∈us,SeqAt.EqAt A s u v (eqU x u)
  |_,_,.nil,_=>fun u hu=>by cases hu
  | y::xs,u::us,.cons r t,f=>fun u' hu=>by
    rw[List.all_cons,Bool.and_eq_true] at f
    rcases List.mem_cons.mp hu with rfl |hu
    · rw[eqU_of r f.1];exact eqAt_V r rx f.1 fx
    · exact mem_eqAt rx fx t f.2 u' hu
noncomputable def inV (x:V) (xs:List V):Bool:=xs.any fun y=>eqV y x
noncomputable def rIn (K:PySem.W.Frag) (neg:Bool):R2:=fun x y H Q=>∃p xs,y= .ref p∧(SqL K H p xs∨SqT K H p xs)∧flatV x=true∧xs.all flatV=true∧Q (.bl (if neg then !inV x xs else inV x xs)) H
theorem op_in_seq:OpR X (compareOp .In) (rIn X.K false):=by
  intro pins s σ H x y v u Q I rx ry h
  obtain⟨p,xs,rfl,hq,fx,fs,q⟩:=h
  cases ry
  rcases hq with hq |hq
  · obtain⟨its,r,pl,hz⟩:=I.list hq
    refine SeqAt.in_listAt (eqU x) pl.isList (fun w hw=>mem_eqAt rx fx r fs w (by simpa using hw)) ⟨.bl _,H,I,rfl,?_⟩
    rw[show its.toArray.any (eqU x)=its.any (eqU x) by simp,any_eqU r fs]
    exact q
  · obtain⟨its,r,pl,hz⟩:=I.tuple hq
    refine SeqAt.in_tupleAt (eqU x) pl (fun w hw=>mem_eqAt rx fx r fs w (by simpa using hw)) ⟨.bl _,H,I,rfl,?_⟩
    rw[show its.toArray.any (eqU x)=its.any (eqU x) by simp,any_eqU r fs]
    exact q
theorem call_len_seq:CallR X (.builtin "len") (fun xs H Q=>∃p ys,xs=[.ref p]∧(SqL X.K H p ys∨SqT X.K H p ys)∧Q (.int ys.length) H):=by
  intro pins s σ H xs us Q I r h
  obtain⟨p,ys,rfl,hq,q⟩:=h
  obtain⟨u,rfl,rx⟩:=vals1 r
  cases rx
  have hn:=line63
  rcases hq with hq |hq
  · obtain⟨its,r',pl,hz⟩:=I.list hq
    have hlen:=r'.length
    exact Calls.call_len_list pl.isList (by simp only[List.size_toArray] <;> omega) ⟨.int ys.length,H,I.tok _,⟨s.toks+1,by rw[List.size_toArray,hlen]⟩,q⟩
  · obtain⟨its,r',pl,hz⟩:=I.tuple hq
    have hlen:=r'.length
    exact len_tuple pl (by simp only[List.size_toArray] <;> omega) ⟨.int ys.length,H,I.tok _,⟨s.toks+1,by rw[List.size_toArray,hlen]⟩,q⟩
theorem call_list_of:CallR X (.type "list") (fun xs H Q=>∃p ys,xs=[.ref p]∧(SqL X.K H p ys∨SqT X.K H p ys)∧∀l,H l=none→Q (.ref l) (upd H l (.lst ys))):=by
  intro pins s σ H xs us Q I r h
  obtain⟨p,ys,rfl,hq,q⟩:=h
  obtain⟨u,rfl,rx⟩:=vals1 r
  cases rx
  have fin:∀(its:List Value),Vals ys its→ys.length≤sizeLine→∀(h':Heap) (c':Nat),(∀b o',s.heap.get? b=some o'→h'.get? b=some o')→
      h'.get? s.heap.objs.size=some {cls:= .type "list",dict:=none,data:= .seq its.toArray c',slots:= #[]}→EP X pins σ Q (.ref s.heap.objs.size) {s with heap:=h'}:=fun its r' hz h' c' kp e=>
    ⟨.ref s.heap.objs.size,_,I.laid (t':=s.toks) kp (Nat.le_refl _) (show ObjOk X.prog X.w _ h' _ (.lst ys) from ⟨hz,its,c',r',e⟩),rfl,q _ (I.hok.fresh (Nat.le_refl _))⟩
  rcases hq with hq |hq
  · obtain⟨its,r',pl,hz⟩:=I.list hq
    have hlen:=r'.length
    obtain⟨o,ho,hc,n,hd⟩:=pl.isList
    exact call_list_seq p (.inl rfl) ho hc hd (fun h' c' kp e=>fin its r' hz h' c' kp e) (by simp only[List.size_toArray] <;> omega)
  · obtain⟨its,r',pl,hz⟩:=I.tuple hq
    have hlen:=r'.length
    obtain⟨o,ho,hc,n,hd⟩:=pl
    exact call_list_seq p (.inr rfl) ho hc hd (fun h' c' kp e=>fin its r' hz h' c' kp e) (by simp only[List.size_toArray] <;> omega)
theorem call_tuple_of:CallR X (.type "tuple") (fun xs H Q=>∃p ys,xs=[.ref p]∧((SqL X.K H p ys∧∀l,H l=none→Q (.ref l) (upd H l (.tup ys)))∨(SqT X.K H p ys∧Q (.ref p) H))):=by
  intro pins s σ H xs us Q I r h
  obtain⟨p,ys,rfl,h⟩:=h
  obtain⟨u,rfl,rx⟩:=vals1 r
  cases rx
  rcases h with⟨hq,q⟩ |⟨hq,q⟩
  · obtain⟨its,r',pl,hz⟩:=I.list hq
    have hlen:=r'.length
    refine call_tuple_list pl.isList (fun h' kp=>?_) (by simp only[List.size_toArray] <;> omega)
    have I1:Inv X pins σ H {s with heap:=h'}:=I.kept (t':=s.toks) kp
    have I2:Inv X pins σ (upd H h'.objs.size (.tup ys)) {s with heap:=h'.push {cls:= .type "tuple",data:= .seq its.toArray}}:=
      I1.laid (t':=s.toks) (fun b o e=>Heap.get?_push_of_some _ e) (Nat.le_refl _) (show ObjOk X.prog X.w _ _ _ (.tup ys) from ⟨hz,its,r',IsTup.new _ _⟩)
    exact⟨.ref h'.objs.size,_,I2,rfl,q _ (I1.hok.fresh (Nat.le_refl _))⟩
  · obtain⟨its,r',pl,hz⟩:=I.tuple hq
    exact call_tuple_same pl ⟨.ref p,H,I,rfl,q⟩
noncomputable def tyV (K:PySem.W.Frag) (T:String) (x:V) (H:Hp):Prop:=match x with
  | .str _=>T= "str"
  | .int _=>T= "int"
  | .ref p=>(T= "list"∧∃xs,SqL K H p xs)∨(T= "tuple"∧∃o,K.lookup p=some o∧o.cls= .type "tuple"∧o.dict=none)∨
      (T= "dict"∧((∃kvs,H p=some (.dK kvs))∨∃kvs,H p=some (.dT kvs)))∨(T= "set"∧∃S n,H p=some (.set S n))
  |_=>False
theorem tyV_is {pins:List (Addr×Obj)} {σ:St} {H:Hp} {s:Shared} {T:String} {x:V} {v:Value} (I:Inv X pins σ H s) (r:RelV x v) (ty:tyV X.K T x H):
    s.TypeIs v T∧∀a,v= .ref a→∃ob,s.heap.get? a=some ob∧ob.dict=none:=by
  cases x with
  | str z=>
    obtain⟨t,rfl⟩:=r
    cases (show T= "str" from ty)
    exact⟨typeIs_str s z t,fun _ e=>nomatch e⟩
  | int i=>
    obtain⟨t,rfl⟩:=r
    cases (show T= "int" from ty)
    exact⟨typeIs_int s i t,fun _ e=>nomatch e⟩
  | ref p =>
    cases r
    rcases ty with⟨rfl,xs,hq⟩ |⟨rfl,o,hk,hc,hd⟩ |⟨rfl,hk⟩ |⟨rfl,S,n,hk⟩
    · obtain⟨its,_,pl,_⟩:=I.list hq
      refine⟨pl.isList.typeIs,fun a e=>?_⟩
      cases e
      obtain⟨o,n,e,c,hd,_⟩:=pl
      exact⟨o,e,hd⟩
    · refine⟨⟨o,I.kIn p o hk,hc⟩,fun a e=>?_⟩
      cases e
      exact⟨o,I.kIn _ o hk,hd⟩
    · have z:∃o,s.heap.get? p=some o∧o.ExactDict:=by
        rcases hk with⟨kvs,hk⟩ |⟨kvs,hk⟩
        · obtain⟨_,_,_,_,o,_,_,e,ex,_⟩:=I.hok p _ hk
          exact⟨o,e,ex⟩
        · obtain⟨_,_,_,_,o,_,_,e,ex,_⟩:=I.hok p _ hk
          exact⟨o,e,ex⟩
      obtain⟨o,e,ex⟩:=z
      refine⟨⟨o,e,ex.1⟩,fun a e2=>?_⟩
      cases e2
      exact⟨o,e,ex.2.1⟩
    · obtain⟨o,_,_,_,e,ex,_⟩:=I.hok p _ hk
      refine⟨⟨o,e,ex.1⟩,fun a e2=>?_⟩
      cases e2
      exact⟨o,e,ex.2.1⟩
  |_=>exact False.elim ty
noncomputable def tBM (K:PySem.W.Frag) (T:String) (r:V→List V→Hp→VK→Prop) (to:TE) (t:TA):TE:=fun σ H Q=>to σ H fun x H1=>tyV K T x H1∧t σ H1 fun xs H2=>r x xs H2 Q
variable {o e:Expr} {es:List Expr} {to:TE} {t:TA} {name:Str} {apos cpos:Pos} {T id:String} {r:V→List V→Hp→VK→Prop}
theorem pe_bm (pa:PlainAttrs T) (slot:Slot T name id) (hty:typeOf (.builtin id)=pure (.type "method_descriptor")) (hm:MtR X id r) (ho:PE X o to) (ha:PA X (e::es) t)
    (hbase:attributeBase o name X.env (eval o X.env)=eval o X.env:=by rfl)
    (hfew:((backTo cpos (starEach (e::es) X.env)).all (fun x=> !x.1) && (backToKw cpos (keywordEach [] X.env)).all (fun x=>x.1.isSome)
      && decide ((e::es).length+([]:List Keyword).length+(if ([]:List Keyword).isEmpty then 0 else 1) < 30))=true:=by rfl)
    (hline:(apos.endLine ==cpos.line)=true:=by rfl) (hs:starEach (e::es) X.env=(false,eval e X.env)::starEach es X.env:=by rfl) (hplain:(backTo cpos (starEach es X.env)).any (·.1)=false:=by rfl):
    PE X (.Call (.Attribute o name apos) (e::es) [] cpos) (tBM X.K T r to t):=by
  intro pins s σ H Q I h
  refine wpAny_Call_method_late hbase hfew hline rfl (thn (ho pins s σ H _ I h) fun v s1 bN=>?_)
  obtain⟨x,H1,I1,r1,ty,q1⟩:=bN
  obtain⟨h1,h2⟩:=tyV_is I1 r1 ty
  refine⟨T,id,pa,slot,hty,h1,h2,?_⟩
  have hA:=ha cpos pins s1 σ H1 _ I1 q1
  rw[hs] at hA ⊢
  refine Calls.callWith_builtin (by show (false || (backTo cpos (starEach es X.env)).any (·.1))=false;rw[hplain] <;> rfl) (Calls.evalArgs_plain ?_)
  refine thn hA fun us s2 bN=>?_
  obtain⟨vs,H2,I2,r2,q2⟩:=bN
  exact hm pins s2 σ H2 x vs v us Q I2 r1 r2 q2
end
end L2
namespace L2
open PySem PySem.Spec PyProof.Rows
noncomputable def MtM (X:Cx) (id:String) (r:V→List V→Hp→VK→Prop):Prop:=
  ∀ (pins:List (Addr×Obj)) (s:Shared) (σ:St) (H:Hp) (x:V) (xs:List V) (v:Value) (us:List Value) (Q:VK),Inv X pins σ H s→RelV x v→Vals xs us→r x xs H Q→
    wpAny (model X.prog X.w) X.A (call (.builtin id) (v::us)) (EP X pins σ Q) X.xe s
theorem Vals.one:∀{x:V} {us:List Value},Vals [x] us→∃u,us=[u]∧RelV x u
  | _,_,h=>by
    cases h with
    |cons r t=>cases t;exact⟨_,rfl,r⟩
theorem Vals.rep {xs:List V} {us:List Value} (h:Vals xs us):∀k:Nat,Vals (List.replicate k xs).flatten (List.replicate k us).flatten
  |0=> .nil
  | k+1=>by
    rw[List.replicate_succ,List.replicate_succ,List.flatten_cons,List.flatten_cons]
    exact Vals.append h (Vals.rep h k)
theorem foldl_rep (its:List Value):∀(k:Nat) (acc:List Value),
    List.foldl (fun x1 x2=>x1++x2) acc.toArray (List.replicate k its.toArray)=(acc++(List.replicate k its).flatten).toArray
  |0,acc=>by simp
  | k +1,acc=>by
    have e:acc.toArray++its.toArray=(acc++its).toArray:=by simp
    have e2:(acc++its)++(List.replicate k its).flatten=acc++(List.replicate (k+1) its).flatten:=by
      rw[List.replicate_succ,List.flatten_cons,List.append_assoc]
    rw[←e2,←foldl_rep its k (acc++its),←e,List.replicate_succ,List.foldl_cons]
section
variable {X:Cx} {pins:List (Addr×Obj)} {σ:St} {H:Hp} {s:Shared} {l b:Addr} {xs ys zs:List V}
theorem Inv.lset {its its':List Value} {n:Nat} {f:Array Value→Array Value} {t':Nat} (I:Inv X pins σ H s) (hH:H l=some (.lst xs))
    (e:s.heap.get? l=some {cls:= .type "list",data:= .seq its.toArray n}) (hf:f its.toArray=its'.toArray) (hv:Vals ys its') (hz:ys.length≤sizeLine):
    Inv X pins σ (upd H l (.lst ys)) {s with heap:=s.heap.update l (Obj.mapSeq f),toks:=t'}:=by
  have q:=PySem.IsL.update e f
  rw[hf] at q
  refine I.write (x:=l) (e:=l) (by rw[hH];exact trivial) (.inl rfl) (fun b' u hb hu=>(Heap.get?_update_other s.heap (Obj.mapSeq f) (Ne.symm hb)).trans hu) ⟨_,q⟩ ?_
  exact⟨hz,its',_,hv,q⟩
theorem Inv.lnew {its:List Value} {t':Nat} (I:Inv X pins σ H s) (hv:Vals ys its) (hz:ys.length≤sizeLine):
    Inv X pins σ (upd H s.heap.objs.size (.lst ys)) {s with heap:=s.heap.push {cls:= .type "list",data:= .seq its.toArray},toks:=t'}:=
  I.laid (fun _ _ q=>Heap.get?_push_of_some _ q) (Nat.le_refl _) ⟨hz,its,0,hv,Heap.get?_push_size _ rfl⟩
theorem Inv.fresh (I:Inv X pins σ H s):H s.heap.objs.size=none:=I.hok.fresh (Nat.le_refl _)
theorem Inv.lstM (I:Inv X pins σ H s) (hH:H l=some (.lst xs)):xs.length≤sizeLine∧∃(its:List Value) (n:Nat),Vals xs its∧xs.length=its.length∧s.heap.get? l=some {cls:= .type "list",data:= .seq its.toArray n}:=by
  obtain⟨z,its,n,r,e⟩:=I.hok l _ hH
  exact⟨z,its,n,r,r.length,e⟩
end
section
variable {X:Cx}
noncomputable def rAppend:V→List V→Hp→VK→Prop:=fun x vs H Q=>∃l xs y,x= .ref l∧vs=[y]∧H l=some (.lst xs)∧xs.length < sizeLine∧Q .non (upd H l (.lst (xs++[y])))
theorem mt_append:MtM X "list.append" rAppend:=by
  intro pins s σ H x vs v us Q I rx rv h
  obtain⟨l,xs,y,rfl,rfl,hH,hz,q⟩:=h
  cases rx
  obtain⟨u,rfl,ru⟩:=rv.one
  obtain⟨z,its,n,r,hl,e⟩:=I.lstM hH
  refine call_meets F.slot_list_append ⟨_,e,rfl⟩ F.entry_list_append (F.args_list_append_2 _ _) (PySem.list_append l its.toArray n u (by rw[List.size_toArray];omega)) ⟨e,?_⟩
  refine⟨.non,_,I.lset (its':=its++[u]) hH e (by simp) (r.append (.cons ru .nil)) ?_,rfl,q⟩
  rw[List.length_append,List.length_singleton]
  omega
theorem len_rep {α:Type} (xs:List α) (k:Nat):(List.replicate k xs).flatten.length=k*xs.length:=by
  induction k with
  |zero=>simp
  |succ k ih=>rw[List.replicate_succ,List.flatten_cons,List.length_append,ih,Nat.succ_mul,Nat.add_comm]
end
section
variable {prog:Program} {w:World} {A:Around} {E:Value→Shared→Prop} {s:Shared}
end
section
variable {X:Cx}
end
end L2
namespace L2
open PySem PySem.Spec PyProof.Rows
section
variable {κ:Type} [DecidableEq κ]
end
section
variable {P:Program} {w:World} {H:Hp} {h:Heap} {a:Addr}
end
section
variable {X:Cx} {pins:List (Addr×Obj)} {σ:St} {H:Hp} {s:Shared} {a:Addr} {y v:V} {u r:Value} {o:Option V} {A:Around} {E:Value→Shared→Prop}
end
section
variable {X:Cx} {pins:List (Addr×Obj)} {σ:St} {H:Hp} {s:Shared} {a:Addr} {kvs:List (Key×V)} {k:Key} {u:Value} {A:Around} {E:Value→Shared→Prop}
end
section
variable {X:Cx} {o i e value:Expr} {pos pos' tpos:Pos} {td ty tv:TE}
end
section
variable {X:Cx} {pos:Pos}
end
section
variable {X:Cx} {pins:List (Addr×Obj)} {σ:St} {H:Hp} {s:Shared} {a:Addr} {y d:V} {u r:Value} {o:Option V} {A:Around} {E:Value→Shared→Prop}
end
section
variable {X:Cx} {o e f:Expr} {apos cpos:Pos} {td ty tx:TE}
end
section
variable {X:Cx} {pins:List (Addr×Obj)} {σ:St} {H:Hp} {s:Shared} {a:Addr} {kvs:List (Key×V)} {A:Around} {E:Value→Shared→Prop}
end
section
variable {X:Cx} {pins:List (Addr×Obj)} {σ:St} {H:Hp} {s:Shared} {a:Addr} {y:V} {u:Value} {A:Around} {E:Value→Shared→Prop}
end
end L2
namespace Att
open PySem PySem.W PySem.Calls PyProof.Rows
theorem ints_of_wellAll {P:Params} {h:Heap}:∀(ns:List Int) (vs:List Value),WellAll P h vs (ns.map WData.int)→IntsAre vs ns:=by
  intro ns
  induction ns with
  | nil=>
    intro vs w
    rw[List.map_nil] at w
    cases w
    exact .nil
  | cons n ns ih=>
    intro vs w
    rw[List.map_cons] at w
    cases w with
    | cons a b=>
      cases a
      exact .cons _ _ (ih _ b)
theorem script_of {l:OpenLaw} {n:Nat} (hn:l.most=some n) {P:Params} {h:Heap} {args:List WData} {vals:List Value}
    (hpre:l.row.toRowW.claim.pre args=true) (hwl:WellAll P h vals args):
    ∃a vs ns,vals=[Value.ref a]∧args=[WData.list (ns.map WData.int)]∧h.get? a=some {cls:= .type "list",data:= .seq vs.toArray}∧IntsAre vs ns∧ns.length≤n:=by
  have hsh:WShape.hasAll [] args [.list .int]=true:=(pre_splitW hpre).1
  have hc:l.pre.holds [] {args:=args}=true:=(pre_splitW hpre).2
  obtain⟨d,r,rfl,h1,h2⟩:=hasAllW_cons hsh
  obtain rfl:=hasAllW_nil h2
  obtain⟨xs,rfl,h3⟩:=hasW_list h1
  obtain⟨ns,rfl⟩:=items_int h3
  have hlen:ns.length≤n:=by
    unfold OpenLaw.pre at hc
    have h4:(WTm.not (.lt (.lit (.int (n:Int))) (.len (.arg 0)))).holds [] {args:=[.list (ns.map .int)]}=true:=by
      have h4:=(holds_andW hc).1
      rw[hn] at h4
      exact h4
    have h5:=condW_of h4 (w_not (w_lt w_lit (w_len_list (w_arg rfl))))
    rw[List.length_map] at h5
    refine Nat.le_of_not_lt fun q=>?_
    have q':(n:Int) < ((ns.length:Nat):Int):=by omega
    first
      |(rw[decide_eq_true q'] at h5;exact absurd h5 (by decide))
      |(simp at h5;omega)
  cases hwl with
  | cons w1 w2=>
    cases w2
    cases w1 with
    |list ho hall=>exact⟨_,_,ns,rfl,rfl,ho,ints_of_wellAll ns _ hall,hlen⟩
theorem post_true (l:OpenLaw) (args:List WData):l.row.toRowW.claim.post args (.bool true) args=true:=
  postW_of (r:=l.row.toRowW) (X:=(true ==true))
    (show WShape.has [] (.bool true) .bool=true by first |rfl |decide |simp [WShape.has,WShape.arms,WShape.armsAll])
    (show (WTm.eq .res (.lit (.bool true))).value [] {args:=args,res:=some (.bool true),after:=args}=some (.bool (true ==true)) from w_eq_bool (w_res rfl) w_lit) rfl
theorem attach_call {l:OpenLaw} {n:Nat} {q:Program} {loose:List Str} {XP:(Str→Option Value)→Heap→Prop} {YP:World→Heap→Prop} {d:DefRec}
    (hn:l.most=some n) (hdf:d.params.defaults=[])
    (call:∀(w:World) (s₀ s₁:Shared) (mg mb:Str→Option Value) (fa:Addr) (o:Obj) (pm cd doc:Value) (a:Addr) (vs:List Value) (ns:List Int),
      Ground q loose [] XP w s₀ mg mb s₁.heap→YP w s₁.heap→
      s₁.heap.get? fa=some o→o.data= .func (docDef d.name d.params d.body d.scope pm cd doc)→s₁.heap.CodeRec cd d.name→mg d.name=some (.ref fa)→
      s₁.heap.get? a=some {cls:= .type "list",data:= .seq vs.toArray}→IntsAre vs ns→ns.length≤n→s₁.gens= #[]→
      codeAny (model l.prog w) callerA (.call (.ref fa) ⟨[.ref a],[]⟩) (fun r s'=>r= .ok (.ret (.bool true))∧OldK s₁.heap s'.heap∧s'.os=s₁.os∧AllBare s'.gens) s₁):
    WalkO q loose XP YP l.row.toRowW d [] (fun f vs=>PySem.call f vs):=by
  intro w s₀ s₁ mg mb G Y fa o pm cd doc dV kV ho hd hcd hD hmg hg args vals as hpre hlay hrd hwl hlo
  obtain rfl:dV= .none:=Dflts.none hD hdf
  obtain rfl:kV= .none:=Dflts.noKw hD
  obtain⟨a,vs,ns,rfl,rfl,hobj,hints,hlen⟩:=script_of hn hpre hwl
  refine enter_call (codeAny_mono (call w s₀ s₁ mg mb fa o pm cd doc a vs ns G Y ho (fd_plain hd) hcd hmg hobj hints hlen hg) fun r s' hq=>?_)
  obtain⟨rfl,h2,h3,h4⟩:=hq
  exact⟨.inl ⟨.bool true,.bool true,[],rfl,fun _=>rfl,.bool true,post_true l _,fun _=>⟨List.Pairwise.nil,fun _ hm=>(nomatch hm)⟩⟩,h2,h3,h4⟩
section
variable {prog:Program} {w:World} {A:Around} {E:Value→Shared→Prop} {s:Shared} {K:Frag}
end
end Att
namespace L2
open PySem PySem.Spec PyProof.Rows
theorem vals_ints:∀{vs:List Value} {ns:List Int},IntsAre vs ns→Vals (ns.map V.int) vs
  :=by
  intro vs ns h
  induction h with
  |nil=>exact .nil
  |cons n t h ih=>exact .cons ⟨t,rfl⟩ ih
noncomputable def Only (H:Hp):Prop:=∀b,H b=none∨∃o xs,H b=some (.frz o (.lst xs))
theorem law_call {P:Program} {w:World} {K:PySem.W.Frag} {mg mb:Str→Option Value} {CX:CXT} {k:Nat} {fa a:Addr} {fd:FuncData} {x:Str} {sp:Sp} {s₁:Shared} {vs:List Value} {ns:List Int}
    (KX:K.In s₁.heap) (hns:s₁.heap.Ns mainGlobals mg) (hb:s₁.heap.Ns builtinsNs mb) (hbb:∀x:Str,x≠"__name__"→mb x=bootBuiltins x) (hlim:s₁.heap.NoLimit) (hg:s₁.gens= #[])
    (ha:s₁.heap.get? a=some {cls:= .type "list",data:= .seq vs.toArray}) (hi:IntsAre vs ns) (hl:ns.length≤sizeLine) (hr:Room k callerA)
    (F:∀base:Heap,K.In base→base.Ns mainGlobals mg→FnOk P w K mg base CX k fa fd [x] sp) (hbind:∀(s:Shared) (u:Value),BindsTo s fd ⟨[u],[]⟩ [(x,u)])
    (hsp:∀H:Hp,Only H→SqL K H a (ns.map V.int)→sp [.ref a] H (fun v _=>v= .bl true) fun _ _ _=>False)
    (hCX:∀H e s',CX [] H s₁ (fun _ _ _=>False) e s'→False):
    codeAny (model P w) callerA (.call (.ref fa) ⟨[.ref a],[]⟩) (fun r s'=>r= .ok (.ret (.bool true))∧OldK s₁.heap s'.heap∧s'.os=s₁.os∧AllBare s'.gens) s₁:=by
  have rv:=vals_ints hi
  have lenV:=hi.length
  have core :∀H:Hp,Only H→SqL K H a (ns.map V.int)→HOk P w H s₁.heap→(∀b,H b≠none→b=a)→(H a≠none→K.lookup a=none)→
      codeAny (model P w) callerA (.call (.ref fa) ⟨[.ref a],[]⟩) (fun r s'=>r= .ok (.ret (.bool true))∧OldK s₁.heap s'.heap∧s'.os=s₁.os∧AllBare s'.gens) s₁:=by
    intro H hO hS hok hA hK
    have base_of:∀{b:Addr} {o:Obj},s₁.heap.get? b=some o→H b=none→(hidT s₁.heap H).get? b=some o:=fun e n=>hidT_get e n
    have noA:∀{b:Addr} {o:Obj} {es:Array DictEntry} {ep:Nat},s₁.heap.get? b=some o→o.data= .dict es ep→H b=none:=fun {b o es ep} e d=>by
      cases q:H b with
      |none=>rfl
      | some u=>
        have e':b=a:=hA b (by rw[q];simp)
        subst e'
        rw[ha] at e;cases e
        have d':Data.seq vs.toArray _=Data.dict es ep:=d
        cases d'
    have nsK:∀{b:Addr} {m:Str→Option Value},s₁.heap.Ns b m→(hidT s₁.heap H).Ns b m:=fun {b m} ⟨o,es,ep,e,d,r⟩=>⟨o,es,ep,base_of e (noA e d),d,r⟩
    have hKb:K.In (hidT s₁.heap H):=fun b o e=>base_of (KX b o e) (by
      cases q:H b with
      |none=>rfl
      | some u=>
        have e':b=a:=hA b (by rw[q];simp)
        subst e'
        rw[hK (by rw[q];simp)] at e;cases e)
    have hM:Mod K mg (hidT s₁.heap H):=⟨hKb,nsK hns,⟨mb,nsK hb,hbb⟩,let ⟨mc,h1,h2⟩:=hlim;⟨mc,nsK h1,h2⟩⟩
    have e0:Env0 P w K mg (hidT s₁.heap H) callerA [] s₁ H:=⟨rfl,hM,fun b o e=>of_hidT e,Nat.le_of_eq (hidT_size _ _),trivial,fun b hb=>absurd (show b∈([]:List Addr) from hb) (by simp),hok,.of_eq hg⟩
    refine codeAny_mono ((F _ hKb (nsK hns)).run callerA [] s₁ H ⟨[.ref a],[]⟩ [.ref a] [.ref a] _ _ hr e0 (hbind s₁ (.ref a)) (.cons rfl .nil) (hsp H hO hS)) fun r s' h=>?_
    cases r with
    |error e=>exact (hCX H e s' h).elim
    | ok fl =>
      cases fl with
      |next=>exact False.elim h
      |brk=>exact False.elim h
      |cont=>exact False.elim h
      | ret u=>
        obtain⟨v,H',os,bare,un,hok',r',q⟩:=h
        have q':v= .bl true:=q
        subst q'
        obtain rfl:u=Value.bool true:=r'
        refine⟨rfl,OldK.of_keep fun b o e=>?_,os,bare⟩
        cases q:H b with
        |none=>exact un.keep b o e q (by intro z;exact absurd (show b∈([]:List Addr) from z) (by simp)) (by simp)
        | some u=>
          rcases hO b with z |⟨ob,xs,z⟩
          · rw[q] at z;cases z
          · have z2:=un.frzs b ob _ z
            obtain⟨e1,_⟩:=hok b _ z
            obtain⟨e2,_⟩:=hok' b _ z2
            rw[e] at e1;cases e1
            exact e2
  cases hk:K.lookup a with
  | some o=>
    have e:=KX a o hk
    rw[ha] at e
    cases e
    refine core (fun _=>none) (fun _=> .inl rfl) (.inr ⟨_,vs.toArray,_,hk,rfl,rfl,rfl,by rw[List.size_toArray,lenV];exact hl,by simpa using rv⟩) (fun b u z=>by have z':(none:Option HO)=some u:=z;cases z') (fun b z=>absurd rfl z) fun z=>absurd rfl z
  | none=>
    refine core (fun b=>if b=a then some (.frz {cls:= .type "list",data:= .seq vs.toArray} (.lst (ns.map V.int))) else none) (fun b=>?_) (.inl (.inr ⟨{cls:= .type "list",data:= .seq vs.toArray},if_pos rfl⟩)) (fun b u z=>?_) (fun b z=>?_) fun _=>hk
    · by_cases hb:b=a
      · exact .inr ⟨_,_,if_pos hb⟩
      · exact .inl (if_neg hb)
    · by_cases hb:b=a
      · have z':=(if_pos hb).symm.trans z
        cases z'
        subst hb
        exact⟨ha,by rw[List.length_map];exact hl,vs,_,rv,ha⟩
      · have z':=(if_neg hb).symm.trans z
        cases z'
    · by_cases hb:b=a
      · exact hb
      · exact absurd (if_neg hb) z
end L2
namespace L2
open PySem PySem.Spec PyProof.Rows
theorem walk_of {l:PySem.W.OpenLaw} {n k:Nat} {q:Program} {loose:List Str} {XP:(Str→Option Value)→Heap→Prop} {YP:World→Heap→Prop} {d:DefRec} {K:Params→PySem.W.Frag} {CX:World→CXT} {sp:World→Sp} {x:Str}
    (hn:l.most=some n) (hn2:n≤sizeLine) (hdf:d.params.defaults=[]) (hr:Room k callerA)
    (hY:∀(w:World) (h:Heap),YP w h→(K w.params).In h)
    (F:∀(w:World) (mg:Str→Option Value) (fa:Addr) (h:Heap),(K w.params).In h→h.Ns mainGlobals mg→mg d.name=some (.ref fa)→
      ∃ fd:FuncData,(∀(s:Shared) (u:Value),BindsTo s fd ⟨[u],[]⟩ [(x,u)])∧
        ∀base:Heap,(K w.params).In base→base.Ns mainGlobals mg→FnOk l.prog w (K w.params) mg base (CX w) k fa fd [x] (sp w))
    (hsp:∀(w:World) (H:Hp) (a:Addr) (ns:List Int),ns.length≤n→Only H→SqL (K w.params) H a (ns.map V.int)→sp w [.ref a] H (fun v _=>v= .bl true) fun _ _ _=>False)
    (hCX:∀(w:World) (H:Hp) (s:Shared) (e:Value) (s':Shared),CX w [] H s (fun _ _ _=>False) e s'→False):
    PySem.W.WalkO q loose XP YP l.row.toRowW d [] (fun f vs=>PySem.call f vs):=by
  refine Att.attach_call hn hdf fun w s₀ s₁ mg mb fa o pm cd doc a vs ns G Y ho hd hcd hmg hobj hints hlen hg=>?_
  have KX:=hY w _ Y
  obtain⟨fd,hb,hF⟩:=F w mg fa _ KX G.T.g hmg
  exact law_call KX G.T.g G.T.b G.T.builtins G.T.nolimit hg hobj hints (Nat.le_trans hlen hn2) hr hF hb (fun H hO hS=>hsp w H a ns hlen hO hS) fun H e s'=>hCX w H s₁ e s'
end L2
namespace L2
open PySem PySem.Spec PyProof.Rows
noncomputable def defArgs (s:Stmt):Arguments:=match s with
  | .FunctionDef _ a _ _ _ _ _ _ _ _=>a
  |_=>{posonlyargs:=[],args:=[],vararg:=none,kwonlyargs:=[],kw_defaults:=[],kwarg:=none,defaults:=[]}
noncomputable def defBody (s:Stmt):List Stmt:=match s with
  | .FunctionDef _ _ b _ _ _ _ _ _ _=>b
  |_=>[]
noncomputable def defScope (s:Stmt):Scope:=match s with
  | .FunctionDef _ _ _ _ _ _ sc _ _ _=>sc
  |_=>{kind:= .function,names:=[],isGenerator:=false,isCoroutine:=false}
noncomputable abbrev CX0:CXT:=fun _ _ _ _ _ _=>False
noncomputable abbrev E0:XK:=fun _ _ _=>False
theorem pass0 {X:Cx}:Passes CX0 X E0:=fun _ _ _ _ _ _ _ h=>h.elim
inductive abq (K:PySem.W.Frag) (x qual:Str) (st:Stmt) (f:Addr) (fd:FuncData):Prop
  |mk (oc:Value) (od:Option Addr) (kV doc pm:Value) (an:Option Addr) (cdv ct:Value) (osl:Array (Option Value)) (e:fd=PySem.W.fnOf x qual (defArgs st) (defBody st) (defScope st) .none kV doc pm an cdv ct) (lk:K.lookup f=some ⟨oc,od,.func fd,osl⟩) (hcd:PySem.W.codeIn K cdv qual=true):abq K x qual st f fd
structure Fun (K:PySem.W.Frag) (x qual:Str) (st:Stmt) (f:Addr) (fd:FuncData):Prop where
  ex:abq K x qual st f fd
  kp:PySem.W.keepIn K (.ref f)=true
section
variable {P:Program} {w:World} {K:PySem.W.Frag} {mg:Str→Option Value} {base:Heap}
theorem Fun.ok {x qual:Str} {st:Stmt} {f:Addr} {fd:FuncData} {N ps:List Str} {k:Nat} {sp:Sp} (F:Fun K x qual st f fd) (S:FnScope N ps (defScope st)) (len:∀vs H Q E,sp vs H Q E→vs.length=ps.length)
    (hbody:∀(cdv:Value) (A:Around) (outer:List Env) (s:Shared) (H:Hp) (vs:List V) (Q:VK) (E:XK),Room k (A.deeper (envOfC qual (defScope st) s.heap.objs.size f cdv))→sp vs H Q E→
      ∃t,PSs (cxOf CX0 P w K mg base N qual (defScope st) f cdv A outer s H E).nox (defBody st) t∧t {nx:=fun _ H'=>Q .non H',rt:=Q} (start N vs) H):FnOk P w K mg base CX0 (k+1) f fd ps sp:=by
  obtain⟨oc,od,kV,doc,pm,an,cdv,ct,osl,rfl,lk,hcd⟩:=F.ex
  refine fn_of lk hcd S len fun A outer s H vs Q E hr hsp=>?_
  obtain⟨t,h,q⟩:=hbody cdv A outer s H vs Q E hr hsp
  exact⟨t,h.nox,q⟩
theorem Fun.binds {x qual:Str} {st:Stmt} {f:Addr} {fd:FuncData} {ps:List Str} (F:Fun K x qual st f fd)
    (h:∀(kV doc pm:Value) (an:Option Addr) (cdv ct:Value) (us:List Value),us.length=ps.length→bindArgs (PySem.W.fnOf x qual (defArgs st) (defBody st) (defScope st) .none kV doc pm an cdv ct) ⟨us,[]⟩=pure (ps.zip us)):Binds K fd ps []:=by
  obtain⟨oc,od,kV,doc,pm,an,cdv,ct,osl,rfl,lk,hcd⟩:=F.ex
  exact .all (h kV doc pm an cdv ct)
theorem fun_mk {x qual:Str} {st:Stmt} {f:Addr} {oc:Value} {od an:Option Addr} {osl:Array (Option Value)} {kV doc pm cdv ct:Value} (l:K.lookup f=some ⟨oc,od,.func (PySem.W.fnOf x qual (defArgs st) (defBody st) (defScope st) .none kV doc pm an cdv ct),osl⟩)
    (c:PySem.W.codeIn K cdv qual=true) (k:PySem.W.keepIn K (.ref f)=true):Fun K x qual st f (PySem.W.fnOf x qual (defArgs st) (defBody st) (defScope st) .none kV doc pm an cdv ct):=⟨⟨oc,od,kV,doc,pm,an,cdv,ct,osl,rfl,l,c⟩,k⟩
end
section
variable {X:Cx}
end
noncomputable def Same (H H':Hp):Prop:=∀b o,H b=some o→H' b=some o
theorem Same.refl (H:Hp):Same H H:=fun _ _ h=>h
theorem Same.trans {H H1 H2:Hp} (a:Same H H1) (b:Same H1 H2):Same H H2:=fun c o h=>b c o (a c o h)
theorem Same.free {H H':Hp} (e:Same H H') {l:Addr} (h:H' l=Option.none):H l=Option.none:=by
  cases q:H l with
  |none=>rfl
  | some o=>
    rw[e l o q] at h
    cases h
section
variable {κ:Type} [DecidableEq κ]
end
end L2
namespace Pu
open PySem PySem.Spec L2
open PyProof.Rows hiding St
inductive D where
  |non |bl (b:Bool) |int (i:Int) |str (x:Str) |tup (xs:List D) |lst (xs:List D)
inductive R (α:Type) where
  |bad |ok (a:α) |err (c:Str)
namespace R
noncomputable def bind {α β:Type} (r:R α) (k:α→R β):R β:=match r with
  | .ok a=>k a
  | .err c=> .err c
  | .bad=> .bad
@[simp] theorem bK {α β:Type} (a:α) (k:α→R β):(R.ok a).bind k=k a:=rfl
end R
mutual
noncomputable def Rep (K:PySem.W.Frag) (O:Addr→Prop) (H:Hp):D→V→Prop
  | .non,v=>v= .non
  | .bl b,v=>v= .bl b
  | .int i,v=>v= .int i
  | .str x,v=>v= .str x
  | .tup ds,v=>∃a xs,v= .ref a∧SqT K H a xs∧aV K O H ds xs
  | .lst ds,v=>∃a xs,v= .ref a∧SqL K H a xs∧¬O a∧aV K O H ds xs
noncomputable def aV (K:PySem.W.Frag) (O:Addr→Prop) (H:Hp):List D→List V→Prop
  |[],xs=>xs=[]
  |d::ds,xs=>∃x r,xs=x::r∧Rep K O H d x∧aV K O H ds r
end
structure Ext (O:Addr→Prop) (H H':Hp):Prop where
  tup:∀b xs,Rd H b (.tup xs)→Rd H' b (.tup xs)
  lst:∀b xs,¬O b→Rd H b (.lst xs)→Rd H' b (.lst xs)
section
variable {K:PySem.W.Frag} {O O':Addr→Prop} {H H':Hp}
theorem SqL.ext (e:Ext O H H') {a:Addr} {xs:List V} (n:¬O a) (h:SqL K H a xs):SqL K H' a xs:=by
  rcases h with h |h
  · exact .inl (e.lst _ _ n h)
  · exact .inr h
theorem SqT.ext (e:Ext O H H') {a:Addr} {xs:List V} (h:SqT K H a xs):SqT K H' a xs:=by
  rcases h with h |h
  · exact .inl (e.tup _ _ h)
  · exact .inr h
mutual
theorem Rep.ext (e:Ext O H H') (o:∀b xs,¬O b→SqL K H b xs→¬O' b):∀(d:D) (v:V),Rep K O H d v→Rep K O' H' d v
  | .non,_,h=>by simpa only[Rep] using h
  | .bl _,_,h=>by simpa only[Rep] using h
  | .int _,_,h=>by simpa only[Rep] using h
  | .str _,_,h=>by simpa only[Rep] using h
  | .tup ds,v,h=>by
    simp only[Rep] at h ⊢
    obtain⟨a,xs,e1,h1,h2⟩:=h
    exact⟨a,xs,e1,SqT.ext e h1,aV.ext e o ds xs h2⟩
  | .lst ds,v,h=>by
    simp only[Rep] at h ⊢
    obtain⟨a,xs,e1,h1,h2,h3⟩:=h
    exact⟨a,xs,e1,SqL.ext e h2 h1,o _ _ h2 h1,aV.ext e o ds xs h3⟩
theorem aV.ext (e:Ext O H H') (o:∀b xs,¬O b→SqL K H b xs→¬O' b):∀(ds:List D) (xs:List V),aV K O H ds xs→aV K O' H' ds xs
  |[],xs,h=>by simpa only[aV] using h
  | d::ds,xs,h=>by
    simp only[aV] at h ⊢
    obtain⟨x,r,e1,h1,h2⟩:=h
    exact⟨x,r,e1,Rep.ext e o d x h1,aV.ext e o ds r h2⟩
end
end
structure fL (K:PySem.W.Frag) (O:Addr→Prop) (H:Hp) (O':Addr→Prop) (H':Hp):Prop where
  ext:Ext O H H'
  new:∀a,O' a→O a∨(H a=none∧K.lookup a=none)
  dom:∀a,H' a=none→H a=none
section
variable {K:PySem.W.Frag} {O O1 O2:Addr→Prop} {H H1 H2:Hp}
theorem Rd.some {a:Addr} {u:HO} (h:Rd H a u):H a≠none:=by
  rcases h with h |⟨o,h⟩ <;> rw[h] <;> simp
theorem fL.out (r:fL K O H O1 H1) (b:Addr) (xs:List V) (n:¬O b) (h:SqL K H b xs):¬O1 b:=fun z=>by
  rcases r.new b z with z |⟨z1,z2⟩
  · exact n z
  · rcases h with h |⟨o,_,_,h,_⟩
    · exact Rd.some h z1
    · rw[z2] at h;cases h
theorem fL.refl:fL K O H O H:=⟨⟨fun _ _ h=>h,fun _ _ _ h=>h⟩,fun _ h=> .inl h,fun _ h=>h⟩
theorem fL.trans (r:fL K O H O1 H1) (q:fL K O1 H1 O2 H2):fL K O H O2 H2 where
  ext:=⟨fun b xs h=>q.ext.tup b xs (r.ext.tup b xs h),fun b xs n h=>q.ext.lst b xs (r.out b xs n (.inl h)) (r.ext.lst b xs n h)⟩
  new:=fun a z=>(q.new a z).elim (r.new a) fun w=> .inr ⟨r.dom a w.1,w.2⟩
  dom:=fun a z=>r.dom a (q.dom a z)
theorem Same.rd (s:Same H H1) {a:Addr} {u:HO} (h:Rd H a u):Rd H1 a u:=by
  rcases h with h |⟨o,h⟩
  · exact .inl (s _ _ h)
  · exact .inr ⟨o,s _ _ h⟩
theorem Same.eY (s:Same H H1):fL K O H O H1:=⟨⟨fun _ _ h=>Same.rd s h,fun _ _ _ h=>Same.rd s h⟩,fun _ h=> .inl h,fun _ h=>s.free h⟩
theorem Rep.go (r:fL K O H O1 H1) {d:D} {v:V} (h:Rep K O H d v):Rep K O1 H1 d v:=Rep.ext r.ext r.out d v h
theorem aV.go (r:fL K O H O1 H1) {d:List D} {v:List V} (h:aV K O H d v):aV K O1 H1 d v:=aV.ext r.ext r.out d v h
theorem Rep.same (s:Same H H1) {d:D} {v:V} (h:Rep K O H d v):Rep K O H1 d v:=h.go (Same.eY s)
theorem aV.same (s:Same H H1) {d:List D} {v:List V} (h:aV K O H d v):aV K O H1 d v:=h.go (Same.eY s)
theorem Rep.fewer (w:∀a,O1 a→O a) {d:D} {v:V} (h:Rep K O H d v):Rep K O1 H d v:=Rep.ext ⟨fun _ _ h=>h,fun _ _ _ h=>h⟩ (fun b _ n _ z=>n (w b z)) d v h
theorem aV.fewer (w:∀a,O1 a→O a) {d:List D} {v:List V} (h:aV K O H d v):aV K O1 H d v:=aV.ext ⟨fun _ _ h=>h,fun _ _ _ h=>h⟩ (fun b _ n _ z=>n (w b z)) d v h
theorem aV.nil:aV K O H [] []:=by simp only[aV]
theorem aV.cons {d:D} {v:V} {ds:List D} {vs:List V} (h:Rep K O H d v) (t:aV K O H ds vs):aV K O H (d::ds) (v::vs):=by simp only[aV];exact⟨v,vs,rfl,h,t⟩
theorem aV.cons_inv {d:D} {ds:List D} {vs:List V} (h:aV K O H (d::ds) vs):∃x r,vs=x::r∧Rep K O H d x∧aV K O H ds r:=by simpa only[aV] using h
theorem aV.nil_inv {vs:List V} (h:aV K O H [] vs):vs=[]:=by simpa only[aV] using h
theorem aV.length:∀{ds:List D} {vs:List V},aV K O H ds vs→ds.length=vs.length
  |[],vs,h=>by rw[h.nil_inv];rfl
  | d::ds,vs,h=>by
    obtain⟨x,r,rfl,_,t⟩:=h.cons_inv
    simp[aV.length t]
theorem aV.get:∀{ds:List D} {vs:List V} {i:Nat} {d:D},aV K O H ds vs→ds[i]?=some d→∃v,vs[i]?=some v∧Rep K O H d v
  |[],_,_,_,_,e=>by simp at e
  | d::ds,vs,i,d',h,e=>by
    obtain⟨x,r,rfl,h1,t⟩:=h.cons_inv
    cases i with
    |zero=>simp at e;subst e;exact⟨x,rfl,h1⟩
    |succ i=>simpa using aV.get t (i:=i) (by simpa using e)
theorem aV.aj {ds:List D} {vs:List V} {i:Nat} {v:V} (h:aV K O H ds vs) (e:vs[i]?=some v):∃d,ds[i]?=some d∧Rep K O H d v:=by
  have hl:=h.length
  have hi:i < ds.length:=by rw[hl];exact (List.getElem?_eq_some_iff.mp e).1
  obtain⟨v',e',r⟩:=h.get (i:=i) (d:=ds[i]) (by simp[hi])
  rw[e] at e';cases e'
  exact⟨_,by simp[hi],r⟩
theorem aV.append:∀{ds es:List D} {vs ws:List V},aV K O H ds vs→aV K O H es ws→aV K O H (ds++es) (vs++ws)
  |[],_,vs,_,h,t=>by rw[h.nil_inv];exact t
  | d::ds,es,vs,ws,h,t=>by
    obtain⟨x,r,rfl,h1,h2⟩:=h.cons_inv
    exact .cons h1 (aV.append h2 t)
theorem aV.reverse:∀{ds:List D} {vs:List V},aV K O H ds vs→aV K O H ds.reverse vs.reverse
  |[],vs,h=>by rw[h.nil_inv];exact .nil
  | d::ds,vs,h=>by
    obtain⟨x,r,rfl,h1,h2⟩:=h.cons_inv
    simp only[List.reverse_cons]
    exact h2.reverse.append (.cons h1 .nil)
theorem aV.drop:∀{ds:List D} {vs:List V} (n:Nat),aV K O H ds vs→aV K O H (ds.drop n) (vs.drop n)
  |_,_,0,h=>h
  |[],vs,n+1,h=>by rw[h.nil_inv];exact .nil
  | d::ds,vs,n+1,h=>by
    obtain⟨x,r,rfl,h1,h2⟩:=h.cons_inv
    exact h2.drop n
theorem aV.take:∀{ds:List D} {vs:List V} (n:Nat),aV K O H ds vs→aV K O H (ds.take n) (vs.take n)
  |_,_,0,_=>by simpa using aV.nil
  |[],vs,n+1,h=>by rw[h.nil_inv];exact .nil
  | d::ds,vs,n+1,h=>by
    obtain⟨x,r,rfl,h1,h2⟩:=h.cons_inv
    exact .cons h1 (h2.take n)
theorem Rep.int {i:Int} {v:V} (h:Rep K O H (.int i) v):v= .int i:=by simpa only[Rep] using h
theorem Rep.bl {b:Bool} {v:V} (h:Rep K O H (.bl b) v):v= .bl b:=by simpa only[Rep] using h
theorem Rep.non {v:V} (h:Rep K O H .non v):v= .non:=by simpa only[Rep] using h
theorem Rep.str {x:Str} {v:V} (h:Rep K O H (.str x) v):v= .str x:=by simpa only[Rep] using h
theorem Rep.tup {ds:List D} {v:V} (h:Rep K O H (.tup ds) v):∃a xs,v= .ref a∧SqT K H a xs∧aV K O H ds xs:=by simpa only[Rep] using h
theorem Rep.lst {ds:List D} {v:V} (h:Rep K O H (.lst ds) v):∃a xs,v= .ref a∧SqL K H a xs∧¬O a∧aV K O H ds xs:=by simpa only[Rep] using h
theorem cL (i:Int):Rep K O H (.int i) (.int i):=by simp only[Rep]
theorem gW (b:Bool):Rep K O H (.bl b) (.bl b):=by simp only[Rep]
theorem TF:Rep K O H .non .non:=by simp only[Rep]
theorem abN (x:Str):Rep K O H (.str x) (.str x):=by simp only[Rep]
theorem lO {ds:List D} {a:Addr} {xs:List V} (h:SqT K H a xs) (r:aV K O H ds xs):Rep K O H (.tup ds) (.ref a):=by simp only[Rep];exact⟨a,xs,rfl,h,r⟩
theorem je {ds:List D} {a:Addr} {xs:List V} (h:SqL K H a xs) (n:¬O a) (r:aV K O H ds xs):Rep K O H (.lst ds) (.ref a):=by simp only[Rep];exact⟨a,xs,rfl,h,n,r⟩
end
inductive Ob where
  |exc (c:Str) |fn (a:Addr)
inductive Ent where
  |val (d:D) |lst (ds:List D) |Gq (kvs:List (Key×D)) |obj (t:Ob)
noncomputable def Ent.own:Ent→Bool
  | .val _=>false
  | .obj _=>false
  |_=>true
noncomputable def Ent.Ly:Ent→Bool
  | .val _=>true
  |_=>false
theorem abO {e:Ent} (h:e.Ly=true):e.own=false:=by cases e <;> first |rfl |cases h
noncomputable abbrev aq:=List (Option Ent)
noncomputable def aeD (K:PySem.W.Frag) (O:Addr→Prop) (H:Hp) (kvs:List (Key×D)) (ys:List (Key×V)):Prop:=kvs.map (·.1)=ys.map (·.1)∧aV K O H (kvs.map (·.2)) (ys.map (·.2))
noncomputable def uO (K:PySem.W.Frag) (H:Hp):Ob→V→Prop
  | .exc c,v=>∃a o C,v= .ref a∧H a=some (.frz o (.own a))∧o.cls= .ref C∧o.dict=none∧(∃vs,o.data= .fields vs)∧PySem.W.nsIn K mainGlobals c=some (some (.ref C))
  | .fn a,v=>v= .ref a∧∃o fd,H a=some (.frz o (.own a))∧o.data= .func fd
noncomputable def xu (K:PySem.W.Frag) (O:Addr→Prop) (H:Hp):Ent→V→Prop
  | .val d,v=>Rep K O H d v
  | .lst ds,v=>∃a xs,v= .ref a∧O a∧H a=some (.lst xs)∧aV K O H ds xs
  | .Gq kvs,v=>∃a ys,v= .ref a∧O a∧H a=some (.dK ys)∧aeD K O H kvs ys
  | .obj t,v=>uO K H t v
structure Env (K:PySem.W.Frag) (O:Addr→Prop) (H:Hp) (ρ:aq) (σ:St):Prop where
  get:∀(i:Nat) e,ρ[i]?=some (some e)→∃v,σ[i]?=some (some v)∧xu K O H e v
  sep:∀(i j:Nat) e e' v,i≠j→ρ[i]?=some (some e)→ρ[j]?=some (some e')→e.own=true→e'.own=true→σ[i]?=some (some v)→σ[j]?=some (some v)→False
structure In (X:Cx) (O:Addr→Prop) (H:Hp) (ρ:aq) (σ:St):Prop where
  env:Env X.K O H ρ σ
  al:∀a,O a→∃o,H a=some o
  len:σ.length=X.N.length
  pF:ρ.length=X.N.length
section
variable {X:Cx} {O:Addr→Prop} {H H1:Hp} {ρ:aq} {σ:St} {K:PySem.W.Frag}
theorem uO.fz (s:∀b o u,H b=some (.frz o u)→H1 b=some (.frz o u)):∀{t:Ob} {v:V},uO K H t v→uO K H1 t v
  | .exc _,_,z=>by
    obtain⟨a,o,C,e,h,q,n⟩:=z
    exact⟨a,o,C,e,s _ _ _ h,q,n⟩
  | .fn _,_,z=>by
    obtain⟨e,o,fd,h,q⟩:=z
    exact⟨e,o,fd,s _ _ _ h,q⟩
theorem uO.same (s:Same H H1) {t:Ob} {v:V} (h:uO K H t v):uO K H1 t v:=h.fz fun _ _ _ q=>s _ _ q
theorem xu.same (s:Same H H1):∀{e:Ent} {v:V},xu K O H e v→xu K O H1 e v
  | .val d,v,h=>Rep.same s h
  | .lst ds,v,z=>by
    obtain⟨a,xs,e,o,h,r⟩:=z
    exact⟨a,xs,e,o,s _ _ h,r.same s⟩
  | .Gq kvs,v,z=>by
    obtain⟨a,xs,e,o,h,k,r⟩:=z
    exact⟨a,xs,e,o,s _ _ h,k,r.same s⟩
  | .obj t,v,h=>uO.same s h
theorem In.same (i:In X O H ρ σ) (s:Same H H1):In X O H1 ρ σ:=
  ⟨⟨fun j e h=>let ⟨v,h1,h2⟩:=i.env.get j e h;⟨v,h1,h2.same s⟩,i.env.sep⟩,fun a h=>let ⟨o,q⟩:=i.al a h;⟨o,s _ _ q⟩,i.len,i.pF⟩
end
noncomputable def Exc (h:Heap) (e C:Addr) (T:Option Addr):Prop:=∃(oe:Obj) (vs:Array Value),h.get? e=some oe∧oe.cls= .ref C∧oe.dict=none∧oe.data= .fields vs∧match T with
  |none=>vs[1]?=some Value.none
  |some t=>vs[1]?=some (.ref t)∧t≠e∧∃(ot:Obj) (ts:Array Value),h.get? t=some ot∧ot.data= .fields ts∧ts[3]?=some Value.none
structure Rsd (P:Program) (w:World) (fs:List Addr) (H:Hp) (s:Shared) (a C:Addr) (T:Option Addr) (s':Shared) (H':Hp):Prop where
  same:Same H H'
  un:Un fs [] H H' s.heap s'.heap
  hok:HOk P w H' s'.heap
  os:s'.os=s.os
  bare:AllBare s'.gens
  exc:Exc s'.heap a C T
  na:s.heap.get? a=none
  ha:H' a=none
  nt:∀t,T=some t→s.heap.get? t=none∧H' t=none
noncomputable def J2 (X:Cx) (c:Str) (σ:St) (H:Hp):Prop:=∀(H1:Hp) (pins:List (Addr×Obj)) (s:Shared) (a C:Addr) (T:Option Addr) (s':Shared) (H':Hp),Same H H1→Inv X pins σ H1 s→
  PySem.W.nsIn X.K mainGlobals c=some (some (.ref C))→Rsd X.prog X.w (frs X.stack) H1 s a C T s' H'→X.xe (.ref a) s'
theorem J2.same {X:Cx} {c:Str} {σ:St} {H H1:Hp} (h:J2 X c σ H) (s:Same H H1):J2 X c σ H1:=fun H2 pins s0 a C T s' H' s2=>h H2 pins s0 a C T s' H' (s.trans s2)
noncomputable def good {α β:Type} (X:Cx) (Rl:(Addr→Prop)→Hp→α→β→Prop) (O:Addr→Prop) (r:R α) (σ:St) (H:Hp) (Q:β→Hp→Prop):Prop:=match r with
  | .ok a=>∀b H',Same H H'→Rl O H' a b→Q b H'
  | .err c=>J2 X c σ H
  | .bad=>False
theorem good.same {α β:Type} {X:Cx} {Rl:(Addr→Prop)→Hp→α→β→Prop} {O:Addr→Prop} {r:R α} {σ:St} {H H1:Hp} {Q:β→Hp→Prop} (h:good X Rl O r σ H Q) (s:Same H H1):good X Rl O r σ H1 Q:=by
  cases r with
  |ok a=>exact fun b H' s' q=>h b H' (s.trans s') q
  |err c=>exact J2.same (show J2 X c σ H from h) s
  |bad=>exact h
inductive TGd {α β:Type} (X:Cx) (Rl:(Addr→Prop)→Hp→α→β→Prop) (f:aq→R α) (σ:St) (H:Hp) (Q:β→Hp→Prop):Prop
  |mk (ρ:aq) (O:Addr→Prop) (j:In X O H ρ σ) (g:good X Rl O (f ρ) σ H Q):TGd X Rl f σ H Q
noncomputable def tG {α β:Type} (X:Cx) (Rl:(Addr→Prop)→Hp→α→β→Prop) (f:aq→R α):St→Hp→(β→Hp→Prop)→Prop:=fun σ H Q=>TGd X Rl f σ H Q
noncomputable abbrev rB:(Addr→Prop)→Hp→Bool→Bool→Prop:=fun _ _ a b=>a=b
noncomputable abbrev rD (X:Cx):(Addr→Prop)→Hp→D→V→Prop:=fun O H d v=>Rep X.K O H d v
noncomputable abbrev rDs (X:Cx):(Addr→Prop)→Hp→List D→List V→Prop:=fun O H d v=>aV X.K O H d v
noncomputable def DE (X:Cx) (e:Expr) (f:aq→R D):Prop:=PE X e (tG X (rD X) f)
noncomputable def DT (X:Cx) (e:Expr) (f:aq→R Bool):Prop:=PT X e (tG X rB f)
noncomputable def DW (X:Cx) (e:Expr) (f:aq→R Bool):Prop:=PW X e (tG X rB f)
noncomputable def DA (X:Cx) (es:List Expr) (f:aq→R (List D)):Prop:=PA X es (tG X (rDs X) f)
theorem PE.imp {X:Cx} {e:Expr} {t t':TE} (h:PE X e t) (w:∀σ H Q,t' σ H Q→t σ H Q):PE X e t':=fun pins s σ H Q I q=>h pins s σ H Q I (w σ H Q q)
theorem PT.imp {X:Cx} {e:Expr} {t t':TT} (h:PT X e t) (w:∀σ H Q,t' σ H Q→t σ H Q):PT X e t':=fun pins s σ H Q I q=>h pins s σ H Q I (w σ H Q q)
theorem PW.imp {X:Cx} {e:Expr} {t t':TT} (h:PW X e t) (w:∀σ H Q,t' σ H Q→t σ H Q):PW X e t':=fun wh pins s σ H Q I q=>h wh pins s σ H Q I (w σ H Q q)
theorem PA.imp {X:Cx} {e:List Expr} {t t':TA} (h:PA X e t) (w:∀σ H Q,t' σ H Q→t σ H Q):PA X e t':=fun pos pins s σ H Q I q=>h pos pins s σ H Q I (w σ H Q q)
section
variable {X:Cx} {O:Addr→Prop} {H:Hp} {ρ:aq} {σ:St}
theorem go {α β γ δ:Type} {Rl:(Addr→Prop)→Hp→α→β→Prop} {Rm:(Addr→Prop)→Hp→γ→δ→Prop} {f:aq→R α} {g:α→R γ} {Q:δ→Hp→Prop} {Q':β→Hp→Prop}
    (i:In X O H ρ σ) (h:good X Rm O ((f ρ).bind g) σ H Q)
    (k:∀a b H1,f ρ= .ok a→Same H H1→Rl O H1 a b→In X O H1 ρ σ→good X Rm O (g a) σ H1 Q→Q' b H1):tG X Rl f σ H Q':=by
  refine⟨ρ,O,i,?_⟩
  cases e:f ρ with
  |ok a=>rw[e] at h;exact fun b H1 s r=>k a b H1 e s r (i.same s) (good.same h s)
  |err c=>rw[e] at h;exact h
  |bad=>rw[e] at h;exact h
theorem fin {α β:Type} {Rl:(Addr→Prop)→Hp→α→β→Prop} {a:α} {b:β} {Q:β→Hp→Prop} (h:good X Rl O (.ok a) σ H Q) (r:Rl O H a b):Q b H:=h b H (Same.refl H) r
end
end Pu
namespace Pu
open PySem PySem.Spec L2
open PyProof.Rows hiding St
theorem Same.upd {H:Hp} {p:Addr} {o:HO} (h:H p=none):Same H (L2.upd H p o):=fun b u e=>by
  rw[upd_ne (ne_of_none e h)];exact e
theorem Rep.rK {X:Cx} {O:Addr→Prop} {H:Hp} {p:Addr} {ds:List D} {xs:List V} (h:H p=none) (r:aV X.K O H ds xs):Rep X.K O (upd H p (.tup xs)) (.tup ds) (.ref p):=
  lO (SqT.of upd_same) (r.same (Same.upd h))
theorem In.pG {X:Cx} {O:Addr→Prop} {H:Hp} {ρ:aq} {σ:St} (i:In X O H ρ σ) {p:Addr} (h:H p=none):¬O p:=fun z=>by
  obtain⟨o,e⟩:=i.al p z
  rw[h] at e;cases e
theorem Rep.nO {X:Cx} {O:Addr→Prop} {H:Hp} {p:Addr} {ds:List D} {xs:List V} (h:H p=none) (n:¬O p) (r:aV X.K O H ds xs):Rep X.K O (upd H p (.lst xs)) (.lst ds) (.ref p):=
  je (SqL.of upd_same) n (r.same (Same.upd h))
section
variable {X:Cx} {a b c:Expr} {f g h:aq→R D} {pos:Pos}
noncomputable def aj (ρ:aq) (i:Nat):R D:=match ρ[i]? with
  |some (some (.val d))=> .ok d
  |_=> .bad
theorem dv (i:Nat) {x:Str} {pos:Pos} (hN:X.N[i]?=some x:=by rfl) (hv:Vis X.env.scope x:=by first |exact Or.inl rfl |exact Or.inr (Or.inl rfl) |exact Or.inr (Or.inr rfl)) (hd:(x ==("__debug__" :Str))=false:=by decide) (hcd:(x ==("__classdict__" :Str))=false:=by decide):
    DE X (.Name x pos) (fun ρ=>aj ρ i):=by
  refine PE.imp (pe_var hN hv hd hcd) fun σ H Q h=>?_
  obtain⟨ρ,O,j,h⟩:=h
  have h:good X (rD X) O (aj ρ i) σ H Q:=h
  unfold aj at h
  split at h
  · rename_i d e
    obtain⟨v,e1,r⟩:=j.env.get i _ e
    exact⟨v,e1,fin h r⟩
  · exact h.elim
theorem Lz {e:Expr} {d:D} {v:V} (h:PE X e (tC v)) (r:∀O H,Rep X.K O H d v):DE X e (fun _=> .ok d):=PE.imp h fun σ H Q h=>by
  obtain⟨ρ,O,j,h⟩:=h
  exact fin h (r O H)
theorem aH {i:Int} {j pos}:DE X (.Constant (.int i) j pos) (fun _=> .ok (.int i)):=Lz pe_int fun _ _=>cL i
theorem kY {i:Bool} {j pos}:DE X (.Constant (.bool i) j pos) (fun _=> .ok (.bl i)):=Lz pe_bl fun _ _=>gW i
theorem rY {j pos}:DE X (.Constant .none j pos) (fun _=> .ok .non):=Lz pe_non fun _ _=>TF
theorem Xq {x:Str} {j pos}:DE X (.Constant (.str x) j pos) (fun _=> .ok (.str x)):=Lz pe_str fun _ _=>abN x
theorem jB {x:Str} {i:Int} {t:Tok} {pos:Pos} (hg:Gl X x) (hm:X.mg x=some (.int i t)) (hd:(x ==("__debug__" :Str))=false:=by decide):DE X (.Name x pos) (fun _=> .ok (.int i)):=
  Lz (pe_glob (v:= .int i) hg hm ⟨t,rfl⟩ hd) fun _ _=>cL i
noncomputable def jC (X:Cx) (o:Value→Value→Sem Value) (k:D→D→R D):Prop:=∃r:R2,OpR X o r∧
  ∀(ρ:aq) (O:Addr→Prop) (σ:St) (H:Hp) (Q:VK) (x y:V) (dx dy:D),In X O H ρ σ→Rep X.K O H dx x→Rep X.K O H dy y→good X (rD X) O (k dx dy) σ H Q→r x y H Q
noncomputable def bin (f g:aq→R D) (k:D→D→R D):aq→R D:=fun ρ=>(f ρ).bind fun x=>(g ρ).bind fun y=>k x y
theorem Gr {r:R2} {k:D→D→R D} {σ:St} {H:Hp} {Q:VK}
    (hr:∀(ρ:aq) (O:Addr→Prop) (σ:St) (H:Hp) (Q:VK) (x y:V) (dx dy:D),In X O H ρ σ→Rep X.K O H dx x→Rep X.K O H dy y→good X (rD X) O (k dx dy) σ H Q→r x y H Q)
    (h:tG X (rD X) (bin f g k) σ H Q):tOp r (tG X (rD X) f) (tG X (rD X) g) σ H Q:=by
  obtain⟨ρ,O,j,h⟩:=h
  refine go j h fun dx x H1 e1 s1 r1 j1 h1=>?_
  exact go j1 h1 fun dy y H2 e2 s2 r2 j2 h2=>hr ρ O σ H2 Q x y dx dy j2 (r1.same s2) r2 h2
theorem aR {op:Operator} {k:D→D→R D} (ho:jC X (binaryOp op) k) (ha:DE X a f) (hb:DE X b g):DE X (.BinOp a op b pos) (bin f g k):=by
  obtain⟨r,ho,hr⟩:=ho
  exact PE.imp (pe_op ho ha hb) fun σ H Q h=>Gr hr h
theorem qK {op:CmpOp} {k:D→D→R D} (ho:jC X (compareOp op) k) (ha:DE X a f) (hb:DE X b g) (hm:behindInMarks op b=false:=by exact nomark _):DE X (.Compare a [op] [b] pos) (bin f g k):=by
  obtain⟨r,ho,hr⟩:=ho
  exact PE.imp (pe_cmpR ho ha hb hm) fun σ H Q h=>Gr hr h
noncomputable def asB:D→R Bool
  | .bl b=> .ok b
  |_=> .bad
noncomputable def bL (f:aq→R D):aq→R Bool:=fun ρ=>(f ρ).bind asB
theorem Ed {t:TE} {k:aq→R D} {σ:St} {H:Hp} {Q:Bool→Hp→Prop} (w:∀Q,tG X (rD X) k σ H Q→t σ H Q) (h:tG X rB (bL k) σ H Q):tTest t σ H Q:=by
  refine w _ ?_
  obtain⟨ρ,O,j,h⟩:=h
  refine go j h fun d x H1 e1 s1 r1 j1 h1=>?_
  cases d with
  |bl b=>exact⟨b,r1.bl,fin h1 rfl⟩
  |_=>exact h1.elim
theorem cH {op:CmpOp} {k:D→D→R D} (ho:jC X (compareOp op) k) (ha:DE X a f) (hb:DE X b g) (hm:behindInMarks op b=false:=by exact nomark _):DT X (.Compare a [op] [b] pos) (bL (bin f g k)):=by
  obtain⟨r,ho,hr⟩:=ho
  exact PT.imp (pt_cmpR ho ha hb hm) fun σ H Q h=>Ed (fun Q h=>Gr hr h) h
theorem mD {e:Expr} (h:DE X e f) (he:∀whole,isTrue e X.env whole=(do let v ←whole;standAt e.pos;holding [v] (truthy v)):=by intro _;rfl):DT X e (bL f):=
  PT.imp (pt_val h he) fun σ H Q h=>Ed (t:=tG X (rD X) f) (fun Q h=>h) h
noncomputable def iD (k:Int→Int→R D):D→D→R D
  | .int i,.int j=>k i j
  |_,_=> .bad
theorem Cp {o:Value→Value→Sem Value} {C:Int→Int→Prop} {g:Int→Int→V} {k:Int→Int→R D} (ho:OpR X o (rI C g)) (hk:∀i j,k i j= .bad∨∃d,k i j= .ok d∧C i j∧∀K O H,Rep K O H d (g i j)):jC X o (iD k):=by
  refine⟨_,ho,fun ρ O σ H Q x y dx dy j0 rx ry h=>?_⟩
  cases dx <;> cases dy <;> first
    |exact h.elim
    |skip
  rename_i i j
  rcases hk i j with e |⟨d,e,c,r⟩
  · have h':good X (rD X) O (k i j) σ H Q:=h
    rw[e] at h';exact h'.elim
  · have h':good X (rD X) O (k i j) σ H Q:=h
    rw[e] at h'
    exact⟨i,j,rx.int,ry.int,c,fin h' (r _ _ _)⟩
theorem rZ {o:Value→Value→Sem Value} {g:Int→Int→V} {k:Int→Int→R D} (ho:OpR X o (rI0 g)) (hk:∀i j,∃d,k i j= .ok d∧∀K O H,Rep K O H d (g i j)):jC X o (iD k):=by
  refine⟨_,ho,fun ρ O σ H Q x y dx dy j0 rx ry h=>?_⟩
  cases dx <;> cases dy <;> first
    |exact h.elim
    |skip
  rename_i i j
  obtain⟨d,e,r⟩:=hk i j
  have h':good X (rD X) O (k i j) σ H Q:=h
  rw[e] at h'
  exact⟨i,j,rx.int,ry.int,fin h' (r _ _ _)⟩
noncomputable def dZ:D→D→R D:=iD fun i j=> .ok (.int (i - j))
noncomputable def gR:D→D→R D:=iD fun i j=>if (-(2 ^ 64) < i∧i < 2 ^ 64)∨(-(2 ^ 64) < j∧j < 2 ^ 64) then .ok (.int (i*j)) else .bad
noncomputable def eX:D→D→R D:=iD fun i j=>if 0 < j∧j < 2 ^ 64 then .ok (.int (i / j)) else .bad
noncomputable def fV:D→D→R D:=iD fun i j=>if 0 < j then .ok (.int (i % j)) else .bad
noncomputable def uP:D→D→R D:=iD fun i j=>if 0≤j∧j≤1000000∧i.natAbs < 2 ^ 64 then .ok (.int (i ^ j.toNat)) else .bad
noncomputable def ltI:D→D→R D:=iD fun i j=> .ok (.bl (decide (i < j)))
noncomputable def Dl:D→D→R D:=iD fun i j=> .ok (.bl (decide (i≤j)))
noncomputable def nP:D→D→R D:=iD fun i j=> .ok (.bl (decide (j < i)))
noncomputable def LC:D→D→R D:=iD fun i j=> .ok (.bl (decide (j≤i)))
theorem dh:jC X (binaryOp .Sub) dZ:=rZ op_sub fun i j=>⟨_,rfl,fun _ _ _=>cL _⟩
theorem qH:jC X (compareOp .Lt) ltI:=rZ op_lt fun i j=>⟨_,rfl,fun _ _ _=>gW _⟩
theorem um:jC X (compareOp .LtE) Dl:=rZ op_le fun i j=>⟨_,rfl,fun _ _ _=>gW _⟩
theorem xG:jC X (compareOp .Gt) nP:=rZ op_gt fun i j=>⟨_,rfl,fun _ _ _=>gW _⟩
theorem abr:jC X (compareOp .GtE) LC:=rZ op_ge fun i j=>⟨_,rfl,fun _ _ _=>gW _⟩
theorem Cq {c:Prop} [Decidable c] (d:D) {P:D→Prop} (hP:c→P d):(if c then R.ok d else R.bad)=R.bad∨∃d',(if c then R.ok d else R.bad)=R.ok d'∧c∧P d':=by
  by_cases h:c
  · exact .inr ⟨d,by rw[if_pos h],h,hP h⟩
  · exact .inl (by rw[if_neg h])
theorem qL:jC X (binaryOp .Mult) gR:=Cp op_mul fun i j=>Cq (.int (i*j)) (P:=fun d=>∀K O H,Rep K O H d (.int (i*j))) fun _ _ _ _=>cL _
theorem Xr {j:Int} (h0:0 < j) (h:j < 2 ^ 64):j.natAbs.log2 < 9000:=by
  have h1:j.natAbs≠0:=by omega
  have h2:j.natAbs < 2 ^ 64:=by omega
  have h3:j.natAbs.log2 < 64:=(Nat.log2_lt h1).mpr h2
  omega
theorem aau:OpR X (binaryOp .FloorDiv) (rI (fun _ j=>0 < j∧j < 2 ^ 64) fun i j=> .int (i / j)):=opI fun i j _ _ _ _ _ hc q=>by
  refine floordiv_int (by have:=hc.1;omega) ?_ (.inl (PyProof.noPylong_of_log2 (Xr hc.1 hc.2)))
  rw[Int.fdiv_eq_ediv_of_nonneg _ (by have:=hc.1;omega)]
  exact q
theorem lq:jC X (binaryOp .FloorDiv) eX:=Cp aau fun i j=>Cq (.int (i / j)) (P:=fun d=>∀K O H,Rep K O H d (.int (i / j))) fun _ _ _ _=>cL _
theorem oh:jC X (binaryOp .Mod) fV:=Cp op_mod fun i j=>Cq (.int (i % j)) (P:=fun d=>∀K O H,Rep K O H d (.int (i % j))) fun _ _ _ _=>cL _
theorem Xu:jC X (binaryOp .Pow) uP:=Cp op_pow fun i j=>Cq (.int (i ^ j.toNat)) (P:=fun d=>∀K O H,Rep K O H d (.int (i ^ j.toNat))) fun _ _ _ _=>cL _
noncomputable def Gs (f g h:aq→R D) (k l:D→D→R D):aq→R D:=fun ρ=>(f ρ).bind fun x=>(g ρ).bind fun y=>(k x y).bind fun z=>match z with
  | .bl true=>(h ρ).bind fun w=>l y w
  | .bl false=> .ok (.bl false)
  |_=> .bad
noncomputable def zJ (f g:aq→R D):aq→R D:=fun ρ=>(f ρ).bind fun x=>match x with
  | .bl true=>g ρ
  | .bl false=> .ok (.bl false)
  |_=> .bad
noncomputable def Jo (f:aq→R D):aq→R D:=fun ρ=>(f ρ).bind fun x=>match x with
  | .bl b=> .ok (.bl (!b))
  |_=> .bad
variable {rest:List Expr}
theorem zK {op} (h:DE X a f):DE X (.BoolOp op [a] pos) f:=pe_one h
theorem zL (ha:DE X a f) (hb:DE X (.BoolOp .And (b::rest) pos) g):DE X (.BoolOp .And (a::b::rest) pos) (zJ f g):=by
  refine PE.imp (pe_and ha hb) fun σ H Q h=>?_
  obtain⟨ρ,O,j,h⟩:=h
  refine go j h fun d x H1 e1 s1 r1 j1 h1=>?_
  cases d with
  | bl k=>
    cases k with
    |true=>exact⟨true,r1.bl,by rw[if_pos rfl];exact⟨ρ,O,j1,h1⟩⟩
    |false=>exact⟨false,r1.bl,by rw[if_neg Bool.false_ne_true];exact fin h1 (gW _)⟩
  |_=>exact h1.elim
theorem Xv (ha:DE X a f):DE X (.UnaryOp .Not a pos) (Jo f):=by
  refine PE.imp (pe_not ha) fun σ H Q h=>?_
  obtain⟨ρ,O,j,h⟩:=h
  refine go j h fun d x H1 e1 s1 r1 j1 h1=>?_
  cases d with
  |bl k=>exact⟨k,r1.bl,fin h1 (gW _)⟩
  |_=>exact h1.elim
noncomputable def ou (f g:aq→R Bool):aq→R Bool:=fun ρ=>(f ρ).bind fun x=>if x=true then g ρ else .ok false
noncomputable def uo (f g:aq→R Bool):aq→R Bool:=fun ρ=>(f ρ).bind fun x=>if x=true then .ok true else g ρ
noncomputable def m8 (f:aq→R Bool):aq→R Bool:=fun ρ=>(f ρ).bind fun x=> .ok (!x)
variable {p q:aq→R Bool}
theorem Jp (ha:DT X a p):DW X (.BoolOp .And [a] pos) p:=pw_and1 ha
theorem su (ha:DT X a p):DW X (.BoolOp .Or [a] pos) p:=pw_or1 ha
theorem LK (ha:DT X a p) (hb:DW X (.BoolOp .And (b::rest) pos) q):DW X (.BoolOp .And (a::b::rest) pos) (ou p q):=by
  refine PW.imp (pw_and ha hb) fun σ H Q h=>?_
  obtain⟨ρ,O,j,h⟩:=h
  refine go j h fun d x H1 e1 s1 r1 j1 h1=>?_
  subst r1
  cases d with
  |true=>rw[if_pos rfl] at h1 ⊢;exact⟨ρ,O,j1,h1⟩
  |false=>rw[if_neg Bool.false_ne_true] at h1 ⊢;exact fin h1 rfl
theorem xH (ha:DT X a p) (hb:DW X (.BoolOp .Or (b::rest) pos) q):DW X (.BoolOp .Or (a::b::rest) pos) (uo p q):=by
  refine PW.imp (pw_or ha hb) fun σ H Q h=>?_
  obtain⟨ρ,O,j,h⟩:=h
  refine go j h fun d x H1 e1 s1 r1 j1 h1=>?_
  subst r1
  cases d with
  |true=>rw[if_pos rfl] at h1 ⊢;exact fin h1 rfl
  |false=>rw[if_neg Bool.false_ne_true] at h1 ⊢;exact⟨ρ,O,j1,h1⟩
theorem DW.dt {e:Expr} (h:DW X e p):DT X e p:=h _
theorem oA (ha:DT X a p):DT X (.UnaryOp .Not a pos) (m8 p):=by
  refine PT.imp (pt_not ha) fun σ H Q h=>?_
  obtain⟨ρ,O,j,h⟩:=h
  refine go j h fun d x H1 e1 s1 r1 j1 h1=>?_
  subst r1
  exact fin h1 rfl
noncomputable def TJ (c:aq→R Bool) (f g:aq→R D):aq→R D:=fun ρ=>(c ρ).bind fun x=>if x=true then f ρ else g ρ
theorem aeE (hc:DT X c p) (ha:DE X a f) (hb:DE X b g):DE X (.IfExp c a b pos) (TJ p f g):=by
  refine PE.imp (pe_ifExp hc ha hb) fun σ H Q h=>?_
  obtain⟨ρ,O,j,h⟩:=h
  refine go j h fun d x H1 e1 s1 r1 j1 h1=>?_
  subst r1
  cases d with
  |true=>rw[if_pos rfl] at h1 ⊢;exact⟨ρ,O,j1,h1⟩
  |false=>rw[if_neg Bool.false_ne_true] at h1 ⊢;exact⟨ρ,O,j1,h1⟩
noncomputable def ao (f:aq→R D) (g:aq→R (List D)):aq→R (List D):=fun ρ=>(f ρ).bind fun x=>(g ρ).bind fun xs=> .ok (x::xs)
variable {es:List Expr} {fa:aq→R (List D)}
theorem aA:DA X [] (fun _=> .ok []):=PA.imp pa_nil fun σ H Q h=>by
  obtain⟨ρ,O,j,h⟩:=h
  exact fin h .nil
theorem ak (ha:DE X a f) (hr:DA X es fa) (hs:starEach (a::es) X.env=(false,eval a X.env)::starEach es X.env:=by rfl):DA X (a::es) (ao f fa):=by
  refine PA.imp (pa_cons ha hr hs) fun σ H Q h=>?_
  obtain⟨ρ,O,j,h⟩:=h
  refine go j h fun d x H1 e1 s1 r1 j1 h1=>?_
  exact go j1 h1 fun ds xs H2 e2 s2 r2 j2 h2=>fin h2 (.cons (r1.same s2) r2)
noncomputable def cap (k:List D→D) (ds:List D):R D:=if ds.length≤1000000 then .ok (k ds) else .bad
theorem eE:1000000≤sizeLine:=by rw[sizeLine_eq];decide
noncomputable def m9 (fa:aq→R (List D)):aq→R D:=fun ρ=>(fa ρ).bind (cap .tup)
noncomputable def kO (fa:aq→R (List D)):aq→R D:=fun ρ=>(fa ρ).bind (cap .lst)
theorem lu {x1} (h:DA X es fa):DE X (.Tuple es x1 pos) (m9 fa):=by
  refine PE.imp (pe_tup h) fun σ H Q h=>?_
  obtain⟨ρ,O,j,h⟩:=h
  refine go j h fun ds xs H1 e1 s1 r1 j1 h1=>?_
  unfold cap at h1
  split at h1
  · rename_i hl
    exact⟨by rw[←r1.length];exact Nat.le_trans hl eE,fun p hp=>h1 _ _ (Same.upd hp) (Rep.rK hp r1)⟩
  · exact h1.elim
theorem jX (h:DA X es fa):DE X (.List es pos) (kO fa):=by
  refine PE.imp (pe_lst h) fun σ H Q h=>?_
  obtain⟨ρ,O,j,h⟩:=h
  refine go j h fun ds xs H1 e1 s1 r1 j1 h1=>?_
  unfold cap at h1
  split at h1
  · rename_i hl
    exact⟨by rw[←r1.length];exact Nat.le_trans hl eE,fun p hp=>h1 _ _ (Same.upd hp) (Rep.nO hp (j1.pG hp) r1)⟩
  · exact h1.elim
noncomputable def bQ:D→D→R D
  | .tup ds,.int i=>match atI ds i with |some d=> .ok d |none=> .bad
  | .lst ds,.int i=>match atI ds i with |some d=> .ok d |none=> .bad
  |_,_=> .bad
theorem aV.atI {K:PySem.W.Frag} {O:Addr→Prop} {H:Hp} {ds:List D} {vs:List V} {i:Int} {d:D} (r:aV K O H ds vs) (e:atI ds i=some d):∃v,atI vs i=some v∧Rep K O H d v:=by
  unfold L2.atI at e ⊢
  rw[r.length] at e
  cases q:ixN vs.length i with
  |none=>rw[q] at e;cases e
  | some k=>
    rw[q] at e
    obtain⟨v,h1,h2⟩:=r.get (i:=k) (d:=d) e
    exact⟨v,h1,h2⟩
theorem bV (ha:DE X a f) (hb:DE X b g) (hs:PlainIx b:=by exact fun _ _=>rfl):DE X (.Subscript a b pos) (bin f g bQ):=by
  refine PE.imp (pe_ix ix_seq ha hb hs) fun σ H Q h=>Gr (fun ρ O σ H Q x y dx dy j0 rx ry h=>?_) h
  cases dx <;> cases dy <;> first
    |exact h.elim
    |skip
  · rename_i ds i
    obtain⟨p,xs,rfl,hq,r⟩:=rx.tup
    have h':good X (rD X) O (match L2.atI ds i with |some d=>R.ok d |none=>R.bad) σ H Q:=h
    cases e:L2.atI ds i with
    |none=>rw[e] at h';exact h'.elim
    | some d=>
      rw[e] at h'
      obtain⟨v,e1,rv⟩:=r.atI e
      exact .inr (.inl ⟨p,xs,i,v,rfl,ry.int,hq,e1,fin h' rv⟩)
  · rename_i ds i
    obtain⟨p,xs,rfl,hq,_,r⟩:=rx.lst
    have h':good X (rD X) O (match L2.atI ds i with |some d=>R.ok d |none=>R.bad) σ H Q:=h
    cases e:L2.atI ds i with
    |none=>rw[e] at h';exact h'.elim
    | some d=>
      rw[e] at h'
      obtain⟨v,e1,rv⟩:=r.atI e
      exact .inl ⟨p,xs,i,v,rfl,ry.int,hq,e1,fin h' rv⟩
noncomputable def CallD (X:Cx) (u:Value) (k:List D→R D):Prop:=∃r:List V→Hp→VK→Prop,CallR X u r∧
  ∀(ρ:aq) (O:Addr→Prop) (σ:St) (H:Hp) (Q:VK) (xs:List V) (ds:List D),In X O H ρ σ→aV X.K O H ds xs→good X (rD X) O (k ds) σ H Q→r xs H Q
noncomputable def aD (k:List D→R D) (fa:aq→R (List D)):aq→R D:=fun ρ=>(fa ρ).bind k
variable {x:Str} {pp:Pos} {k:List D→R D} {id T:String}
theorem aX (hc:CallD X (.builtin id) k) (hg:Gl X x) (hm:X.mg x=none) (hv:bootBuiltins x=some (.builtin id)) (ha:DA X (a::es) fa) (hn:x≠"__name__" :=by decide) (hdb:(x ==("__debug__" :Str))=false:=by decide)
    (he:starEach (a::es) X.env=(false,eval a X.env)::starEach es X.env:=by rfl) (hpl:(backTo pos (starEach es X.env)).any (·.1)=false:=by rfl):DE X (.Call (.Name x pp) (a::es) [] pos) (aD k fa):=by
  obtain⟨r,hc,hr⟩:=hc
  refine PE.imp (pe_callB hc hg hm hv ha hn hdb he hpl) fun σ H Q h=>?_
  obtain⟨ρ,O,j,h⟩:=h
  exact go j h fun ds xs H1 e1 s1 r1 j1 h1=>hr ρ O σ H1 Q xs ds j1 r1 h1
theorem gU (hc:CallD X (.type T) k) (hg:Gl X x) (hm:X.mg x=none) (hv:bootBuiltins x=some (.type T)) (ha:DA X (a::es) fa) (hn:x≠"__name__" :=by decide) (hdb:(x ==("__debug__" :Str))=false:=by decide)
    (he:starEach (a::es) X.env=(false,eval a X.env)::starEach es X.env:=by rfl) (hpl:(backTo pos (starEach es X.env)).any (·.1)=false:=by rfl):DE X (.Call (.Name x pp) (a::es) [] pos) (aD k fa):=by
  obtain⟨r,hc,hr⟩:=hc
  refine PE.imp (pe_callTy hc hg hm hv ha hn hdb he hpl) fun σ H Q h=>?_
  obtain⟨ρ,O,j,h⟩:=h
  exact go j h fun ds xs H1 e1 s1 r1 j1 h1=>hr ρ O σ H1 Q xs ds j1 r1 h1
end
end Pu
namespace Pu
open PySem PySem.Spec L2
open PyProof.Rows hiding St
section
variable {X:Cx} {a b c:Expr} {f g h:aq→R D} {pos:Pos}
theorem J3 {r r':R2} {k l:D→D→R D} {σ:St} {H:Hp} {Q:VK}
    (hr:∀(ρ:aq) (O:Addr→Prop) (σ:St) (H:Hp) (Q:VK) (x y:V) (dx dy:D),In X O H ρ σ→Rep X.K O H dx x→Rep X.K O H dy y→good X (rD X) O (k dx dy) σ H Q→r x y H Q)
    (hl:∀(ρ:aq) (O:Addr→Prop) (σ:St) (H:Hp) (Q:VK) (x y:V) (dx dy:D),In X O H ρ σ→Rep X.K O H dx x→Rep X.K O H dy y→good X (rD X) O (l dx dy) σ H Q→r' x y H Q)
    (q:tG X (rD X) (Gs f g h k l) σ H Q):tChain r r' (tG X (rD X) f) (tG X (rD X) g) (tG X (rD X) h) σ H Q:=by
  obtain⟨ρ,O,j,q⟩:=q
  refine go j q fun dx x H1 e1 s1 r1 j1 h1=>?_
  refine go j1 h1 fun dy y H2 e2 s2 r2 j2 h2=>?_
  have r1':=r1.same s2
  cases e3:k dx dy with
  |bad=>rw[e3] at h2;exact h2.elim
  |err n=>rw[e3] at h2;exact hr ρ O σ H2 _ x y dx dy j2 r1' r2 (by rw[e3];exact h2)
  | ok z=>
    rw[e3] at h2
    refine hr ρ O σ H2 _ x y dx dy j2 r1' r2 ?_
    rw[e3]
    intro v H3 s3 r3
    have j3:=j2.same s3
    cases z with
    | bl t=>
      refine⟨t,r3.bl,?_⟩
      cases t with
      | true=>
        rw[if_pos rfl]
        exact go j3 (good.same h2 s3) fun dw w H4 e4 s4 r4 j4 h4=>hl ρ O σ H4 Q y w dy dw j4 (r2.same (s3.trans s4)) r4 h4
      | false=>
        rw[if_neg Bool.false_ne_true]
        exact fin (good.same h2 s3) (gW _)
    |_=>exact h2.elim
theorem Ef {op op':CmpOp} {k l:D→D→R D} (ho:jC X (compareOp op) k) (ho':jC X (compareOp op') l) (ha:DE X a f) (hb:DE X b g) (hc:DE X c h)
    (hm:lastMarks [op,op'] [b,c]=false:=by with_unfolding_all rfl):DE X (.Compare a [op,op'] [b,c] pos) (Gs f g h k l):=by
  obtain⟨r,ho,hr⟩:=ho
  obtain⟨r',ho',hr'⟩:=ho'
  exact PE.imp (pe_chain ho ho' ha hb hc hm) fun σ H Q q=>J3 hr hr' q
theorem aav {op op':CmpOp} {k l:D→D→R D} (ho:jC X (compareOp op) k) (ho':jC X (compareOp op') l) (ha:DE X a f) (hb:DE X b g) (hc:DE X c h)
    (hm:lastMarks [op,op'] [b,c]=false:=by with_unfolding_all rfl):DT X (.Compare a [op,op'] [b,c] pos) (bL (Gs f g h k l)):=by
  obtain⟨r,ho,hr⟩:=ho
  obtain⟨r',ho',hr'⟩:=ho'
  exact PT.imp (pt_chain ho ho' ha hb hc hm) fun σ H Q q=>Ed (fun Q q=>J3 hr hr' q) q
end
noncomputable def YAt (K:PySem.W.Frag) (O:Addr→Prop) (J:It) (xs:List D) (H:Hp):Prop:=
  ∀i:Nat,(∀d,xs[i]?=some d→J.go i H∧∀x H',J.yld i H x H'→Same H H'∧Rep K O H' d x)∧(xs.length≤i→J.stop i H)
noncomputable def YR (K:PySem.W.Frag) (O:Addr→Prop) (H:Hp) (J:It) (xs:List D):Prop:=∀O' H',fL K O H O' H'→YAt K O' J xs H'
noncomputable abbrev rIt (X:Cx):(Addr→Prop)→Hp→List D→It→Prop:=fun O H xs J=>YR X.K O H J xs
noncomputable def DI (X:Cx) (tg iter:Expr) (fi:aq→R (List D)):Prop:=PI X tg iter (tG X (rIt X) fi)
theorem PI.imp {X:Cx} {tg e:Expr} {t t':TI} (h:PI X tg e t) (w:∀σ H Q,t' σ H Q→t σ H Q):PI X tg e t':=fun pins s σ H Q I q=>h pins s σ H Q I (w σ H Q q)
section
variable {X:Cx} {tg:Expr}
noncomputable def aeU (K:PySem.W.Frag) (tl:TE):TI:=fun σ H R=>tl σ H fun x H1=>∃a,x= .ref a∧(((∃xs,SqL K H1 a xs)∧R (Itl K a) H1)∨((∃xs,SqT K H1 a xs)∧R (Itt K a) H1))
theorem adw {l:Expr} {tl:TE} (hl:PE X l tl):PI X tg l (aeU X.K tl):=by
  intro pins s σ H R I h
  refine thn (hl pins s σ H _ I h) fun v s1 bN=>?_
  obtain⟨x,H1,I1,r1,q1⟩:=bN
  obtain⟨a,e,q⟩:=q1
  subst e
  cases r1
  have fp:∀b∈[s1.heap.objs.size],FpOk X pins H1 b:=fun b hb=>by
    have e:b=s1.heap.objs.size:=by simpa using hb
    subst e
    exact I1.fpOk (Nat.le_refl _) (I1.hok.fresh (Nat.le_refl _))
  rcases q with⟨⟨xs,hq⟩,q⟩ |⟨⟨xs,hq⟩,q⟩
  · obtain⟨its,rv,p,hz⟩:=I1.list hq
    refine wpAny_pyIter_list p.isList ?_
    exact⟨s1.heap.objs.size,[s1.heap.objs.size],_,_,H1,rfl,I1.kept (t':=s1.toks) fun b o e=>Heap.get?_push_of_some _ e,turn_list a _,⟨_,Heap.get?_push_size _ rfl,rfl,rfl⟩,fp,q⟩
  · obtain⟨its,rv,p,hz⟩:=I1.tuple hq
    refine wpAny_pyIter_tuple (show s1.heap.IsTuple a its.toArray from p) ?_
    exact⟨s1.heap.objs.size,[s1.heap.objs.size],_,_,H1,rfl,I1.kept (t':=s1.toks) fun b o e=>Heap.get?_push_of_some _ e,turn_tuple a _,⟨_,Heap.get?_push_size _ rfl,rfl,rfl⟩,fp,q⟩
noncomputable def jY:D→R (List D)
  | .tup ds=> .ok ds
  | .lst ds=> .ok ds
  |_=> .bad
theorem YR.lst {K:PySem.W.Frag} {O:Addr→Prop} {H:Hp} {a:Addr} {ds:List D} {xs:List V} (h:SqL K H a xs) (n:¬O a) (r:aV K O H ds xs):YR K O H (Itl K a) ds:=by
  intro O' H' q
  have h':SqL K H' a xs:=SqL.ext q.ext n h
  have r':=r.go q
  intro i
  refine⟨fun d e=>?_,fun e=>⟨xs,h',by rw[←r.length];exact e⟩⟩
  obtain⟨v,e1,rv⟩:=r'.get e
  refine⟨⟨xs,v,h',e1⟩,fun x H2 y=>?_⟩
  obtain⟨eH,y⟩:=y
  subst eH
  have:=y xs h'
  rw[e1] at this;cases this
  exact⟨Same.refl _,rv⟩
theorem YR.tup {K:PySem.W.Frag} {O:Addr→Prop} {H:Hp} {a:Addr} {ds:List D} {xs:List V} (h:SqT K H a xs) (r:aV K O H ds xs):YR K O H (Itt K a) ds:=by
  intro O' H' q
  have h':SqT K H' a xs:=SqT.ext q.ext h
  have r':=r.go q
  intro i
  refine⟨fun d e=>?_,fun e=>⟨xs,h',by rw[←r.length];exact e⟩⟩
  obtain⟨v,e1,rv⟩:=r'.get e
  refine⟨⟨xs,v,h',e1⟩,fun x H2 y=>?_⟩
  obtain⟨eH,y⟩:=y
  subst eH
  have:=y xs h'
  rw[e1] at this;cases this
  exact⟨Same.refl _,rv⟩
noncomputable def d7 (f:aq→R D):aq→R (List D):=fun ρ=>(f ρ).bind jY
theorem fj {l:Expr} {f:aq→R D} (h:DE X l f):DI X tg l (d7 f):=by
  refine PI.imp (adw h) fun σ H Q q=>?_
  obtain⟨ρ,O,j,q⟩:=q
  refine go j q fun d x H1 e1 s1 r1 j1 h1=>?_
  cases d with
  | tup ds=>
    obtain⟨a,xs,rfl,hq,r⟩:=r1.tup
    exact⟨a,rfl,.inr ⟨⟨xs,hq⟩,fin h1 (YR.tup hq r)⟩⟩
  | lst ds=>
    obtain⟨a,xs,rfl,hq,n,r⟩:=r1.lst
    exact⟨a,rfl,.inl ⟨⟨xs,hq⟩,fin h1 (YR.lst hq n r)⟩⟩
  |_=>exact h1.elim
noncomputable def upto (lo:Int) (n:Nat):List D:=(List.range n).map fun (i:Nat)=>D.int (lo+(i:Int))
theorem YR.rng {K:PySem.W.Frag} {O:Addr→Prop} {H:Hp} (lo:Int) (n:Nat):YR K O H (Itr lo n) (upto lo n):=by
  intro O' H' q i
  have hl:(upto lo n).length=n:=by simp[upto]
  refine⟨fun d e=>?_,fun e=>by rw[hl] at e;exact e⟩
  have hi:i < n:=by rw[←hl];exact (List.getElem?_eq_some_iff.mp e).1
  have e2:d=D.int (lo+(i:Int)):=by
    simp only[upto,List.getElem?_map,List.getElem?_range hi] at e
    exact (Option.some.inj e).symm
  subst e2
  refine⟨hi,fun x H2 y=>?_⟩
  obtain⟨eH,y⟩:=y
  subst eH;subst y
  exact⟨Same.refl _,cL _⟩
noncomputable def gY:List D→R (List D)
  |[.int j]=>if -(2 ^ 62)≤j∧j < 2 ^ 62 then .ok (upto 0 j.toNat) else .bad
  |_=> .bad
noncomputable def Jq:List D→R (List D)
  |[.int i,.int j]=>if -(2 ^ 62)≤i∧i < 2 ^ 62∧-(2 ^ 62)≤j∧j < 2 ^ 62 then .ok (upto i (j - i).toNat) else .bad
  |_=> .bad
theorem aV.one {K:PySem.W.Frag} {O:Addr→Prop} {H:Hp} {d:D} {xs:List V} (r:aV K O H [d] xs):∃x,xs=[x]∧Rep K O H d x:=by
  obtain⟨x,t,rfl,h1,h2⟩:=r.cons_inv
  rw[h2.nil_inv];exact⟨x,rfl,h1⟩
theorem aV.two {K:PySem.W.Frag} {O:Addr→Prop} {H:Hp} {d e:D} {xs:List V} (r:aV K O H [d,e] xs):∃x y,xs=[x,y]∧Rep K O H d x∧Rep K O H e y:=by
  obtain⟨x,t,rfl,h1,h2⟩:=r.cons_inv
  obtain⟨y,rfl,h3⟩:=h2.one
  exact⟨x,y,rfl,h1,h3⟩
variable {a b:Expr} {fa:aq→R (List D)} {p pos:Pos}
theorem eO (hg:Gl X "range") (hm:X.mg "range" =none) (ha:DA X [a] fa) (hs:starEach [a] X.env=[(false,eval a X.env)]:=by rfl):DI X tg (.Call (.Name "range" p) [a] [] pos) (fun ρ=>(fa ρ).bind gY):=by
  refine PI.imp (pi_range1 hg hm ha hs) fun σ H Q q=>?_
  obtain⟨ρ,O,j,q⟩:=q
  refine go j q fun ds xs H1 e1 s1 r1 j1 h1=>?_
  unfold gY at h1
  split at h1
  · obtain⟨x,rfl,rx⟩:=r1.one
    split at h1
    · rename_i i hi
      exact⟨i,by rw[rx.int],hi.1,hi.2,fin h1 (YR.rng 0 i.toNat)⟩
    · exact h1.elim
  · exact h1.elim
theorem Xw (hg:Gl X "range") (hm:X.mg "range" =none) (ha:DA X [a,b] fa) (hs:starEach [a,b] X.env=[(false,eval a X.env),(false,eval b X.env)]:=by rfl) (hs2:starEach [b] X.env=[(false,eval b X.env)]:=by rfl):
    DI X tg (.Call (.Name "range" p) [a,b] [] pos) (fun ρ=>(fa ρ).bind Jq):=by
  refine PI.imp (pi_range2 hg hm ha hs hs2) fun σ H Q q=>?_
  obtain⟨ρ,O,j,q⟩:=q
  refine go j q fun ds xs H1 e1 s1 r1 j1 h1=>?_
  unfold Jq at h1
  split at h1
  · obtain⟨x,y,rfl,rx,ry⟩:=r1.two
    split at h1
    · rename_i i k hi
      exact⟨i,k,by rw[rx.int,ry.int],hi,fin h1 (YR.rng i (k - i).toNat)⟩
    · exact h1.elim
  · exact h1.elim
end
inductive DGp (X:Cx) (gt:D→aq→R aq) (v:V) (σ:St) (H:Hp) (Q:St→Hp→Prop):Prop
  |mk (ρ:aq) (O:Addr→Prop) (d:D) (ρ':aq) (j:In X O H ρ σ) (r:Rep X.K O H d v) (e:gt d ρ= .ok ρ') (q:∀σ',In X O H ρ' σ'→Q σ' H):DGp X gt v σ H Q
noncomputable def DG (X:Cx) (tg:Expr) (gt:D→aq→R aq):Prop:=PG X tg fun v σ H Q=>DGp X gt v σ H Q
inductive adx (X:Cx) (gt:List D→aq→R aq) (vs:List V) (σ:St) (H:Hp) (Q:St→Hp→Prop):Prop
  |mk (ρ:aq) (O:Addr→Prop) (ds:List D) (ρ':aq) (j:In X O H ρ σ) (r:aV X.K O H ds vs) (e:gt ds ρ= .ok ρ') (q:∀σ',In X O H ρ' σ'→Q σ' H):adx X gt vs σ H Q
noncomputable def DGs (X:Cx) (ts:List Expr) (gt:List D→aq→R aq):Prop:=PGs X ts fun vs σ H Q=>adx X gt vs σ H Q
section
variable {X:Cx} {pos:Pos}
theorem In.set {O:Addr→Prop} {H:Hp} {ρ:aq} {σ:St} (j:In X O H ρ σ) {i:Nat} (hi:i < X.N.length) {d:D} {v:V} (r:Rep X.K O H d v):In X O H (ρ.set i (some (.val d))) (σ.set i (some v)):=by
  have h1:i < ρ.length:=by rw[j.pF];exact hi
  have h2:i < σ.length:=by rw[j.len];exact hi
  refine⟨⟨fun k e q=>?_,fun k l e e' u hkl qk ql ok ol sk sl=>?_⟩,j.al,by rw[List.length_set];exact j.len,by rw[List.length_set];exact j.pF⟩
  · by_cases hk:k=i
    · subst hk
      rw[List.getElem?_set_self h1] at q
      cases q
      exact⟨v,List.getElem?_set_self h2,r⟩
    · rw[List.getElem?_set_ne (Ne.symm hk)] at q
      obtain⟨u,q1,q2⟩:=j.env.get k e q
      exact⟨u,by rw[List.getElem?_set_ne (Ne.symm hk)];exact q1,q2⟩
  · have hk:k≠i:=fun z=>by subst z;rw[List.getElem?_set_self h1] at qk;cases qk;cases ok
    have hl:l≠i:=fun z=>by subst z;rw[List.getElem?_set_self h1] at ql;cases ql;cases ol
    rw[List.getElem?_set_ne (Ne.symm hk)] at qk sk
    rw[List.getElem?_set_ne (Ne.symm hl)] at ql sl
    exact j.env.sep k l e e' u hkl qk ql ok ol sk sl
noncomputable def aG (i:Nat) (d:D) (ρ:aq):R aq:= .ok (ρ.set i (some (.val d)))
theorem bD (i:Nat) {x:Str} (hN:X.N.Nodup) (hi:X.N[i]?=some x:=by rfl) (hx:Loc X.env.scope x:=by first |exact Or.inl rfl |exact Or.inr rfl) (hf:X.fn x=true∨X.env.scope.names.lookup x=some .local:=by first |exact .inl rfl |exact .inr rfl):DG X (.Name x pos) (aG i):=by
  intro pins s σ H v u Q I r h
  obtain⟨ρ,O,d,ρ',j,rd,e,q⟩:=h
  cases e
  exact pg_name hN hi hx hf pins s σ H v u Q I r (q _ (j.set (List.getElem?_eq_some_iff.mp hi).1 rd))
noncomputable def nilG:List D→aq→R aq
  |[],ρ=> .ok ρ
  |_,_=> .bad
noncomputable def bA (t:D→aq→R aq) (u:List D→aq→R aq):List D→aq→R aq
  |d::ds,ρ=>(t d ρ).bind fun ρ'=>u ds ρ'
  |_,_=> .bad
theorem kj:DGs X [] nilG:=by
  intro pins s σ H vs us Q I r h
  obtain⟨ρ,O,ds,ρ',j,rd,e,q⟩:=h
  cases ds with
  |nil=>cases e;exact pgs_nil pins s σ H vs us Q I r ⟨rd.nil_inv,q _ j⟩
  |cons d ds=>cases e
theorem cV {e:Expr} {es:List Expr} {t:D→aq→R aq} {u:List D→aq→R aq} (h1:DG X e t) (h2:DGs X es u)
    (hs:(assignEach (e::es) X.env).map (·.2)=assign e X.env::(assignEach es X.env).map (·.2):=by rfl):DGs X (e::es) (bA t u):=by
  intro pins s σ H vs us Q I r h
  obtain⟨ρ,O,ds,ρ',j,rd,e,q⟩:=h
  cases ds with
  |nil=>cases e
  | cons d ds=>
    obtain⟨x,xs,rfl,rx,rxs⟩:=rd.cons_inv
    have e':(t d ρ).bind (fun ρ'=>u ds ρ')= .ok ρ':=e
    cases q1:t d ρ with
    |bad=>rw[q1] at e';cases e'
    |err c=>rw[q1] at e';cases e'
    | ok ρ1=>
      rw[q1] at e'
      refine pgs_cons h1 h2 hs pins s σ H _ us Q I r ⟨x,xs,rfl,ρ,O,d,ρ1,j,rx,q1,fun σ1 j1=>?_⟩
      exact⟨ρ1,O,ds,ρ',j1,rxs,e',q⟩
noncomputable def dG (u:List D→aq→R aq):D→aq→R aq
  | .tup ds,ρ=>u ds ρ
  |_,_=> .bad
noncomputable def dI (n:Nat) (u:List D→aq→R aq):List D→aq→R aq:=fun ds ρ=>if ds.length=n then u ds ρ else .bad
theorem mF {es:List Expr} {k:Nat} {u:List D→aq→R aq} {n:Nat} (hc:X.calm=true) (h:DGs X es u)
    (hn:(assignEach es X.env).length=n:=by rfl) (hst:(assignEach es X.env).findIdx? (·.1)=none:=by rfl):DG X (.Tuple es k pos) (dG (dI n u)):=by
  intro pins s σ H v w Q I r q
  obtain⟨ρ,O,d,ρ',j,rd,e,q⟩:=q
  cases d with
  | tup ds=>
    obtain⟨a,xs,rfl,hq,rs⟩:=rd.tup
    have e':(if ds.length=n then u ds ρ else .bad)= .ok ρ':=e
    by_cases hl:ds.length=n
    · rw[if_pos hl] at e'
      exact pg_tup hc h hn hst pins s σ H _ w Q I r ⟨a,xs,rfl,hq,by rw[←rs.length];exact hl,ρ,O,ds,ρ',j,rs,e',q⟩
    · rw[if_neg hl] at e';cases e'
  |_=>cases e
end
end Pu
namespace Pu
open PySem PySem.Spec L2
open PyProof.Rows hiding St
noncomputable def kW (x:Str):List Str→Nat
  |[]=>0
  |y::r=>if x=y then 0 else kW x r+1
theorem xJ {x:Str}:∀{N:List Str},x∈N→N[kW x N]?=some x
  |[],h=>by simp at h
  | y ::r,h=>by
    unfold kW
    by_cases e:x=y
    · rw[if_pos e,e];rfl
    · rw[if_neg e]
      rcases List.mem_cons.mp h with z |z
      · exact absurd z e
      · simpa using xJ z
noncomputable def pull {α:Type} (N caps:List Str) (n:Nat) (l:List (Option α)):List (Option α):=List.replicate n none++caps.map fun x=>(l[kW x N]?).join
theorem sy {α:Type} (N caps:List Str) (n:Nat) (l:List (Option α)):(pull N caps n l).length=n+caps.length:=by simp[pull]
theorem join_some {α:Type} {o:Option (Option α)} {a:α} (h:o.join=some a):o=some (some a):=by
  cases o with
  |none=>cases h
  |some o=>exact congrArg some h
theorem sE {α:Type} {N caps:List Str} {n:Nat} {l:List (Option α)} {i:Nat} {a:α} (h:(pull N caps n l)[i]?=some (some a)):∃j x,i=n+j∧caps[j]?=some x∧l[kW x N]?=some (some a):=by
  unfold pull at h
  by_cases hi:i < n
  · rw[List.getElem?_append_left (by simpa using hi),List.getElem?_replicate,if_pos hi] at h
    cases h
  · rw[List.getElem?_append_right (by simpa using hi),List.length_replicate,List.getElem?_map] at h
    cases e:caps[i - n]? with
    |none=>rw[e] at h;cases h
    | some x=>
      rw[e] at h
      exact⟨i - n,x,by omega,e,join_some (Option.some.inj h)⟩
theorem Jr {α:Type} {N caps:List Str} {n:Nat} {l:List (Option α)} {j:Nat} {x:Str} (h:caps[j]?=some x):(pull N caps n l)[n+j]?=some (l[kW x N]?).join:=by
  unfold pull
  rw[List.getElem?_append_right (by simp),List.length_replicate,List.getElem?_map,show n+j - n=j by omega,h]
  rfl
noncomputable def dJ (sc:Scope):List Str:=(sc.names.filter fun x=>decide (x.2= .free)).map (·.1)
noncomputable def uQ (outer sc:Scope) (ts N:List Str):Bool:=
  decide (sc.kind= .function) && sc.names.all (fun x=>(!decide (x.2= .local)) || decide (sc.names.lookup x.1=some .local)) && sc.names.all (fun x=>(!decide (x.2= .cell)) || decide (sc.names.lookup x.1=some .cell)) &&
    (dJ sc).all (fun x=>(decide (outer.names.lookup x=some .cell) || decide (outer.names.lookup x=some .free)) && decide (x∈N) && decide (sc.names.lookup x=some .free)) && decide (ts++dJ sc).Nodup
structure Cr (outer sc:Scope) (ts N:List Str):Prop where
  kind:sc.kind= .function
  loc:∀x∈sc.names,x.2= .local→sc.names.lookup x.1=some .local
  cel:∀x∈sc.names,x.2= .cell→sc.names.lookup x.1=some .cell
  out:∀x∈dJ sc,outer.names.lookup x=some .cell∨outer.names.lookup x=some .free
  mem:∀x∈dJ sc,x∈N
  Xx:∀x∈dJ sc,sc.names.lookup x=some .free
  nd:(ts++dJ sc).Nodup
theorem abt {outer sc:Scope} {ts N:List Str} (h:uQ outer sc ts N=true):Cr outer sc ts N:=by
  unfold uQ at h
  simp only[Bool.and_eq_true,List.all_eq_true,decide_eq_true_eq,Bool.or_eq_true,Bool.not_eq_true',decide_eq_false_iff_not] at h
  obtain⟨⟨⟨⟨h1,h2⟩,h3⟩,h4⟩,h5⟩:=h
  exact⟨h1,fun x hx e=>(h2 x hx).resolve_left fun n=>n e,fun x hx e=>(h3 x hx).resolve_left fun n=>n e,fun x hx=>(h4 x hx).1.1,fun x hx=>(h4 x hx).1.2,fun x hx=>(h4 x hx).2,h5⟩
noncomputable def gZ (cs:List (Str×Addr)):List (Str×NameKind)→List (Str×Addr)→List (Str×Addr)
  |[],acc=>acc
  |(n,k)::r,acc=>if k= .free then gZ cs r ((n,(cs.lookup n).getD 0)::acc) else gZ cs r acc
theorem Gu {scope:Scope} {env:PySem.Env} (h:∀x∈scope.names,x.2= .free→∃c,env.cells.lookup x.1=some c):closureFor scope env=pure (gZ env.cells scope.names []):=by
  unfold closureFor
  have all:∀(l:List (Str×NameKind)) (acc:List (Str×Addr)),(∀x∈l,x.2= .free→∃c,env.cells.lookup x.1=some c)→
      (forIn l acc fun x r=>match x with |(name,kind)=>if (kind ==NameKind.free)=true then do let a ←cellOf env name;pure (ForInStep.yield ((name,a)::r)) else pure (ForInStep.yield r):Sem (List (Str×Addr)))=pure (gZ env.cells l acc):=by
    intro l
    induction l with
    |nil=>intro acc _;rfl
    | cons x r ih=>
      intro acc hx
      obtain⟨n,k⟩:=x
      rw[List.forIn_cons]
      unfold gZ
      by_cases hk:k= .free
      · obtain⟨c,hc⟩:=hx (n,k) List.mem_cons_self hk
        have hc:env.cells.lookup n=some c:=hc
        have e1:cellOf env n=pure c:=by unfold cellOf;rw[hc]
        subst hk
        simp only[e1,hc,Option.getD_some,beq_self_eq_true,if_true,pure_bind]
        exact ih _ fun y hy=>hx y (List.mem_cons_of_mem _ hy)
      · have e2:(k ==NameKind.free)=false:=by simpa using hk
        simp only[e2,Bool.false_eq_true,if_false,pure_bind,hk]
        exact ih _ fun y hy=>hx y (List.mem_cons_of_mem _ hy)
  simpa using all scope.names [] h
theorem mH (cs:List (Str×Addr)):∀(l:List (Str×NameKind)) (acc:List (Str×Addr)),gZ cs l acc=gZ cs l []++acc
  |[],acc=>rfl
  | (n,k)::r,acc=>by
    unfold gZ
    split
    · rw[mH cs r (_::acc),mH cs r [_]];simp
    · exact mH cs r acc
theorem sG (cs:List (Str×Addr)):∀(l:List (Str×NameKind)) {n:Str} {c:Addr},(n,c)∈gZ cs l []→(n,NameKind.free)∈l∧c=(cs.lookup n).getD 0
  |[],_,_,h=>by simp[gZ] at h
  | (m, k)::r,n,c,h=>by
    unfold gZ at h
    split at h
    · rename_i hk
      rw[mH] at h
      rcases List.mem_append.mp h with h |h
      · obtain⟨h1,h2⟩:=sG cs r h
        exact⟨List.mem_cons_of_mem _ h1,h2⟩
      · have e:=List.mem_singleton.mp h
        cases e
        subst hk
        exact⟨List.mem_cons_self,rfl⟩
    · obtain⟨h1,h2⟩:=sG cs r h
      exact⟨List.mem_cons_of_mem _ h1,h2⟩
theorem Eh (cs:List (Str×Addr)):∀(l:List (Str×NameKind)) {n:Str},(n,NameKind.free)∈l→((gZ cs l []).lookup n).isSome=true
  |[],_,h=>by simp at h
  | (m, k)::r,n,h=>by
    unfold gZ
    split
    · rename_i hk
      rw[mH,List.lookup_append]
      rcases List.mem_cons.mp h with e |h
      · cases e
        simp[List.lookup_cons]
      · simp[Eh cs r h]
    · rename_i hk
      rcases List.mem_cons.mp h with e |h
      · cases e;exact absurd rfl hk
      · exact Eh cs r h
theorem fM:∀(l:List (Str×NameKind)) (n:Nat) (acc:List (Str×Addr)),cellsFrom n l acc=cellsFrom n l []++acc
  |[],_,_=>rfl
  | (m,k)::r,n,acc=>by
    unfold cellsFrom
    split
    · rw[fM r _ (_::acc),fM r _ [_]];simp
    · exact fM r n acc
theorem q8:∀(l:List (Str×NameKind)) (n:Nat) {x:Str} {c:Addr},(x,c)∈cellsFrom n l []→(x,NameKind.cell)∈l∧n≤c
  |[],_,_,_,h=>by simp[cellsFrom] at h
  | (m, k)::r,n,x,c,h=>by
    unfold cellsFrom at h
    split at h
    · rename_i hk
      rw[fM] at h
      rcases List.mem_append.mp h with h |h
      · obtain⟨h1,h2⟩:=q8 r _ h
        exact⟨List.mem_cons_of_mem _ h1,by omega⟩
      · have e:=List.mem_singleton.mp h
        cases e
        have:k= .cell:=by simpa using hk
        subst this
        exact⟨List.mem_cons_self,Nat.le_refl _⟩
    · obtain⟨h1,h2⟩:=q8 r _ h
      exact⟨List.mem_cons_of_mem _ h1,h2⟩
section
variable {M:Model} {A:Around} {E:Value→Shared→Prop} {s:Shared}
theorem J4 {scope:Scope} {globals:Addr} {cl:List (Str×Addr)} {qual:Str} {env:PySem.Env} {Q:PySem.Env→Shared→Prop}
    (hQ:Q (newEnv scope s.heap.objs.size globals (cellsFrom (s.heap.objs.size+1) scope.names cl) qual none .none (some env) builtinsNs) {s with heap:=pushCells (s.heap.push {cls:= .type "dict",data:= .dict #[]}) scope.names}):
    wpAny M A (newFunctionEnv scope globals cl [] qual none .none (some env)) Q E s:=by
  simp only[newFunctionEnv,Option.isSome_some,if_true]
  refine wpAny_bind (wpAny_alloc ?_)
  refine wpAny_bind (wpAny_layCells _ (fun name kind cells=>by cases hkc:kind ==NameKind.cell <;> simp[hkc]) _ _ _ _ ?_)
  rw[show ({s with heap:=s.heap.push {cls:= .type "dict",data:= .dict #[]}}:Shared).heap.objs.size=s.heap.objs.size+1 from Heap.size_push ..]
  exact wpAny_bind (wpAny_pure (wpAny_pure hQ))
end
noncomputable def eU (scope:Scope) (env:PySem.Env) (C:Addr):PySem.Env:=
  {scope:=relabel scope env,locals:=C,globals:=env.globals,cells:=cellsFrom (C+1) scope.names (gZ env.cells scope.names []),qual:=env.qual,func:=none,code:=env.code,frame:=env.frame,builtins:=env.builtins}
noncomputable def bF (X:Cx) (scope:Scope) (ts:List Str) (C:Addr) (s:Shared) (H:Hp) (ex:List Addr):Cx where
  prog:=X.prog
  w:=X.w
  K:=X.K
  mg:=X.mg
  base:=X.base
  A:=X.A
  N:=ts++dJ scope
  s₀:=s
  H₀:=H
  env:=eU scope X.env C
  outer:=X.stack
  stack:=X.stack
  ex:=ex
  fn:=fun x=>decide (scope.names.lookup x=some .cell)
  calm:=X.calm
  pn:=[]
  xe:=fun _ _=>False
theorem pH {scope:Scope} {env:PySem.Env} {x:Str}:∀{names:List (Str×NameKind)},
    (names.map fun (n,k)=>if (k ==NameKind.free && env.scope.kind == .function && env.kindOf n ==some .cell) then (n,NameKind.cell) else (n,k)).lookup x =
      (names.lookup x).map fun k=>if (k ==NameKind.free && env.scope.kind == .function && env.kindOf x ==some .cell) then .cell else k
  |[]=>rfl
  | (n, k)::r=>by
    have ih:= @pH scope env x r
    rw[List.map_cons]
    show List.lookup x ((if (k ==NameKind.free && env.scope.kind == .function && env.kindOf n ==some .cell)=true then (n,NameKind.cell) else (n,k))::_)=_
    cases hx:x ==n with
    | true=>
      have e:x=n:=by simpa using hx
      subst e
      by_cases hc:(k ==NameKind.free && env.scope.kind == .function && env.kindOf x ==some .cell)=true
      · rw[if_pos hc]
        simp only[List.lookup_cons,beq_self_eq_true,Option.map_some,hc,if_true]
      · rw[if_neg hc]
        simp only[List.lookup_cons,beq_self_eq_true,Option.map_some,hc,if_false] <;> rfl
    | false=>
      by_cases hc:(k ==NameKind.free && env.scope.kind == .function && env.kindOf n ==some .cell)=true
      · rw[if_pos hc]
        simp only[List.lookup_cons,hx]
        exact ih
      · rw[if_neg hc]
        simp only[List.lookup_cons,hx]
        exact ih
theorem pI {sc:Scope} {x:Str} (h:(x,NameKind.free)∈sc.names):x∈dJ sc:=List.mem_map.mpr ⟨(x,.free),List.mem_filter.mpr ⟨h,by simp⟩,rfl⟩
theorem abP {sc:Scope} {x:Str} (h:x∈dJ sc):(x,NameKind.free)∈sc.names:=by
  obtain⟨⟨n,k⟩,h1,h2⟩:=List.mem_map.mp h
  obtain⟨h3,h4⟩:=List.mem_filter.mp h1
  have h4:k=NameKind.free:=by simpa using h4
  subst h4
  have h2:n=x:=h2
  subst h2
  exact h3
section
variable {X:Cx} {scope:Scope} {ts:List Str} {C:Addr}
theorem jO (B:Cr X.env.scope scope ts X.N) (has:∀x,(X.env.kindOf x=some .cell∨X.env.kindOf x=some .free)→∃c,X.env.cells.lookup x=some c) {x:Str} {c:Addr} (h:(eU scope X.env C).cells.lookup x=some c):
    (scope.names.lookup x=some .cell∧@LE.le Nat _ (C+1) c)∨(x∈dJ scope∧X.env.cells.lookup x=some c):=by
  have h:(cellsFrom (C+1) scope.names (gZ X.env.cells scope.names [])).lookup x=some c:=h
  rw[fM,List.lookup_append] at h
  cases e:(cellsFrom (C+1) scope.names []).lookup x with
  | some c'=>
    rw[e] at h
    have e2:c'=c:=by simpa using h
    subst e2
    obtain⟨h1,h2⟩:=q8 _ _ (PySem.mem_of_lookup e)
    exact .inl ⟨B.cel _ h1 rfl,h2⟩
  | none=>
    rw[e] at h
    have h:(gZ X.env.cells scope.names []).lookup x=some c:=by simpa using h
    obtain⟨h1,h2⟩:=sG _ _ (PySem.mem_of_lookup h)
    have hx:=pI h1
    obtain⟨c',hc'⟩:=has x (B.out x hx)
    rw[hc'] at h2
    have h2:c=c':=h2
    subst h2
    exact .inr ⟨hx,hc'⟩
theorem LQ (B:Cr X.env.scope scope ts X.N) {x:Str} {c:Addr} (hx:x∈dJ scope) (hc:X.env.cells.lookup x=some c) (has:∀x,(X.env.kindOf x=some .cell∨X.env.kindOf x=some .free)→∃c,X.env.cells.lookup x=some c):(eU scope X.env C).cells.lookup x=some c:=by
  have hs:=Eh X.env.cells scope.names (abP hx)
  obtain⟨c',e⟩:=Option.isSome_iff_exists.mp hs
  have hl:∃d,(eU scope X.env C).cells.lookup x=some d:=by
    show ∃d,(cellsFrom (C+1) scope.names (gZ X.env.cells scope.names [])).lookup x=some d
    rw[fM,List.lookup_append,e]
    cases (cellsFrom (C+1) scope.names []).lookup x with
    |none=>exact⟨c',rfl⟩
    |some d=>exact⟨d,rfl⟩
  obtain⟨d,hd⟩:=hl
  rcases jO B has hd with⟨h1,_⟩ |⟨_,h2⟩
  · rw[B.Xx x hx] at h1;cases h1
  · rw[hc] at h2;cases h2;exact hd
theorem aaw (B:Cr X.env.scope scope ts X.N) {x:Str} (hx:x∈dJ scope):(eU scope X.env C).kindOf x=some .cell∨(eU scope X.env C).kindOf x=some .free:=by
  show (relabel scope X.env).names.lookup x=some .cell∨(relabel scope X.env).names.lookup x=some .free
  have e:(relabel scope X.env).names.lookup x=(scope.names.lookup x).map fun k=>if (k ==NameKind.free && X.env.scope.kind == .function && X.env.kindOf x ==some .cell) then .cell else k:=pH (scope:=scope)
  rw[e,B.Xx x hx]
  simp only[Option.map_some]
  split
  · exact .inl rfl
  · exact .inr rfl
end
end Pu
namespace Pu
open PySem PySem.Spec L2
open PyProof.Rows hiding St
noncomputable def Dm {α:Type}:R α→R α
  | .err _=> .bad
  | .ok a=> .ok a
  | .bad=> .bad
@[simp] theorem zM {α:Type} (a:α):Dm (R.ok a)= .ok a:=rfl
noncomputable def ig (k:D→R (Option D)):List D→R (List D)
  |[]=> .ok []
  |x::xs=>(Dm (k x)).bind fun o=>(ig k xs).bind fun ds=> .ok (o.toList++ds)
noncomputable def jP (gt:D→aq→R aq) (ft:aq→R Bool) (fe:aq→R D) (ρ:aq) (x:D):R (Option D):=
  (gt x ρ).bind fun ρ1=>(ft ρ1).bind fun b=>if b=true then (fe ρ1).bind fun d=> .ok (some d) else .ok none
noncomputable def uq:Option Ent→Option Ent
  |some (.val d)=>some (.val d)
  |_=>none
noncomputable def uw (n:Nat) (caps:List Nat) (ρ:aq):aq:=List.replicate n none++caps.map fun k=>((ρ.map uq)[k]?).join
noncomputable def bB (n:Nat) (caps:List Nat) (fi:aq→R (List D)) (gt:D→aq→R aq) (ft:aq→R Bool) (fe:aq→R D):aq→R D:=
  fun ρ=>(fi ρ).bind fun xs=>(ig (jP gt ft fe (uw n caps ρ)) xs).bind (cap .lst)
noncomputable def lB (n:Nat) (gt:D→aq→R aq):Prop:=∀d ρ ρ',gt d ρ= .ok ρ'→∀i,n≤i→ρ'[i]?=ρ[i]?
noncomputable def Cu (n:Nat) (gt:List D→aq→R aq):Prop:=∀d ρ ρ',gt d ρ= .ok ρ'→∀i,n≤i→ρ'[i]?=ρ[i]?
theorem bh {n i:Nat} (h:i < n):lB n (aG i):=fun d ρ ρ' e j hj=>by
  cases e
  rw[List.getElem?_set_ne (by omega)]
theorem iG {n:Nat}:Cu n nilG:=fun d ρ ρ' e j hj=>by
  cases d with
  |nil=>cases e;rfl
  |cons _ _=>cases e
theorem cF {n:Nat} {t:D→aq→R aq} {u:List D→aq→R aq} (h1:lB n t) (h2:Cu n u):Cu n (bA t u):=fun d ρ ρ' e j hj=>by
  cases d with
  |nil=>cases e
  | cons d ds=>
    have e':(t d ρ).bind (fun ρ'=>u ds ρ')= .ok ρ':=e
    cases q:t d ρ with
    |ok ρ1=>rw[q] at e';rw[h2 ds ρ1 ρ' e' j hj,h1 d ρ ρ1 q j hj]
    |err c=>rw[q] at e';cases e'
    |bad=>rw[q] at e';cases e'
theorem iI {n m:Nat} {u:List D→aq→R aq} (h:Cu n u):lB n (dG (dI m u)):=fun d ρ ρ' e j hj=>by
  cases d with
  | tup ds=>
    have e':(if ds.length=m then u ds ρ else .bad)= .ok ρ':=e
    by_cases hl:ds.length=m
    · rw[if_pos hl] at e';exact h ds ρ ρ' e' j hj
    · rw[if_neg hl] at e';cases e'
  |_=>cases e
noncomputable def Dn (Y:Cx) (ifs:List Expr) (ft:aq→R Bool):Prop:=∀(pins:List (Addr×Obj)) (s:Shared) (σ:St) (H:Hp) (Q:Bool→Hp→Prop),Inv Y pins σ H s→tG Y rB ft σ H Q→
  wpAny (model Y.prog Y.w) Y.A (forIn ifs true fun c r=>if r=true then do let ok ←isTrue c Y.env (eval c Y.env);pure (ForInStep.yield ok) else pure (ForInStep.yield r)) (TP Y pins σ Q) Y.xe s
theorem cg {Y:Cx}:Dn Y [] (fun _=> .ok true):=fun pins s σ H Q I h=>by
  obtain⟨ρ,O,j,h⟩:=h
  exact wpAny_tests_nil ⟨H,I,fin h rfl⟩
theorem wA {Y:Cx} {c:Expr} {p:aq→R Bool} (hc:DT Y c p):Dn Y [c] p:=fun pins s σ H Q I h=>wpAny_tests_one (hc pins s σ H Q I h)
theorem J5 {k:D→R (Option D)} {x:D} {xs:List D} {all:List D} (h:ig k (x::xs)= .ok all):∃o rest,k x= .ok o∧ig k xs= .ok rest∧all=o.toList++rest:=by
  have h:(Dm (k x)).bind (fun o=>(ig k xs).bind fun ds=> .ok (o.toList++ds))= .ok all:=h
  cases e:k x with
  |bad=>rw[e] at h;cases h
  |err c=>rw[e] at h;cases h
  | ok o=>
    rw[e] at h
    cases e2:ig k xs with
    |bad=>rw[e2] at h;cases h
    |err c=>rw[e2] at h;cases h
    | ok rest=>
      rw[e2] at h
      cases h
      exact⟨o,rest,rfl,rfl,rfl⟩
theorem xK {k:D→R (Option D)}:∀{xs:List D} {c:Str},ig k xs≠.err c
  |[],c=>fun h=>by cases h
  | x ::xs,c=>fun h=>by
    have h:(Dm (k x)).bind (fun o=>(ig k xs).bind fun ds=> .ok (o.toList++ds))= .err c:=h
    cases e:k x with
    |bad=>rw[e] at h;cases h
    |err c=>rw[e] at h;cases h
    | ok o=>
      rw[e] at h
      cases e2:ig k xs with
      |bad=>rw[e2] at h;cases h
      |err c'=>exact xK e2
      |ok rest=>rw[e2] at h;cases h
section
variable {X:Cx}
theorem Ve {o:Option Ent} {e:Ent} (h:uq o=some e):o=some e∧e.Ly=true:=by
  cases o with
  |none=>cases h
  | some e'=>
    cases e' with
    |val d=>cases h;exact⟨rfl,rfl⟩
    |lst _=>cases h
    |Gq _=>cases h
    |obj _=>cases h
theorem xM {ρ:aq} {i:Nat} {e:Ent} (h:(ρ.map uq)[i]?=some (some e)):ρ[i]?=some (some e)∧e.Ly=true:=by
  rw[List.getElem?_map] at h
  cases q:ρ[i]? with
  |none=>rw[q] at h;cases h
  | some o=>
    rw[q] at h
    obtain⟨h1,h2⟩:=Ve (Option.some.inj h)
    rw[h1];exact⟨rfl,h2⟩
theorem In.vals {O:Addr→Prop} {H:Hp} {ρ:aq} {σ:St} (j:In X O H ρ σ):In X O H (ρ.map uq) σ:=
  ⟨⟨fun i e h=>j.env.get i e (xM h).1,fun i k e e' v hik hi hk=>j.env.sep i k e e' v hik (xM hi).1 (xM hk).1⟩,j.al,j.len,by rw[List.length_map];exact j.pF⟩
theorem Gv {N caps:List Str} {ks:List Nat} {n:Nat} {ρ:aq} (h:caps.map (fun x=>kW x N)=ks):pull N caps n (ρ.map uq)=uw n ks ρ:=by
  unfold pull uw
  rw[←h,List.map_map]
  rfl
theorem TQ {scope:Scope} {ts:List Str} {pins:List (Addr×Obj)} {σ:St} {H:Hp} {s:Shared} {fp:List Addr} (I:Inv X pins σ H s) (B:Cr X.env.scope scope ts X.N)
    (hf:∀b∈fp,FpOk X pins H b) (ho:∀b∈fp,b < s.heap.objs.size) {h4:Heap} {C:Nat} (hC:C=s.heap.objs.size+1)
    (e4:h4=pushCells ((s.heap.push {cls:= .type "list",dict:=none,data:= .seq ([]:List Value).toArray}).push {cls:= .type "dict",data:= .dict #[]}) scope.names):
    Inv (bF X scope ts C s H fp) [] (pull X.N (dJ scope) ts.length σ) (upd H s.heap.objs.size (.lst [])) {s with heap:=h4}:=by
  have hD:H s.heap.objs.size=none:=I.hok.fresh (Nat.le_refl _)
  have abu:∀b o,(s.heap.push {cls:= .type "list",dict:=none,data:= .seq ([]:List Value).toArray}).get? b=some o→h4.get? b=some o:=fun b o e=>by
    rw[e4];exact pushCells_keeps _ _ b o (Heap.get?_push_of_some _ e)
  have keep:∀b o,s.heap.get? b=some o→h4.get? b=some o:=fun b o e=>abu b o (Heap.get?_push_of_some _ e)
  have sz3:(s.heap.push {cls:= .type "list",dict:=none,data:= .seq ([]:List Value).toArray}).objs.size=s.heap.objs.size+1:=Heap.size_push ..
  have hns:h4.Ns C fun _=>none:=by
    rw[e4,hC,←sz3]
    exact (Heap.Ns.new _ (.type "dict")).keeps (pushCells_keeps _ _)
  have ok:=cellsFrom_ok scope.names ((s.heap.push {cls:= .type "list",dict:=none,data:= .seq ([]:List Value).toArray}).push {cls:= .type "dict",data:= .dict #[]}) (C+1) [] ⟨fun _ _ hm=>(nomatch hm),List.Pairwise.nil⟩ (by rw[Heap.size_push,sz3,hC];exact Nat.le_refl _)
  rw[Heap.size_push,sz3,←hC,←e4] at ok
  have abQ:∀x c,(eU scope X.env C).cells.lookup x=some c→scope.names.lookup x=some .cell→h4.IsCell c none:=fun x c h hk=>by
    have h:(cellsFrom (C+1) scope.names (gZ X.env.cells scope.names [])).lookup x=some c:=h
    rw[fM,List.lookup_append] at h
    cases e:(cellsFrom (C+1) scope.names []).lookup x with
    | some c'=>
      rw[e] at h
      have e2:c'=c:=by simpa using h
      subst e2
      exact (ok.empty x c' (PySem.mem_of_lookup e)).1
    | none=>
      rw[e] at h
      have h:(gZ X.env.cells scope.names []).lookup x=some c:=by simpa using h
      have:=B.Xx x (pI (sG _ _ (PySem.mem_of_lookup h)).1)
      rw[hk] at this;cases this
  have Vf:∀x (c:Nat),X.env.cells.lookup x=some c→c < s.heap.objs.size:=fun x c e=>by
    obtain⟨v,q⟩:=I.cell x c e
    exact q.lt
  have ady:∀x c,(eU scope X.env C).cells.lookup x=some c→∃v,h4.IsCell c v:=fun x c h=>by
    rcases jO B I.ok.has h with⟨h1,_⟩ |⟨_,h2⟩
    · exact⟨_,abQ x c h h1⟩
    · obtain⟨v,q⟩:=I.cell x c h2
      exact⟨v,q.keeps keep⟩
  refine⟨⟨I.ok.mod,B.kind,I.ok.glob,I.ok.blt,by show @LE.le Nat _ s.heap.objs.size C;omega,?inj,?has,?cab,I.ok.hd,I.ok.frames,.inl rfl,?exf,I.bs,Nat.le_trans I.ok.bsz I.sz,?noex,?exfs,I.stack,I.stkFree⟩,
    rfl,I.bare,Un.laid keep (Nat.le_refl _) hD,⟨_,hns,?loc⟩,ady,?free,?freeC,fun p hp=>absurd (show p∈([]:List (Addr×Obj)) from hp) (by simp),I.hok.laid keep (Nat.le_refl _) ?new,?len⟩
  case inj=>
    intro x y c h1 h2
    have h1:(eU scope X.env C).cells.lookup x=some c:=h1
    have h2:(eU scope X.env C).cells.lookup y=some c:=h2
    rcases jO B I.ok.has h1 with⟨a1,a2⟩ |⟨a1,a2⟩ <;> rcases jO B I.ok.has h2 with⟨b1,b2⟩ |⟨b1,b2⟩
    · -- both its own
      have look:∀z,(eU scope X.env C).cells.lookup z=some c→scope.names.lookup z=some .cell→(z,c)∈cellsFrom (C+1) scope.names []:=fun z h hk=>by
        have h:(cellsFrom (C+1) scope.names (gZ X.env.cells scope.names [])).lookup z=some c:=h
        rw[fM,List.lookup_append] at h
        cases e:(cellsFrom (C+1) scope.names []).lookup z with
        | some c'=>
          rw[e] at h
          have e2:c'=c:=by simpa using h
          subst e2
          exact PySem.mem_of_lookup e
        | none=>
          rw[e] at h
          have h:(gZ X.env.cells scope.names []).lookup z=some c:=by simpa using h
          have:=B.Xx z (pI (sG _ _ (PySem.mem_of_lookup h)).1)
          rw[hk] at this;cases this
      exact name_of_addr ok.apart (look x h1 a1) (look y h2 b1)
    · have:=Vf y c b2;omega
    · have:=Vf x c a2;omega
    · exact I.ok.inj x y c a2 b2
  case has=>
    intro x hx
    have hx:(relabel scope X.env).names.lookup x=some .cell∨(relabel scope X.env).names.lookup x=some .free:=hx
    have hx:(scope.names.map fun (n,k)=>if (k ==NameKind.free && X.env.scope.kind == .function && X.env.kindOf n ==some .cell) then (n,NameKind.cell) else (n,k)).lookup x=some .cell∨(scope.names.map fun (n,k)=>if (k ==NameKind.free && X.env.scope.kind == .function && X.env.kindOf n ==some .cell) then (n,NameKind.cell) else (n,k)).lookup x=some .free:=hx
    rw[pH (scope:=scope)] at hx
    cases e:scope.names.lookup x with
    |none=>rw[e] at hx;rcases hx with z |z <;> cases z
    | some k=>
      rw[e] at hx
      by_cases hk:k= .free
      · subst hk
        have hm:=pI (PySem.mem_of_lookup e)
        obtain⟨c,hc⟩:=I.ok.has x (B.out x hm)
        exact⟨c,LQ B hm hc I.ok.has⟩
      · have hk':(k ==NameKind.free)=false:=by simpa using hk
        simp only[Option.map_some,hk',Bool.false_and,Bool.false_eq_true,if_false] at hx
        have hc:k= .cell:=by
          rcases hx with z |z
          · exact Option.some.inj z
          · exact absurd (Option.some.inj z) hk
        subst hc
        have q:=PySem.W.cellsFrom_some scope.names (C+1) (gZ X.env.cells scope.names []) (.inl e)
        exact Option.isSome_iff_exists.mp q
  case cab=>
    intro x c hfn h
    have h:(eU scope X.env C).cells.lookup x=some c:=h
    have hfn:scope.names.lookup x=some .cell:=of_decide_eq_true hfn
    rcases jO B I.ok.has h with⟨_,a2⟩ |⟨a1,_⟩
    · show @LE.le Nat _ s.heap.objs.size c;omega
    · rw[B.Xx x a1] at hfn;cases hfn
  case exf=>
    intro b hb
    have hb:b∈fp:=hb
    have hl: @LT.lt Nat _ b s.heap.objs.size:=ho b hb
    refine⟨by show @Ne Nat b C;omega,fun x c h=>?_⟩
    rcases jO B I.ok.has h with⟨_,a2⟩ |⟨_,a2⟩
    · show @Ne Nat c b;omega
    · exact (hf b hb).2.2.2.2.1 x c a2
  case noex=>
    intro b o e hb
    have hb:b∈fp:=hb
    rcases (hf b hb).2.2.2.1 with z |z
    · exact I.ok.noex b o e z
    · exact absurd (Nat.lt_of_lt_of_le (Heap.lt_size e) (Nat.le_trans I.ok.bsz z)) (Nat.lt_irrefl _)
  case exfs=>
    intro b hb hz
    have hb:b∈fp:=hb
    have hz:b∈frs X.stack:=hz
    rcases List.mem_cons.mp (I.stkSub b hz) with z |z
    · exact (hf b hb).2.1 z
    · exact (hf b hb).2.2.1 z
  case loc=>
    intro i x v h1 h2 h3
    have h1:(ts++dJ scope)[i]?=some x:=h1
    obtain⟨k,y,e1,e2,e3⟩:=sE h2
    have hy:x=y:=by
      rw[e1,List.getElem?_append_right (by omega),show ts.length+k - ts.length=k by omega,e2] at h1
      exact (Option.some.inj h1).symm
    subst hy
    have hm:x∈dJ scope:=List.mem_of_getElem? e2
    obtain⟨m,_,hl⟩:=I.loc
    have vis:Vis X.env.scope x:=by
      rcases B.out x hm with z |z
      · exact .inr (.inl z)
      · exact .inr (.inr z)
    obtain⟨u,ru,lk⟩:=hl (kW x X.N) x v (xJ (B.mem x hm)) e3 vis
    refine⟨u,ru,.inr ⟨aaw B hm,?_⟩⟩
    rcases lk with⟨z,_⟩ |⟨_,c,hc,q⟩
    · have z:X.env.scope.names.lookup x=some .local:=z
      rcases B.out x hm with z' |z' <;> rw[z] at z' <;> cases z'
    · exact⟨c,LQ B hm hc I.ok.has,q.keeps keep⟩
  case free=>
    show upd H s.heap.objs.size (.lst []) C=none
    rw[upd_ne (show @Ne Nat C s.heap.objs.size by omega)]
    exact I.hok.fresh (show @LE.le Nat _ s.heap.objs.size C by omega)
  case freeC=>
    intro x c h
    rcases jO B I.ok.has h with⟨_,a2⟩ |⟨_,a2⟩
    · rw[upd_ne (show @Ne Nat c s.heap.objs.size by omega)]
      exact I.hok.fresh (show @LE.le Nat _ s.heap.objs.size c by omega)
    · have:=Vf x c a2
      rw[upd_ne (show @Ne Nat c s.heap.objs.size by omega)]
      exact I.freeC x c a2
  case new=>
    exact⟨Nat.zero_le _,[],0,.nil,abu _ _ (Heap.get?_push_size _ rfl)⟩
  case len=>
    show (pull X.N (dJ scope) ts.length σ).length=(ts++dJ scope).length
    rw[sy,List.length_append]
theorem Xy {scope:Scope} {ts:List Str} {σ:St} {ρ:aq} {H:Hp} {s:Shared} {fp:List Addr} {O:Addr→Prop} {C:Addr} (B:Cr X.env.scope scope ts X.N) (j:In X O H ρ σ):In (bF X scope ts C s H fp) O H (pull X.N (dJ scope) ts.length ρ) (pull X.N (dJ scope) ts.length σ):=by
  refine⟨⟨fun i e h=>?_,fun i k e e' v hik hi hk oi ok si sk=>?_⟩,j.al,?_,?_⟩
  · obtain⟨m,x,rfl,e1,e2⟩:=sE h
    obtain⟨v,e3,r⟩:=j.env.get _ e e2
    exact⟨v,by rw[Jr e1,e3];rfl,r⟩
  · obtain⟨m,x,rfl,e1,e2⟩:=sE hi
    obtain⟨m',x',rfl,e1',e2'⟩:=sE hk
    have hx:x≠x':=fun z=>by
      subst z
      have nd:=(List.nodup_append.mp B.nd).2.1
      exact hik (by rw[nodup_ix nd e1 e1'])
    have hm:=B.mem x (List.mem_of_getElem? e1)
    have hm':=B.mem x' (List.mem_of_getElem? e1')
    have hne:kW x X.N≠kW x' X.N:=fun z=>by
      have q1:=xJ hm
      have q2:=xJ hm'
      rw[z,q2] at q1
      exact hx (Option.some.inj q1).symm
    rw[Jr e1] at si
    rw[Jr e1'] at sk
    exact j.env.sep _ _ e e' v hne e2 e2' oi ok (join_some (Option.some.inj si)) (join_some (Option.some.inj sk))
  · show (pull X.N (dJ scope) ts.length σ).length=(ts++dJ scope).length
    rw[sy,List.length_append]
  · show (pull X.N (dJ scope) ts.length ρ).length=(ts++dJ scope).length
    rw[sy,List.length_append]
end
end Pu
namespace Pu
open PySem PySem.Spec L2
open PyProof.Rows hiding St
theorem kI:1000000 < sizeLine:=by rw[sizeLine_eq];decide
section
variable {X:Cx}
theorem In.back {Y:Cx} {O:Addr→Prop} {H:Hp} {ρ ρ1:aq} {σ:St} {n:Nat} (j:In Y O H ρ1 σ) (h0:∀i,i < n→ρ[i]?=some none) (h1:∀i,n≤i→ρ1[i]?=ρ[i]?) (hl:ρ.length=Y.N.length):In Y O H ρ σ:=by
  have sub:∀(i:Nat) e,ρ[i]?=some (some e)→ρ1[i]?=some (some e):=fun i e h=>by
    by_cases hi:i < n
    · rw[h0 i hi] at h;cases h
    · rw[h1 i (by omega)];exact h
  exact⟨⟨fun i e h=>j.env.get i e (sub i e h),fun i k e e' v hik hi hk=>j.env.sep i k e e' v hik (sub i e hi) (sub k e' hk)⟩,j.al,j.len,hl⟩
theorem J6 {α:Type} {N caps:List Str} {n:Nat} {l:List (Option α)} {i:Nat} (h:i < n):(pull N caps n l)[i]?=some none:=by
  unfold pull
  rw[List.getElem?_append_left (by simpa using h),List.getElem?_replicate,if_pos h]
theorem In.go {Y:Cx} {O O':Addr→Prop} {H H':Hp} {ρ:aq} {σ:St} (j:In Y O H ρ σ) (hv:∀(i:Nat) e,ρ[i]?=some (some e)→e.Ly=true) (r:fL Y.K O H O' H') (al:∀a,O' a→∃o,H' a=some o):In Y O' H' ρ σ:=by
  refine⟨⟨fun i e h=>?_,fun i k e e' v _ hi _ oi=>?_⟩,al,j.len,j.pF⟩
  · obtain⟨v,h1,h2⟩:=j.env.get i e h
    refine⟨v,h1,?_⟩
    cases e with
    |val d=>exact Rep.go r h2
    |lst _=>cases hv i _ h
    |Gq _=>cases hv i _ h
    |obj _=>cases hv i _ h
  · rw[abO (hv i e hi)] at oi;cases oi
theorem ux {N caps:List Str} {n:Nat} {ρ:aq}:∀(i:Nat) e,(pull N caps n (ρ.map uq))[i]?=some (some e)→e.Ly=true:=fun i e h=>by
  obtain⟨_,_,_,_,q⟩:=sE h
  exact (xM q).2
end
end Pu
namespace Pu
open PySem PySem.Spec L2
open PyProof.Rows hiding St
inductive So where
  |bad |nx (ρ:aq) |rt (d:D) |bk (ρ:aq) |ct (ρ:aq) |ex (c:Str) (ρ:aq)
structure At (X:Cx) (H0:Hp) (O0 O:Addr→Prop) (H:Hp) (ρ:aq) (σ:St):Prop where
  same:Same H0 H
  eY:fL X.K O0 H0 O H
  sub:∀a,O0 a→O a
  inn:In X O H ρ σ
  mine:∀(i:Nat) e a,ρ[i]?=some (some e)→e.own=true→σ[i]?=some (some (.ref a))→H0 a=none∧¬O0 a
noncomputable def uy (X:Cx) (H0:Hp) (O0 O:Addr→Prop) (H:Hp) (E:Ends) (o:So):Prop:=match o with
  | .nx ρ'=>∀σ' H' O',At X H0 O0 O' H' ρ' σ'→fL X.K O H O' H'→E.nx σ' H'
  | .bk ρ'=>∀σ' H' O',At X H0 O0 O' H' ρ' σ'→fL X.K O H O' H'→E.bk σ' H'
  | .ct ρ'=>∀σ' H' O',At X H0 O0 O' H' ρ' σ'→fL X.K O H O' H'→E.ct σ' H'
  | .rt d=>∀v H',Same H0 H'→Rep X.K O0 H' d v→E.rt v H'
  | .ex c ρ'=>∀σ' H' O',At X H0 O0 O' H' ρ' σ'→J2 X c σ' H'
  | .bad=>False
theorem uy.go {X:Cx} {H0 H H1:Hp} {O0 O O1:Addr→Prop} {E:Ends} {o:So} (h:uy X H0 O0 O H E o) (r:fL X.K O H O1 H1):uy X H0 O0 O1 H1 E o:=by
  cases o with
  |bad=>exact h
  |rt d=>exact h
  |bk ρ2=>exact fun σ2 H2 O2 j2 r2=>h σ2 H2 O2 j2 (r.trans r2)
  |ct ρ2=>exact fun σ2 H2 O2 j2 r2=>h σ2 H2 O2 j2 (r.trans r2)
  |nx ρ2=>exact fun σ2 H2 O2 j2 r2=>h σ2 H2 O2 j2 (r.trans r2)
  |ex c ρ2=>exact h
noncomputable def tS (X:Cx) (g:aq→So):TS:=fun E σ H=>∃H0 O0 O ρ,At X H0 O0 O H ρ σ∧uy X H0 O0 O H E (g ρ)
noncomputable def DS (X:Cx) (st:Stmt) (g:aq→So):Prop:=PS X st (tS X g)
noncomputable def eF (X:Cx) (st:List Stmt) (g:aq→So):Prop:=PSs X st (tS X g)
theorem PS.imp {X:Cx} {e:Stmt} {t t':TS} (h:PS X e t) (w:∀σ H Q,t' Q σ H→t Q σ H):PS X e t':=fun pins s σ H Q I q=>h pins s σ H Q I (w σ H Q q)
theorem PSs.imp {X:Cx} {e:List Stmt} {t t':TS} (h:PSs X e t) (w:∀σ H Q,t' Q σ H→t Q σ H):PSs X e t':=fun pins s σ H Q I q=>h pins s σ H Q I (w σ H Q q)
section
variable {X:Cx} {H0 H H1:Hp} {O0 O:Addr→Prop} {ρ:aq} {σ:St}
theorem At.grow (j:At X H0 O0 O H ρ σ) (s:Same H H1):At X H0 O0 O H1 ρ σ:=⟨j.same.trans s,j.eY.trans (Same.eY s),j.sub,j.inn.same s,j.mine⟩
theorem At.set (j:At X H0 O0 O H ρ σ) {i:Nat} (hi:i < X.N.length) {d:D} {v:V} (r:Rep X.K O H d v):At X H0 O0 O H (ρ.set i (some (.val d))) (σ.set i (some v)):=by
  refine⟨j.same,j.eY,j.sub,j.inn.set hi r,fun k e a h ho hs=>?_⟩
  have h1:i < ρ.length:=by rw[j.inn.pF];exact hi
  by_cases hk:k=i
  · subst hk
    rw[List.getElem?_set_self h1] at h
    cases h;cases ho
  · rw[List.getElem?_set_ne (Ne.symm hk)] at h hs
    exact j.mine k e a h ho hs
noncomputable def abv:Option Ent→Option Ent
  |some (.lst ds)=>some (.val (.lst ds))
  |o=>o
noncomputable def cG (ρ:aq):aq:=ρ.map abv
noncomputable def LR (ρ:aq) (σ:St) (O:Addr→Prop):Addr→Prop:=fun a=>O a∧∀(i:Nat) ds,ρ[i]?=some (some (.lst ds))→σ[i]?≠some (some (.ref a))
theorem Ma {i:Nat} {e:Ent} (h:(cG ρ)[i]?=some (some e)):(ρ[i]?=some (some e)∧∀ds,e≠.lst ds)∨∃ds,ρ[i]?=some (some (.lst ds))∧e= .val (.lst ds):=by
  unfold cG at h
  rw[List.getElem?_map] at h
  cases q:ρ[i]? with
  |none=>rw[q] at h;cases h
  | some o=>
    rw[q] at h
    have h:abv o=some e:=Option.some.inj h
    cases o with
    |none=>cases h
    | some e'=>
      cases e' with
      |val d=>cases h;exact .inl ⟨rfl,fun _ z=>by cases z⟩
      |lst ds=>cases h;exact .inr ⟨ds,rfl,rfl⟩
      |Gq kvs=>cases h;exact .inl ⟨rfl,fun _ z=>by cases z⟩
      |obj t=>cases h;exact .inl ⟨rfl,fun _ z=>by cases z⟩
theorem In.cG (j:In X O H ρ σ):In X (LR ρ σ O) H (Pu.cG ρ) σ:=by
  refine⟨⟨fun i e h=>?_,fun i k e e' v hik hi hk oi ok si sk=>?_⟩,fun a z=>j.al a z.1,j.len,by unfold Pu.cG;rw[List.length_map];exact j.pF⟩
  · rcases Ma h with⟨h1,h2⟩ |⟨ds,h1,rfl⟩
    · obtain⟨v,h3,h4⟩:=j.env.get i e h1
      refine⟨v,h3,?_⟩
      cases e with
      |val d=>exact Rep.fewer (fun a z=>z.1) h4
      |lst ds=>exact absurd rfl (h2 ds)
      |obj t=>exact h4
      | Gq kvs=>
        obtain⟨a,ys,e1,o1,e2,k1,r1⟩:=h4
        refine⟨a,ys,e1,⟨o1,fun k ds hk hs=>?_⟩,e2,k1,r1.fewer fun a z=>z.1⟩
        by_cases hik:i=k
        · subst hik;rw[h1] at hk;cases hk
        · exact j.env.sep i k _ _ v hik h1 hk rfl rfl h3 (by rw[e1];exact hs)
    · obtain⟨v,h3,a,xs,e1,o1,e2,r1⟩:=j.env.get i _ h1
      exact⟨v,h3,by rw[e1];exact je (SqL.of e2) (fun z=>z.2 i ds h1 (by rw[←e1];exact h3)) (r1.fewer fun a z=>z.1)⟩
  · have un:∀{m:Nat} {e:Ent},(Pu.cG ρ)[m]?=some (some e)→e.own=true→ρ[m]?=some (some e):=fun {m e} h ho=>by
      rcases Ma h with⟨h1,_⟩ |⟨ds,_,rfl⟩
      · exact h1
      · cases ho
    exact j.env.sep i k e e' v hik (un hi oi) (un hk ok) oi ok si sk
theorem At.adz (j:At X H0 O0 O H ρ σ):∀a,O0 a→LR ρ σ O a:=fun a z=>⟨j.sub a z,fun i ds h hs=>(j.mine i _ a h rfl hs).2 z⟩
end
section
variable {X:Cx} {st:Stmt} {rest:List Stmt} {g k:aq→So} {f:aq→R D} {p:aq→R Bool} {e:Expr} {pos:Pos}
noncomputable def aZ (g k:aq→So):aq→So:=fun ρ=>match g ρ with
  | .nx ρ'=>k ρ'
  |o=>o
theorem cY:eF X [] .nx:=PSs.imp pss_nil fun σ H E h=>by
  obtain⟨H0,O0,O,ρ,j,h⟩:=h
  exact h σ H O j .refl
theorem aW (h:DS X st g):eF X [st] g:=pss_one h
theorem aU (h1:DS X st g) (h2:eF X rest k):eF X (st::rest) (aZ g k):=by
  refine PSs.imp (pss_cons h1 h2) fun σ H E h=>?_
  obtain⟨H0,O0,O,ρ,j,h⟩:=h
  unfold aZ at h
  refine⟨H0,O0,O,ρ,j,?_⟩
  cases e1:g ρ with
  |bad=>rw[e1] at h;exact h
  |rt d=>rw[e1] at h;exact h
  |bk ρ'=>rw[e1] at h;exact h
  |ct ρ'=>rw[e1] at h;exact h
  |ex c ρ'=>rw[e1] at h;exact h
  | nx ρ'=>
    rw[e1] at h
    have h:uy X H0 O0 O H E (k ρ'):=h
    exact fun σ' H' O' j' r'=>⟨H0,O0,O',ρ',j',h.go r'⟩
noncomputable def jc (r:R D) (ρ:aq) (k:D→So):So:=match r with
  | .ok d=>k d
  | .err c=> .ex c ρ
  | .bad=> .bad
noncomputable def retS (f:aq→R D):aq→So:=fun ρ=>jc (f (cG ρ)) ρ .rt
theorem bO (he:DE X e f):DS X (.Return (some e) pos) (retS f):=by
  refine PS.imp (ps_ret he) fun σ H E h=>?_
  obtain⟨H0,O0,O,ρ,j,h⟩:=h
  refine⟨cG ρ,LR ρ σ O,j.inn.cG,?_⟩
  unfold retS jc at h
  cases e1:f (cG ρ) with
  |bad=>rw[e1] at h;exact h
  |err c=>rw[e1] at h;exact h σ H O j
  |ok d=>rw[e1] at h;exact fun v H' s r=>h v H' (j.same.trans s) (Rep.fewer j.adz r)
noncomputable def uz (f:aq→R D):aq→So:=fun ρ=>jc (f (cG ρ)) ρ fun _=> .nx ρ
theorem Cv (he:DE X e f) (hs:swapsWith e none pos.line X.env=pure false:=by rfl):DS X (.Expr e pos) (uz f):=by
  refine PS.imp (ps_expr he hs) fun σ H E h=>?_
  obtain⟨H0,O0,O,ρ,j,h⟩:=h
  refine⟨cG ρ,LR ρ σ O,j.inn.cG,?_⟩
  unfold uz jc at h
  cases e1:f (cG ρ) with
  |bad=>rw[e1] at h;exact h
  |err c=>rw[e1] at h;exact h σ H O j
  |ok d=>rw[e1] at h;exact fun v H' s r=>h σ H' O (j.grow s) (Same.eY s)
noncomputable def bJ (f:aq→R D) (gt:D→aq→R aq):aq→So:=fun ρ=>jc (f ρ) ρ fun d=>match gt d ρ with
  | .ok ρ'=> .nx ρ'
  |_=> .bad
theorem cD (i:Nat) {x:Str} {pos':Pos} (hN:X.N.Nodup) (he:DE X e f) (hi:X.N[i]?=some x:=by rfl) (hx:Loc X.env.scope x:=by first |exact Or.inl rfl |exact Or.inr rfl) (hs:swapsWith e (some (.Name x pos')) pos.line X.env=pure false:=by rfl)
    (hf:X.fn x=true∨X.env.scope.names.lookup x=some .local:=by first |exact .inl rfl |exact .inr rfl):DS X (.Assign [.Name x pos'] e pos) (bJ f (aG i)):=by
  refine PS.imp (ps_set hN hi hx he hs hf) fun σ H E h=>?_
  obtain⟨H0,O0,O,ρ,j,h⟩:=h
  refine⟨ρ,O,j.inn,?_⟩
  unfold bJ jc at h
  cases e1:f ρ with
  |bad=>rw[e1] at h;exact h
  |err c=>rw[e1] at h;exact h σ H O j
  |ok d=>rw[e1] at h;exact fun v H' s r=>h _ H' O ((j.grow s).set (List.getElem?_eq_some_iff.mp hi).1 r) (Same.eY s)
theorem rM (i k:Nat) {x y:Str} {px py pt:Pos} {kt} (hc:X.calm=true) (hN:X.N.Nodup) (he:DE X e f) (hi:X.N[i]?=some x:=by rfl) (hk:X.N[k]?=some y:=by rfl)
    (hx:Loc X.env.scope x:=by first |exact Or.inl rfl |exact Or.inr rfl) (hy:Loc X.env.scope y:=by first |exact Or.inl rfl |exact Or.inr rfl)
    (hfx:X.fn x=true∨X.env.scope.names.lookup x=some .local:=by first |exact .inl rfl |exact .inr rfl) (Mf:X.fn y=true∨X.env.scope.names.lookup y=some .local:=by first |exact .inl rfl |exact .inr rfl)
    (hs:swapsWithSole [.Tuple [.Name x px,.Name y py] kt pt] e pos.line X.env=pure false:=by rfl) (hw:swappedStores [.Tuple [.Name x px,.Name y py] kt pt] e X.env=pure none:=by rfl):
    DS X (.Assign [.Tuple [.Name x px,.Name y py] kt pt] e pos) (bJ f (dG (dI 2 (bA (aG i) (bA (aG k) nilG))))):=by
  refine PS.imp (ps_asg he (pg_tup hc (pgs_cons (pg_name hN hi hx hfx) (pgs_cons (pg_name hN hk hy Mf) pgs_nil))) hs hw) fun σ H E h=>?_
  obtain⟨H0,O0,O,ρ,j,h⟩:=h
  refine⟨ρ,O,j.inn,?_⟩
  unfold bJ jc at h
  cases e1:f ρ with
  |bad=>rw[e1] at h;exact h
  |err c=>rw[e1] at h;exact h σ H O j
  | ok d=>
    rw[e1] at h
    intro v H' s r
    cases d with
    | tup ds=>
      match ds,h,r with
      |[],h,_=>exact h.elim
      |[_],h,_=>exact h.elim
      |_::_::_::_,h,_=>exact (show False by simpa[dG,dI,uy] using h).elim
      | [d1,d2],h,r=>
        obtain⟨a,xs,rfl,hq,rs⟩:=r.tup
        obtain⟨v1,v2,rfl,r1,r2⟩:=rs.two
        refine⟨a,[v1,v2],rfl,hq,rfl,v1,[v2],rfl,v2,[],rfl,rfl,?_⟩
        exact h _ H' O (((j.grow s).set (List.getElem?_eq_some_iff.mp hi).1 r1).set (List.getElem?_eq_some_iff.mp hk).1 r2) (Same.eY s)
    |_=>exact h.elim
noncomputable def gM (p:aq→R Bool) (g k:aq→So):aq→So:=fun ρ=>match p (cG ρ) with
  | .ok true=>g ρ
  | .ok false=>k ρ
  | .err c=> .ex c ρ
  | .bad=> .bad
theorem TV {g:aq→So} {E:Ends} {H0 H H1:Hp} {O0 O:Addr→Prop} {ρ:aq} {σ:St} (j:At X H0 O0 O H ρ σ) (s:Same H H1) (h:uy X H0 O0 O H E (g ρ)):tS X g E σ H1:=
  ⟨H0,O0,O,ρ,j.grow s,h.go (Same.eY s)⟩
theorem fB {c:Expr} {a b:List Stmt} (hc:DT X c p) (ha:eF X a g) (hb:eF X b k):DS X (.If c a b pos) (gM p g k):=by
  refine PS.imp (ps_if hc ha hb) fun σ H E h=>?_
  obtain⟨H0,O0,O,ρ,j,h⟩:=h
  refine⟨cG ρ,LR ρ σ O,j.inn.cG,?_⟩
  unfold gM at h
  cases e1:p (cG ρ) with
  |bad=>rw[e1] at h;exact h
  |err c=>rw[e1] at h;exact h σ H O j
  | ok t=>
    rw[e1] at h
    intro b' H' s e
    subst e
    cases t with
    |true=>rw[if_pos rfl];exact TV j s h
    |false=>rw[if_neg Bool.false_ne_true];exact TV j s h
theorem Mg:DS X st (fun _=> .bad):=fun pins s σ H E I h=>by
  obtain⟨_,_,_,_,_,h⟩:=h
  exact h.elim
noncomputable def forL (gt:D→aq→R aq) (b:aq→So):List D→aq→So
  |[],ρ=> .nx ρ
  | x ::xs,ρ=>match gt x ρ with
    | .ok ρ1=>match b ρ1 with
      | .nx ρ2=>forL gt b xs ρ2
      | .ct ρ2=>forL gt b xs ρ2
      | .bk ρ2=> .nx ρ2
      |o=>o
    |_=> .bad
noncomputable def oE (fi:aq→R (List D)) (gt:D→aq→R aq) (b:aq→So):aq→So:=fun ρ=>match fi ρ with
  | .ok xs=>forL gt b xs ρ
  | .err c=> .ex c ρ
  | .bad=> .bad
inductive adA (X:Cx) (gt:D→aq→R aq) (v:V) (σ:St) (H:Hp) (Q:St→Hp→Prop):Prop
  |mk (H0:Hp) (O0 O:Addr→Prop) (ρ:aq) (d:D) (ρ':aq) (j:At X H0 O0 O H ρ σ) (r:Rep X.K O H d v) (e:gt d ρ= .ok ρ') (q:∀σ',At X H0 O0 O H ρ' σ'→Q σ' H):adA X gt v σ H Q
noncomputable def DGA (X:Cx) (tg:Expr) (gt:D→aq→R aq):Prop:=PG X tg fun v σ H Q=>adA X gt v σ H Q
theorem pJ (i:Nat) {x:Str} (hN:X.N.Nodup) (hi:X.N[i]?=some x:=by rfl) (hx:Loc X.env.scope x:=by first |exact Or.inl rfl |exact Or.inr rfl) (hf:X.fn x=true∨X.env.scope.names.lookup x=some .local:=by first |exact .inl rfl |exact .inr rfl):DGA X (.Name x pos) (aG i):=by
  intro pins s σ H v u Q I r h
  obtain⟨H0,O0,O,ρ,d,ρ',j,rd,e,q⟩:=h
  cases e
  exact pg_name hN hi hx hf pins s σ H v u Q I r (q _ (j.set (List.getElem?_eq_some_iff.mp hi).1 rd))
theorem Js (i k:Nat) {x y:Str} {px py:Pos} {kt} (hc:X.calm=true) (hN:X.N.Nodup) (hi:X.N[i]?=some x:=by rfl) (hk:X.N[k]?=some y:=by rfl)
    (hx:Loc X.env.scope x:=by first |exact Or.inl rfl |exact Or.inr rfl) (hy:Loc X.env.scope y:=by first |exact Or.inl rfl |exact Or.inr rfl)
    (hfx:X.fn x=true∨X.env.scope.names.lookup x=some .local:=by first |exact .inl rfl |exact .inr rfl) (Mf:X.fn y=true∨X.env.scope.names.lookup y=some .local:=by first |exact .inl rfl |exact .inr rfl):
    DGA X (.Tuple [.Name x px,.Name y py] kt pos) (dG (dI 2 (bA (aG i) (bA (aG k) nilG)))):=by
  intro pins s σ H v u Q I r h
  obtain⟨H0,O0,O,ρ,d,ρ',j,rd,e,q⟩:=h
  cases d with
  | tup ds=>
    match ds,e,rd with
    |[],e,_=>cases e
    |[_],e,_=>cases e
    |_::_::_::_,e,_=>simp[dG,dI] at e
    | [d1,d2],e,rd=>
      obtain⟨a,xs,rfl,hq,rs⟩:=rd.tup
      obtain⟨v1,v2,rfl,r1,r2⟩:=rs.two
      cases e
      refine pg_tup hc (pgs_cons (pg_name hN hi hx hfx) (pgs_cons (pg_name hN hk hy Mf) pgs_nil)) rfl rfl pins s σ H _ u Q I r ⟨a,[v1,v2],rfl,hq,rfl,v1,[v2],rfl,v2,[],rfl,rfl,?_⟩
      exact q _ ((j.set (List.getElem?_eq_some_iff.mp hi).1 r1).set (List.getElem?_eq_some_iff.mp hk).1 r2)
  |_=>cases e
theorem mJ {tg iter:Expr} {body:List Stmt} {fi:aq→R (List D)} {gt:D→aq→R aq} {b:aq→So} (hp:PassesOwn (model X.prog X.w) X.A X.env X.xe) (hc:X.calm=true) (hi:DI X tg iter fi) (hg:DGA X tg gt) (hb:eF X body b)
    (hs:∀x,foldedSetIterable iter X.env x=pure x:=by intro _;rfl):DS X (.For tg iter body [] pos) (oE fi gt b):=by
  refine PS.imp (ps_for hp hc hi hg hb hs) fun σ H E h=>?_
  obtain⟨H0,O0,O,ρ,j,h⟩:=h
  refine⟨ρ,O,j.inn,?_⟩
  unfold oE at h
  cases e1:fi ρ with
  |bad=>rw[e1] at h;exact h
  |err c=>rw[e1] at h;exact h σ H O j
  | ok xs =>
    rw[e1] at h
    have h:uy X H0 O0 O H E (forL gt b xs ρ):=h
    intro J H1 s1 yr
    have j1:=j.grow s1
    have q1:fL X.K O H O H1:=Same.eY s1
    refine⟨fun i m σ' H'=>∃O' ρ',At X H0 O0 O' H' ρ' σ'∧fL X.K O H1 O' H'∧i≤xs.length∧m=xs.length - i∧forL gt b (xs.drop i) ρ'=forL gt b xs ρ,⟨_,O,ρ,j1,.refl,Nat.zero_le _,rfl,by simp⟩,?_⟩
    rintro i m σ' H' ⟨O',ρ',j',r',hil,rfl,hf⟩
    have J7:=yr O' H' r' i
    by_cases hlt:i < xs.length
    · have ed:xs.drop i=xs[i]::xs.drop (i+1):=List.drop_eq_getElem_cons hlt
      obtain⟨Xz,jy⟩:=J7.1 xs[i] (by simp[hlt])
      refine .inr ⟨Xz,fun σ2 H2=>∃O2 ρ2,At X H0 O0 O2 H2 ρ2 σ2∧fL X.K O H1 O2 H2∧forL gt b (xs.drop (i+1)) ρ2=forL gt b xs ρ,?_,fun x H2 y=>?_⟩
      · rintro σ2 H2 ⟨O2,ρ2,j2,r2,hf2⟩
        exact⟨xs.length - (i+1),by omega,O2,ρ2,j2,r2,by omega,rfl,hf2⟩
      · obtain⟨sm,rep⟩:=jy x H2 y
        rw[ed] at hf
        have hf:(match gt xs[i] ρ' with
          | .ok ρ1=>match b ρ1 with
            | .nx ρ2=>forL gt b (xs.drop (i+1)) ρ2
            | .ct ρ2=>forL gt b (xs.drop (i+1)) ρ2
            | .bk ρ2=> .nx ρ2
            |o=>o
          |_=> .bad)=forL gt b xs ρ:=hf
        cases e2:gt xs[i] ρ' with
        |bad=>rw[e2] at hf;rw[←hf] at h;exact h.elim
        |err c=>rw[e2] at hf;rw[←hf] at h;exact h.elim
        | ok ρ1=>
          rw[e2] at hf
          refine⟨H0,O0,O',ρ',xs[i],ρ1,j'.grow sm,rep,e2,fun σ3 j3=>?_⟩
          refine⟨H0,O0,O',ρ1,j3,?_⟩
          have r3:fL X.K O H1 O' H2:=r'.trans (Same.eY sm)
          have hf:(match b ρ1 with
            | .nx ρ2=>forL gt b (xs.drop (i+1)) ρ2
            | .ct ρ2=>forL gt b (xs.drop (i+1)) ρ2
            | .bk ρ2=> .nx ρ2
            |o=>o)=forL gt b xs ρ:=hf
          cases e3:b ρ1 with
          |bad=>rw[e3] at hf;rw[←hf] at h;exact h
          |rt d=>rw[e3] at hf;rw[←hf] at h;exact h
          |ex c ρ2=>rw[e3] at hf;rw[←hf] at h;exact h
          |bk ρ2=>rw[e3] at hf;rw[←hf] at h;exact fun σ4 H4 O4 j4 r4=>h σ4 H4 O4 j4 (q1.trans (r3.trans r4))
          |nx ρ2=>rw[e3] at hf;exact fun σ4 H4 O4 j4 r4=>⟨O4,ρ2,j4,r3.trans r4,hf⟩
          |ct ρ2=>rw[e3] at hf;exact fun σ4 H4 O4 j4 r4=>⟨O4,ρ2,j4,r3.trans r4,hf⟩
    · have ei:i=xs.length:=by omega
      subst ei
      have hf:forL gt b (xs.drop xs.length) ρ'=forL gt b xs ρ:=hf
      rw[List.drop_length] at hf
      rw[←hf] at h
      exact .inl ⟨J7.2 (Nat.le_refl _),h σ' H' O' j' (q1.trans r')⟩
noncomputable def gO (p:aq→R Bool) (b:aq→So):Nat→aq→So
  |0,_=> .bad
  | n +1,ρ=>match p (cG ρ) with
    | .ok true=>match b ρ with
      | .nx ρ'=>gO p b n ρ'
      | .ct ρ'=>gO p b n ρ'
      | .bk ρ'=> .nx ρ'
      |o=>o
    | .ok false=> .nx ρ
    | .err c=> .ex c ρ
    | .bad=> .bad
theorem Ei (n:Nat) {c:Expr} {body:List Stmt} {b:aq→So} (hp:PassesOwn (model X.prog X.w) X.A X.env X.xe) (hc:DT X c p) (hb:eF X body b):DS X (.While c body [] pos) (gO p b n):=by
  refine PS.imp (ps_while hp hc hb) fun σ H E h=>?_
  obtain⟨H0,O0,O,ρ,j,h⟩:=h
  have h:uy X H0 O0 O H E (gO p b n ρ):=h
  refine⟨fun m σ' H'=>∃O' ρ',At X H0 O0 O' H' ρ' σ'∧fL X.K O H O' H'∧gO p b m ρ'=gO p b n ρ,⟨n,O,ρ,j,.refl,rfl⟩,?_⟩
  rintro m σ' H' ⟨O',ρ',j',r',hf⟩
  refine⟨cG ρ',LR ρ' σ' O',j'.inn.cG,?_⟩
  cases m with
  |zero=>rw[←hf] at h;exact h.elim
  | succ m =>
    have hf:(match p (cG ρ') with
      | .ok true=>match b ρ' with
        | .nx ρ'=>gO p b m ρ'
        | .ct ρ'=>gO p b m ρ'
        | .bk ρ'=> .nx ρ'
        |o=>o
      | .ok false=> .nx ρ'
      | .err c=> .ex c ρ'
      | .bad=> .bad)=gO p b n ρ:=hf
    cases e1:p (cG ρ') with
    |bad=>rw[e1] at hf;rw[←hf] at h;exact h
    |err c=>rw[e1] at hf;rw[←hf] at h;exact h σ' H' O' j'
    | ok t =>
      rw[e1] at hf
      intro t' H1 s1 e
      subst e
      have j1:=j'.grow s1
      have r1:fL X.K O H O' H1:=r'.trans (Same.eY s1)
      cases t with
      | false=>
        rw[if_neg Bool.false_ne_true]
        rw[←hf] at h
        exact h σ' H1 O' j1 r1
      | true=>
        rw[if_pos rfl]
        refine⟨fun σ2 H2=>∃O2 ρ2,At X H0 O0 O2 H2 ρ2 σ2∧fL X.K O H O2 H2∧gO p b m ρ2=gO p b n ρ,?_,H0,O0,O',ρ',j1,?_⟩
        · rintro σ2 H2 ⟨O2,ρ2,j2,r2,hf2⟩
          exact⟨m,by omega,O2,ρ2,j2,r2,hf2⟩
        · have hf:(match b ρ' with
            | .nx ρ'=>gO p b m ρ'
            | .ct ρ'=>gO p b m ρ'
            | .bk ρ'=> .nx ρ'
            |o=>o)=gO p b n ρ:=hf
          cases e3:b ρ' with
          |bad=>rw[e3] at hf;rw[←hf] at h;exact h
          |rt d=>rw[e3] at hf;rw[←hf] at h;exact h
          |ex c ρ2=>rw[e3] at hf;rw[←hf] at h;exact h
          |bk ρ2=>rw[e3] at hf;rw[←hf] at h;exact fun σ4 H4 O4 j4 r4=>h σ4 H4 O4 j4 (r1.trans r4)
          |nx ρ2=>rw[e3] at hf;exact fun σ4 H4 O4 j4 r4=>⟨O4,ρ2,j4,r1.trans r4,hf⟩
          |ct ρ2=>rw[e3] at hf;exact fun σ4 H4 O4 j4 r4=>⟨O4,ρ2,j4,r1.trans r4,hf⟩
end
end Pu
namespace Pu
open PySem PySem.Spec L2
open PyProof.Rows hiding St
section
variable {X:Cx} {a b e:Expr} {es:List Expr} {f g:aq→R D} {fa:aq→R (List D)} {pos:Pos}
noncomputable def aeF (K:PySem.W.Frag) (t:TA):TE:=fun σ H Q=>t σ H fun xs H1=>xs.length≤sizeLine∧∀p,H1 p=none→K.lookup p=none→Q (.ref p) (upd H1 p (.lst xs))
theorem Inv.aax {pins:List (Addr×Obj)} {σ:St} {H:Hp} {s:Shared} (I:Inv X pins σ H s):X.K.lookup s.heap.objs.size=none:=by
  cases q:X.K.lookup s.heap.objs.size with
  |none=>rfl
  |some o=>exact absurd (Heap.lt_size (I.kIn _ _ q)) (Nat.lt_irrefl _)
theorem TX {t:TA} (h:PA X es t):PE X (.List es pos) (aeF X.K t):=by
  intro pins s σ H Q I hq
  refine wpAny_List_spliced (thn (h pos pins s σ H _ I hq) fun us s1 ⟨xs,H1,I1,r,z,q⟩=>⟨by rw[←r.length];exact z,?_⟩)
  have hf:H1 s1.heap.objs.size=none:=I1.hok.fresh (Nat.le_refl _)
  refine⟨.ref s1.heap.objs.size,upd H1 s1.heap.objs.size (.lst xs),I1.laid (t':=s1.toks) (fun b u e=>Heap.get?_push_of_some _ e) (Nat.le_refl _) ?_,rfl,q _ hf (Inv.aax I1)⟩
  exact⟨z,us,0,r,Heap.get?_push_size _ rfl⟩
noncomputable def newL (fa:aq→R (List D)) (i:Nat):aq→So:=fun ρ=>match fa ρ with
  | .ok ds=>if ds.length≤1000000 then .nx (ρ.set i (some (.lst ds))) else .bad
  | .err c=> .ex c ρ
  | .bad=> .bad
theorem At.own {H0 H:Hp} {O0 O:Addr→Prop} {ρ:aq} {σ:St} (j:At X H0 O0 O H ρ σ) {i:Nat} (hi:i < X.N.length) {p:Addr} {o:HO} {en:Ent} (hp:H p=none) (hk:X.K.lookup p=none) (ho:en.own=true)
    (hr:xu X.K (fun a=>O a∨a=p) (upd H p o) en (.ref p)):
    At X H0 O0 (fun a=>O a∨a=p) (upd H p o) (ρ.set i (some en)) (σ.set i (some (.ref p)))∧fL X.K O H (fun a=>O a∨a=p) (upd H p o):=by
  have s1:Same H (upd H p o):=Same.upd hp
  have r1:fL X.K O H (fun a=>O a∨a=p) (upd H p o):=⟨(Same.eY (K:=X.K) (O:=O) s1).ext,fun a z=>z.elim .inl fun e=> .inr (by rw[e];exact⟨hp,hk⟩),(Same.eY (K:=X.K) (O:=O) s1).dom⟩
  have h1:i < ρ.length:=by rw[j.inn.pF];exact hi
  have h2:i < σ.length:=by rw[j.inn.len];exact hi
  have nOp:¬O p:=j.inn.pG hp
  have old:∀{e:Ent} {v:V},xu X.K O H e v→xu X.K (fun a=>O a∨a=p) (upd H p o) e v∧(e.own=true→v≠.ref p):=fun {e v} h=>by
    cases e with
    |val d=>exact⟨Rep.go r1 h,fun z=>by cases z⟩
    | lst ds=>
      obtain⟨a,xs,e1,o1,e2,r⟩:=h
      exact⟨⟨a,xs,e1,.inl o1,s1 _ _ e2,r.go r1⟩,fun _ z=>by rw[e1] at z;cases z;exact nOp o1⟩
    |obj t=>exact⟨uO.same s1 h,fun z=>by cases z⟩
    | Gq kvs=>
      obtain⟨a,xs,e1,o1,e2,k,r⟩:=h
      exact⟨⟨a,xs,e1,.inl o1,s1 _ _ e2,k,r.go r1⟩,fun _ z=>by rw[e1] at z;cases z;exact nOp o1⟩
  refine⟨⟨j.same.trans s1,j.eY.trans r1,fun a z=> .inl (j.sub a z),⟨⟨fun k e h=>?_,fun k l e e' v hkl hk' hl ok ol sk sl=>?_⟩,fun a z=>?_,by rw[List.length_set];exact j.inn.len,by rw[List.length_set];exact j.inn.pF⟩,fun k e a h hoo hs=>?_⟩,r1⟩
  · by_cases hki:k=i
    · subst hki
      rw[List.getElem?_set_self h1] at h
      cases h
      exact⟨.ref p,List.getElem?_set_self h2,hr⟩
    · rw[List.getElem?_set_ne (Ne.symm hki)] at h
      obtain⟨v,q1,q2⟩:=j.inn.env.get k e h
      exact⟨v,by rw[List.getElem?_set_ne (Ne.symm hki)];exact q1,(old q2).1⟩
  · by_cases hki:k=i
    · subst hki
      rw[List.getElem?_set_self h2] at sk
      cases sk
      rw[List.getElem?_set_ne hkl] at hl sl
      obtain⟨v,q1,q2⟩:=j.inn.env.get l e' hl
      rw[q1] at sl
      cases sl
      exact (old q2).2 ol rfl
    · rw[List.getElem?_set_ne (Ne.symm hki)] at hk' sk
      by_cases hli:l=i
      · subst hli
        rw[List.getElem?_set_self h2] at sl
        cases sl
        obtain⟨v,q1,q2⟩:=j.inn.env.get k e hk'
        rw[q1] at sk
        cases sk
        exact (old q2).2 ok rfl
      · rw[List.getElem?_set_ne (Ne.symm hli)] at hl sl
        exact j.inn.env.sep k l e e' v hkl hk' hl ok ol sk sl
  · rcases z with z |z
    · obtain⟨u,q⟩:=j.inn.al a z
      exact⟨u,s1 _ _ q⟩
    · rw[z];exact⟨o,upd_same⟩
  · by_cases hki:k=i
    · subst hki
      rw[List.getElem?_set_self h2] at hs
      cases hs
      exact⟨j.same.free hp,fun z=>nOp (j.sub _ z)⟩
    · rw[List.getElem?_set_ne (Ne.symm hki)] at h hs
      exact j.mine k e a h hoo hs
theorem TY (i:Nat) {x:Str} {pos' p2:Pos} (hN:X.N.Nodup) (ha:DA X es fa) (hi:X.N[i]?=some x:=by rfl) (hx:Loc X.env.scope x:=by first |exact Or.inl rfl |exact Or.inr rfl) (hs:swapsWith (.List es p2) (some (.Name x pos')) pos.line X.env=pure false:=by rfl)
    (hf:X.fn x=true∨X.env.scope.names.lookup x=some .local:=by first |exact .inl rfl |exact .inr rfl):DS X (.Assign [.Name x pos'] (.List es p2) pos) (newL fa i):=by
  refine PS.imp (ps_set hN hi hx (TX ha) hs hf) fun σ H E h=>?_
  obtain⟨H0,O0,O,ρ,j,h⟩:=h
  refine⟨ρ,O,j.inn,?_⟩
  unfold newL at h
  cases e1:fa ρ with
  |bad=>rw[e1] at h;exact h
  |err c=>rw[e1] at h;exact h σ H O j
  | ok ds=>
    rw[e1] at h
    intro vs H1 s1 r1
    by_cases hl:ds.length≤1000000
    · simp only[if_pos hl] at h
      refine⟨by rw[←r1.length];exact Nat.le_trans hl eE,fun p hp hk=>?_⟩
      obtain⟨j2,r2⟩:=(j.grow s1).own (List.getElem?_eq_some_iff.mp hi).1 (o:= .lst vs) (en:= .lst ds) hp hk rfl ⟨p,vs,rfl,.inr rfl,upd_same,r1.go ⟨(Same.eY (K:=X.K) (O:=O) (Same.upd hp)).ext,fun a z=>z.elim .inl fun e=> .inr (by rw[e];exact⟨hp,hk⟩),(Same.eY (K:=X.K) (O:=O) (Same.upd hp)).dom⟩⟩
      exact h _ _ _ j2 ((Same.eY s1).trans r2)
    · simp only[if_neg hl] at h
      exact h.elim
theorem At.chg {H0 H:Hp} {O0 O:Addr→Prop} {ρ:aq} {σ:St} (j:At X H0 O0 O H ρ σ) {i:Nat} {e0 en:Ent} {p:Addr} {u o:HO} (hi:ρ[i]?=some (some e0)) (h0:e0.own=true) (hp:σ[i]?=some (some (.ref p))) (hO:O p) (hu:H p=some u) (hm:Mut (some u)) (ho:en.own=true)
    (hr:fL X.K O H O (upd H p o)→xu X.K O (upd H p o) en (.ref p)):At X H0 O0 O (upd H p o) (ρ.set i (some en)) σ∧fL X.K O H O (upd H p o):=by
  have nt:∀b xs,Rd H b (.tup xs)→b≠p:=fun b xs h z=>by
    subst z
    rcases h with h |⟨_,h⟩ <;> rw[hu] at h <;> cases h <;> exact hm
  have r1:fL X.K O H O (upd H p o):=by
    refine⟨⟨fun b xs h=>?_,fun b xs n h=>?_⟩,fun a z=> .inl z,fun a z=>?_⟩
    · have nb:=nt b xs h
      rcases h with h |⟨q,h⟩
      · exact .inl (by rw[upd_ne nb];exact h)
      · exact .inr ⟨q,by rw[upd_ne nb];exact h⟩
    · have nb:b≠p:=fun z=>n (by rw[z];exact hO)
      rcases h with h |⟨q,h⟩
      · exact .inl (by rw[upd_ne nb];exact h)
      · exact .inr ⟨q,by rw[upd_ne nb];exact h⟩
    · by_cases ea:a=p
      · rw[ea,upd_same] at z;cases z
      · rw[upd_ne ea] at z;exact z
  have h1:i < ρ.length:=(List.getElem?_eq_some_iff.mp hi).1
  obtain⟨hH0,hO0⟩:=j.mine i e0 p hi h0 hp
  refine⟨⟨fun b q z=>?_,j.eY.trans r1,j.sub,⟨⟨fun k e h=>?_,fun k l e e' v hkl hk' hl ok ol sk sl=>?_⟩,fun a z=>?_,j.inn.len,by rw[List.length_set];exact j.inn.pF⟩,fun k e a h hoo hs=>?_⟩,r1⟩
  · rw[upd_ne (ne_of_none z hH0)];exact j.same _ _ z
  · by_cases hki:k=i
    · subst hki
      rw[List.getElem?_set_self h1] at h
      cases h
      exact⟨_,hp,hr r1⟩
    · rw [List.getElem?_set_ne (Ne.symm hki)] at h
      obtain⟨v,q1,q2⟩:=j.inn.env.get k e h
      refine⟨v,q1,?_⟩
      have nv:e.own=true→v≠.ref p:=fun z w=>by
        subst w
        exact j.inn.env.sep k i e e0 _ hki h hi z h0 q1 hp
      cases e with
      |val d=>exact Rep.go r1 q2
      | obj t=>exact uO.fz (fun b o' u hb=>by
          have nb:b≠p:=fun z=>by rw[z,hu] at hb;cases hb;exact hm
          rw[upd_ne nb];exact hb) q2
      | lst ds=>
        obtain⟨a,xs,e1,o1,e2,r⟩:=q2
        have na:a≠p:=fun z=>nv rfl (by rw[e1,z])
        exact⟨a,xs,e1,o1,by rw[upd_ne na];exact e2,r.go r1⟩
      | Gq kvs=>
        obtain⟨a,xs,e1,o1,e2,kk,r⟩:=q2
        have na:a≠p:=fun z=>nv rfl (by rw[e1,z])
        exact⟨a,xs,e1,o1,by rw[upd_ne na];exact e2,kk,r.go r1⟩
  · have un:∀{m:Nat} {x:Ent},(ρ.set i (some en))[m]?=some (some x)→x.own=true→∃y,ρ[m]?=some (some y)∧y.own=true:=fun {m x} h ho'=>by
      by_cases hmi:m=i
      · rw[hmi];exact⟨e0,hi,h0⟩
      · rw[List.getElem?_set_ne (Ne.symm hmi)] at h;exact⟨x,h,ho'⟩
    obtain⟨y,hy,oy⟩:=un hk' ok
    obtain⟨y',hy',oy'⟩:=un hl ol
    exact j.inn.env.sep k l y y' v hkl hy hy' oy oy' sk sl
  · by_cases ea:a=p
    · rw[ea];exact⟨o,upd_same⟩
    · obtain⟨w,q⟩:=j.inn.al a z
      exact⟨w,by rw[upd_ne ea];exact q⟩
  · by_cases hki:k=i
    · subst hki
      rw[hp] at hs;cases hs
      exact⟨hH0,hO0⟩
    · rw[List.getElem?_set_ne (Ne.symm hki)] at h
      exact j.mine k e a h hoo hs
noncomputable def uR (i:Nat) (f:aq→R D):aq→So:=fun ρ=>jc (Dm (f ρ)) ρ fun d=>match ρ[i]? with
  |some (some (.lst ds))=>if ds.length < 1000000 then .nx (ρ.set i (some (.lst (ds++[d])))) else .bad
  |_=> .bad
theorem Gw (i:Nat) {x:Str} {px apos cpos:Pos} (he:DE X e f) (hN:X.N[i]?=some x:=by rfl) (hv:Vis X.env.scope x:=by first |exact Or.inl rfl |exact Or.inr (Or.inl rfl) |exact Or.inr (Or.inr rfl))
    (hd:(x ==("__debug__" :Str))=false:=by decide) (hcd:(x ==("__classdict__" :Str))=false:=by decide)
    (hbase:attributeBase (.Name x px) "append" X.env (eval (.Name x px) X.env)=eval (.Name x px) X.env:=by rfl)
    (hfew:((backTo cpos (starEach [e] X.env)).all (fun x=> !x.1) && (backToKw cpos (keywordEach [] X.env)).all (fun x=>x.1.isSome)
      && decide ([e].length+([]:List Keyword).length+(if ([]:List Keyword).isEmpty then 0 else 1) < 30))=true:=by rfl)
    (hline:(apos.endLine ==cpos.line)=true:=by rfl) (hs1:starEach [e] X.env=(false,eval e X.env)::starEach [] X.env:=by rfl) (hplain:(backTo cpos (starEach [] X.env)).any (·.1)=false:=by rfl)
    (hs:swapsWith (.Call (.Attribute (.Name x px) "append" apos) [e] [] cpos) none pos.line X.env=pure false:=by rfl):
    DS X (.Expr (.Call (.Attribute (.Name x px) "append" apos) [e] [] cpos) pos) (uR i f):=by
  refine PS.imp (ps_expr (pe_bm PySem.F.plainAttrs_list PySem.F.slot_list_append PySem.F.type_list_append mt_append (pe_var hN hv hd hcd) (pa_cons he pa_nil hs1) hbase hfew hline hs1 hplain) hs) fun σ H E h=>?_
  obtain⟨H0,O0,O,ρ,j,h⟩:=h
  unfold uR jc at h
  cases e1:f ρ with
  |bad=>rw[e1] at h;exact h.elim
  |err c=>rw[e1] at h;exact h.elim
  | ok d =>
    rw[e1] at h
    cases e2:ρ[i]? with
    |none=>simp only[e2] at h;exact h.elim
    | some oe=>
      cases oe with
      |none=>simp only[e2] at h;exact h.elim
      | some en=>
        cases en with
        |val _=>simp only[e2] at h;exact h.elim
        |Gq _=>simp only[e2] at h;exact h.elim
        |obj _=>simp only[e2] at h;exact h.elim
        | lst ds=>
          simp only[e2] at h
          by_cases hl:ds.length < 1000000
          · simp only[if_pos hl] at h
            obtain⟨v,hv1,a,xs,rfl,hO,hH,rs⟩:=j.inn.env.get i _ e2
            refine⟨.ref a,hv1,.inl ⟨rfl,xs,SqL.of hH⟩,?_⟩
            refine⟨ρ,O,j.inn,?_⟩
            rw[e1]
            intro w H1 s1 rw1
            have j1:=j.grow s1
            obtain⟨_,hv2,a2,xs2,e3,hO2,hH2,J8⟩:=j1.inn.env.get i _ e2
            rw[hv1] at hv2
            cases hv2
            cases e3
            have hlen:=J8.length
            refine⟨a,xs2,w,rfl,rfl,hH2,by have:=kI;omega,?_⟩
            obtain⟨j2,r2⟩:=j1.chg (o:= .lst (xs2++[w])) (en:= .lst (ds++[d])) e2 rfl hv1 hO2 hH2 trivial rfl fun r=>⟨a,xs2++[w],rfl,hO2,upd_same,(J8.append (.cons rw1 .nil)).go r⟩
            exact h _ _ _ j2 ((Same.eY s1).trans r2)
          · simp only[if_neg hl] at h;exact h.elim
end
inductive SpD (K:PySem.W.Frag) (n:Nat) (F:List D→R D) (vs:List V) (H:Hp) (Q:VK):Prop
  | mk (O:Addr→Prop) (ds:List D) (r:aV K O H ds vs) (hl:ds.length=n) (al:∀a,O a→∃o,H a=some o) (h:match F ds with
    | .ok d=>∀v H',Same H H'→Rep K O H' d v→Q v H'
    |_=>False):SpD K n F vs H Q
noncomputable def J9 (K:PySem.W.Frag) (n:Nat) (F:List D→R D):Sp:=fun vs H Q _=>SpD K n F vs H Q
noncomputable def cO (n:Nat) (g:aq→So) (ds:List D):R D:=match g (ds.map (fun d=>some (.val d))++List.replicate n none) with
  | .rt d=> .ok d
  | .nx _=> .ok .non
  | .ex c _=> .err c
  |_=> .bad
section
variable {P:Program} {w:World} {K:PySem.W.Frag} {mg:Str→Option Value} {base:Heap}
theorem rN {K:PySem.W.Frag} {O:Addr→Prop} {H:Hp} {ds:List D} {vs:List V} (r:aV K O H ds vs) (m:Nat) (i:Nat) (e:Ent) (h:(ds.map (fun d=>some (Ent.val d))++List.replicate m none)[i]?=some (some e)):∃v,(vs.map some++List.replicate m none)[i]?=some (some v)∧xu K O H e v∧e.own=false:=by
  by_cases hi:i < ds.length
  · rw[List.getElem?_append_left (by simpa using hi),List.getElem?_map] at h
    cases q:ds[i]? with
    |none=>rw[q] at h;cases h
    | some d=>
      rw[q] at h
      cases h
      obtain⟨v,e1,rv⟩:=r.get q
      exact⟨v,by rw[List.getElem?_append_left (by rw[List.length_map,←r.length];exact hi),List.getElem?_map,e1];rfl,rv,rfl⟩
  · rw[List.getElem?_append_right (by simpa using hi),List.getElem?_replicate] at h
    split at h <;> cases h
theorem fnD {x qual:Str} {st:Stmt} {f:Addr} {fd:FuncData} {N ps:List Str} {k n m:Nat} {g:aq→So} {F:List D→R D} (Fn:Fun K x qual st f fd) (S:FnScope N ps (defScope st)) (hn:ps.length=n) (hm:N.length=n+m)
    (hb:∀(cdv:Value) (A:Around) (outer:List PySem.Env) (s:Shared) (H:Hp) (E:XK),Room k (A.deeper (envOfC qual (defScope st) s.heap.objs.size f cdv))→eF (cxOf CX0 P w K mg base N qual (defScope st) f cdv A outer s H E).nox (defBody st) g)
    (hF:∀ds d,ds.length=n→F ds= .ok d→cO m g ds= .ok d):FnOk P w K mg base CX0 (k+1) f fd ps (J9 K n F):=by
  refine Fn.ok S (fun vs H Q E h=>?_) (fun cdv A outer s H vs Q E hr h=>?_)
  · obtain⟨O,ds,r,hl,_⟩:=h
    rw[hn,←hl,r.length]
  · obtain⟨O,ds,r,hl,al,h⟩:=h
    refine⟨_,hb cdv A outer s H E hr,H,O,O,ds.map (fun d=>some (.val d))++List.replicate m none,?_,?_⟩
    · have hst:L2.start N vs=vs.map some++List.replicate m none:=by
        unfold L2.start
        rw[show N.length - vs.length=m by rw[←r.length];omega]
      refine⟨Same.refl _,.refl,fun _ z=>z,⟨⟨fun i e q=>?_,fun i k e e' v _ hi _ oi=>?_⟩,al,?_,?_⟩,fun i e a q ho=>?_⟩
      · obtain⟨v,h1,h2,_⟩:=rN r m i e q
        exact⟨v,by rw[hst];exact h1,h2⟩
      · obtain⟨_,_,_,h3⟩:=rN r m i e hi
        rw[h3] at oi;cases oi
      · show (L2.start N vs).length=N.length
        rw[hst,List.length_append,List.length_map,List.length_replicate,←r.length];omega
      · show (ds.map (fun d=>some (Ent.val d))++List.replicate m none).length=N.length
        rw[List.length_append,List.length_map,List.length_replicate];omega
      · obtain⟨_,_,_,h3⟩:=rN r m i e q
        rw[h3] at ho;cases ho
    · cases e:F ds with
      |bad=>rw[e] at h;exact h.elim
      |err c=>rw[e] at h;exact h.elim
      | ok d=>
        rw[e] at h
        have q:=hF ds d hl e
        unfold cO at q
        cases e2:g (ds.map (fun d=>some (.val d))++List.replicate m none) with
        | rt d'=>
          rw[e2] at q
          cases q
          exact fun v H' s' r'=>h v H' s' r'
        | nx ρ'=>
          rw[e2] at q
          cases q
          exact fun σ' H' O' j' _=>h .non H' j'.same TF
        |bk _=>rw[e2] at q;cases q
        |ct _=>rw[e2] at q;cases q
        |ex _ _=>rw[e2] at q;cases q
        |bad=>rw[e2] at q;cases q
end
section
variable {X:Cx} {k n:Nat} {f:Addr} {fd:FuncData} {ps:List Str} {F:List D→R D} {x:Str} {p pos:Pos} {e:Expr} {es:List Expr} {fa:aq→R (List D)}
noncomputable def bC (F:List D→R D) (n:Nat) (ds:List D):R D:=if ds.length=n then Dm (F ds) else .bad
theorem abR (G:FnOk X.prog X.w X.K X.mg X.base CX0 k f fd ps (J9 X.K n F)) (hr:Room k X.A) (hg:Gl X x) (hm:X.mg x=some (.ref f)) (hk:PySem.W.keepIn X.K (.ref f)=true) (hb:Binds X.K fd ps [])
    (ha:DA X (e::es) fa) (hdb:(x ==("__debug__" :Str))=false:=by decide) (he:starEach (e::es) X.env=(false,eval e X.env)::starEach es X.env:=by rfl) (hpl:(backTo pos (starEach es X.env)).any (·.1)=false:=by rfl):
    DE X (.Call (.Name x p) (e::es) [] pos) (aD (bC F n) fa):=by
  refine PE.imp (pe_call (dvs:=[]) G hr hg hm hk hb .nil pass0 ha hdb he hpl) fun σ H Q h=>?_
  obtain⟨ρ,O,j,h⟩:=h
  refine go j h fun ds vs H1 e1 s1 r1 j1 h1=>?_
  unfold bC at h1
  by_cases hl:ds.length=n
  · rw[if_pos hl] at h1
    rw[List.append_nil]
    refine⟨O,ds,r1,hl,j1.al,?_⟩
    cases q:F ds with
    |ok d=>rw[q] at h1;exact h1
    |err c=>rw[q] at h1;exact h1
    |bad=>rw[q] at h1;exact h1
  · rw[if_neg hl] at h1;exact h1.elim
end
end Pu
namespace Pu
open PySem PySem.Spec L2
open PyProof.Rows hiding St
section
variable {X:Cx}
noncomputable def cB:List D→R D
  |[.tup ds]=> .ok (.int ds.length)
  |[.lst ds]=> .ok (.int ds.length)
  |_=> .bad
theorem cW:CallD X (.builtin "len") cB:=by
  refine⟨_,call_len_seq,fun ρ O σ H Q xs ds j r h=>?_⟩
  unfold cB at h
  split at h
  · obtain⟨x,rfl,rx⟩:=r.one
    obtain⟨a,ys,rfl,hq,rs⟩:=rx.tup
    exact⟨a,ys,rfl,.inr hq,by rw[←rs.length];exact fin h (cL _)⟩
  · obtain⟨x,rfl,rx⟩:=r.one
    obtain⟨a,ys,rfl,hq,_,rs⟩:=rx.lst
    exact⟨a,ys,rfl,.inl hq,by rw[←rs.length];exact fin h (cL _)⟩
  · exact h.elim
noncomputable def mq:List D→R D
  |[.tup ds]=> .ok (.tup ds)
  |[.lst ds]=> .ok (.tup ds)
  |_=> .bad
theorem iQ:CallD X (.type "tuple") mq:=by
  refine⟨_,call_tuple_of,fun ρ O σ H Q xs ds j r h=>?_⟩
  unfold mq at h
  split at h
  · obtain⟨x,rfl,rx⟩:=r.one
    obtain⟨a,ys,rfl,hq,rs⟩:=rx.tup
    exact⟨a,ys,rfl,.inr ⟨hq,fin h (lO hq rs)⟩⟩
  · obtain⟨x,rfl,rx⟩:=r.one
    obtain⟨a,ys,rfl,hq,_,rs⟩:=rx.lst
    exact⟨a,ys,rfl,.inl ⟨hq,fun l hl=>h _ _ (Same.upd hl) (Rep.rK hl rs)⟩⟩
  · exact h.elim
noncomputable def aay:List D→R D
  |[.tup ds]=> .ok (.lst ds)
  |[.lst ds]=> .ok (.lst ds)
  |_=> .bad
theorem abS:CallD X (.type "list") aay:=by
  refine⟨_,call_list_of,fun ρ O σ H Q xs ds j r h=>?_⟩
  unfold aay at h
  split at h
  · obtain⟨x,rfl,rx⟩:=r.one
    obtain⟨a,ys,rfl,hq,rs⟩:=rx.tup
    exact⟨a,ys,rfl,.inr hq,fun l hl=>h _ _ (Same.upd hl) (Rep.nO hl (j.pG hl) rs)⟩
  · obtain⟨x,rfl,rx⟩:=r.one
    obtain⟨a,ys,rfl,hq,_,rs⟩:=rx.lst
    exact⟨a,ys,rfl,.inl hq,fun l hl=>h _ _ (Same.upd hl) (Rep.nO hl (j.pG hl) rs)⟩
  · exact h.elim
noncomputable def boolsOf:List D→Option (List Bool)
  |[]=>some []
  | .bl b::r=>(boolsOf r).map (b:: ·)
  |_=>none
noncomputable def intsOf:List D→Option (List Int)
  |[]=>some []
  | .int i::r=>(intsOf r).map (i:: ·)
  |_=>none
theorem T3 {K:PySem.W.Frag} {O:Addr→Prop} {H:Hp}:∀{ds:List D} {bs:List Bool} {vs:List V},boolsOf ds=some bs→aV K O H ds vs→vs=bs.map V.bl
  |[],bs,vs,e,r=>by cases e;exact r.nil_inv
  | d ::ds,bs,vs,e,r=>by
    cases d with
    | bl b=>
      have e:(boolsOf ds).map (b:: ·)=some bs:=e
      cases q:boolsOf ds with
      |none=>rw[q] at e;cases e
      | some l=>
        rw[q] at e
        cases e
        obtain⟨x,t,rfl,rx,rt⟩:=r.cons_inv
        rw[rx.bl,T3 q rt];rfl
    |_=>cases e
theorem zN {K:PySem.W.Frag} {O:Addr→Prop} {H:Hp}:∀{ds:List D} {bs:List Int} {vs:List V},intsOf ds=some bs→aV K O H ds vs→vs=bs.map V.int
  |[],bs,vs,e,r=>by cases e;exact r.nil_inv
  | d ::ds,bs,vs,e,r=>by
    cases d with
    | int b=>
      have e:(intsOf ds).map (b:: ·)=some bs:=e
      cases q:intsOf ds with
      |none=>rw[q] at e;cases e
      | some l=>
        rw[q] at e
        cases e
        obtain⟨x,t,rfl,rx,rt⟩:=r.cons_inv
        rw[rx.int,zN q rt];rfl
    |_=>cases e
theorem Mh:∀{bs:List Bool} {us:List Value},Vals (bs.map V.bl) us→LSm.BoolsAre us bs
  |[],_,.nil=> .nil
  |b::bs,_,.cons r t=>by cases r;exact .cons b (Mh t)
theorem XC (hc:X.calm=true):CallR X (.builtin "all") (fun xs H Q=>∃p,∃bs:List Bool,xs=[.ref p]∧SqL X.K H p (bs.map V.bl)∧Q (.bl (bs.all id)) H):=by
  intro pins s σ H xs us Q I r h
  obtain⟨p,bs,rfl,hq,q⟩:=h
  obtain⟨u,rfl,rx⟩:=vals1 r
  cases rx
  obtain⟨its,r',pl,hz⟩:=I.list hq
  have hb:=Mh r'
  have hl:=pl.isList
  have hlt:p < s.heap.objs.size:=by obtain⟨_,e,_⟩:=hl;exact Heap.lt_size e
  refine call_all_walk (wpAny_pyIter_list hl ?_)
  refine⟨s.heap.objs.size,[s.heap.objs.size,p],[s.heap.objs.size],its.toArray.size,_,_,fun i=>(bs[i]?).getD true,rfl,Walks.list (A:=X.A.in1) (I.ok.hd hc) _ p (Nat.ne_of_lt hlt) its.toArray,
    ⟨⟨_,Heap.get?_push_size _ rfl,rfl,rfl⟩,hl.push _⟩,fun i v s' Q' E' hP hQ=>?_,fun h' tk hk=>?_⟩
  · obtain⟨b,e,rfl⟩:=hb.get i v (by simpa using hP)
    simp only[e,Option.getD_some] at hQ
    exact wpAny_truthy_bool hQ
  · have e:((List.range its.toArray.size).all fun i=>(bs[i]?).getD true)=bs.all id:=by
      rw[List.size_toArray,hb.length];exact LSm.range_all bs
    rw[e]
    exact⟨.bl _,H,I.kept (LSm.kept_iter hk),rfl,q⟩
noncomputable def xO:List D→R D
  | [.lst ds]=>match boolsOf ds with
    |some bs=> .ok (.bl (bs.all id))
    |none=> .bad
  |_=> .bad
theorem zO (hc:X.calm=true):CallD X (.builtin "all") xO:=by
  refine⟨_,XC hc,fun ρ O σ H Q xs ds j r h=>?_⟩
  unfold xO at h
  split at h
  · rename_i ds
    obtain⟨x,rfl,rx⟩:=r.one
    obtain⟨a,ys,rfl,hq,_,rs⟩:=rx.lst
    cases e:boolsOf ds with
    |none=>rw[e] at h;exact h.elim
    | some bs=>
      rw[e] at h
      have ey:=T3 e rs
      subst ey
      exact⟨a,bs,rfl,hq,fin h (gW _)⟩
  · exact h.elim
theorem XD (hc:X.calm=true):CallR X (.builtin "sum") (fun xs H Q=>∃p,∃ns:List Int,xs=[.ref p]∧(SqL X.K H p (ns.map V.int)∨SqT X.K H p (ns.map V.int))∧Q (.int ns.sum) H):=by
  intro pins s σ H xs us Q I r h
  obtain⟨p,ns,rfl,hq,q⟩:=h
  obtain⟨u,rfl,rx⟩:=vals1 r
  cases rx
  have key:∀(its:List Value),Vals (ns.map V.int) its→∃zs:Array (Int×Tok),its.toArray=intItems zs∧preSum (numAt zs) zs.size=ns.sum:=fun its r'=>by
    have hi:=intsAre_of r'
    obtain⟨zs,hx⟩:=hi.allInts.items
    refine⟨zs,hx,?_⟩
    have e1:ns=zs.toList.map (·.1):=by
      rw[←nums_intItems,←hx]
      exact (show numsOf its.toArray.toList=ns from hi.numsOf).symm
    rw[preSum_eq,List.take_of_length_le (by simp),e1]
  rcases hq with hq |hq
  · obtain⟨its,r',pl,hz⟩:=I.list hq
    obtain⟨zs,e1,e2⟩:=key its r'
    refine sum_intListG (I.ok.hd hc) (e1▸pl.isList) fun h' tk t' hk=>?_
    rw[e2]
    exact⟨.int _,H,I.kept hk,⟨t',rfl⟩,q⟩
  · obtain⟨its,r',pl,hz⟩:=I.tuple hq
    obtain⟨zs,e1,e2⟩:=key its r'
    refine PySem.W.ktm_sumG (I.ok.hd hc) (show s.heap.IsTuple p (intItems zs) from e1▸pl) fun h' tk t' hk=>?_
    rw[e2]
    exact⟨.int _,H,I.kept hk,⟨t',rfl⟩,q⟩
noncomputable def ni:List D→R D
  | [.lst ds]=>match intsOf ds with
    |some bs=> .ok (.int bs.sum)
    |none=> .bad
  | [.tup ds]=>match intsOf ds with
    |some bs=> .ok (.int bs.sum)
    |none=> .bad
  |_=> .bad
theorem wB (hc:X.calm=true):CallD X (.builtin "sum") ni:=by
  refine⟨_,XD hc,fun ρ O σ H Q xs ds j r h=>?_⟩
  unfold ni at h
  split at h
  · rename_i ds
    obtain⟨x,rfl,rx⟩:=r.one
    obtain⟨a,ys,rfl,hq,_,rs⟩:=rx.lst
    cases e:intsOf ds with
    |none=>rw[e] at h;exact h.elim
    | some bs=>
      rw[e] at h
      have ey:=zN e rs
      subst ey
      exact⟨a,bs,rfl,.inl hq,fin h (cL _)⟩
  · rename_i ds
    obtain⟨x,rfl,rx⟩:=r.one
    obtain⟨a,ys,rfl,hq,rs⟩:=rx.tup
    cases e:intsOf ds with
    |none=>rw[e] at h;exact h.elim
    | some bs=>
      rw[e] at h
      have ey:=zN e rs
      subst ey
      exact⟨a,bs,rfl,.inr hq,fin h (cL _)⟩
  · exact h.elim
noncomputable def lC:D→String
  | .non=> "NoneType"
  | .bl _=> "bool"
  | .int _=> "int"
  | .str _=> "str"
  | .tup _=> "tuple"
  | .lst _=> "list"
theorem XF (T:String) (ans:String→Bool) (hk:∀d:D,PySem.W.kitOne X.K (.type (lC d)) (.type T)=some (ans (lC d))):
    CallR X (.builtin "isinstance") (fun xs H Q=>∃x O d,xs=[x,.ty T]∧Rep X.K O H d x∧Q (.bl (ans (lC d))) H):=by
  intro pins s σ H xs us Q I r h
  obtain⟨x,O,d,rfl,rd,q⟩:=h
  obtain⟨u,u2,rfl,rx,r2⟩:=vals2 r
  cases r2
  have e:=hk d
  have fin':∀tk,EP X pins σ Q (.bool (ans (lC d))) {s with toks:=tk}:=fun tk=>⟨.bl _,H,I.tok _,rfl,q⟩
  cases d with
  | non=>
    cases rd.non
    cases (show u=Value.none from rx)
    exact PySem.W.kia_one PySem.W.kitx_none I.kIn True.intro e (fun z=>nomatch z) fin'
  | bl b=>
    cases rd.bl
    cases (show u=Value.bool b from rx)
    exact PySem.W.kia_one PySem.W.kitx_bool I.kIn True.intro e (fun z=>nomatch z) fin'
  | int i=>
    cases rd.int
    obtain⟨t,z⟩:=(show ∃t,u=Value.int i t from rx)
    cases z
    exact PySem.W.kia_one PySem.W.kitx_int I.kIn True.intro e (fun z=>nomatch z) fin'
  | str y=>
    cases rd.str
    obtain⟨t,z⟩:=(show ∃t,u=Value.str y t from rx)
    cases z
    exact PySem.W.kia_one PySem.W.kitx_str I.kIn True.intro e (fun z=>nomatch z) fin'
  | tup ds=>
    obtain⟨a,ys,rfl,hq,_⟩:=rd.tup
    cases (show u=Value.ref a from rx)
    obtain⟨its,_,pl,_⟩:=I.tuple hq
    obtain⟨o,h1,h2,_⟩:=pl
    exact PySem.W.kia_one PySem.W.kitx_tuple I.kIn ⟨o,h1,h2⟩ e (fun z=>nomatch z) fin'
  | lst ds=>
    obtain⟨a,ys,rfl,hq,_,_⟩:=rd.lst
    cases (show u=Value.ref a from rx)
    obtain⟨its,_,pl,_⟩:=I.list hq
    obtain⟨o,n,h1,h2,_⟩:=pl
    exact PySem.W.kia_one PySem.W.kitx_list I.kIn ⟨o,h1,h2⟩ e (fun z=>nomatch z) fin'
noncomputable def Gx (ans:String→Bool) (f:aq→R D):aq→R D:=fun ρ=>(f ρ).bind fun d=> .ok (.bl (ans (lC d)))
theorem Cw {T:String} {ans:String→Bool} {x y:Str} {e:Expr} {f:aq→R D} {p p2 pos:Pos} (hk:∀d:D,PySem.W.kitOne X.K (.type (lC d)) (.type T)=some (ans (lC d))) (he:DE X e f)
    (hg:Gl X x) (hm:X.mg x=none) (hv:bootBuiltins x=some (.builtin "isinstance")) (hgy:Gl X y) (hmy:X.mg y=none) (hvy:bootBuiltins y=some (.type T)) (hn:x≠"__name__" :=by decide) (hdb:(x ==("__debug__" :Str))=false:=by decide)
    (hny:y≠"__name__" :=by decide) (XH:(y ==("__debug__" :Str))=false:=by decide)
    (hs:starEach [e,.Name y p2] X.env=(false,eval e X.env)::starEach [.Name y p2] X.env:=by rfl) (hs2:starEach [.Name y p2] X.env=(false,eval (.Name y p2) X.env)::starEach [] X.env:=by rfl) (hpl:(backTo pos (starEach [.Name y p2] X.env)).any (·.1)=false:=by rfl):
    DE X (.Call (.Name x p) [e,.Name y p2] [] pos) (Gx ans f):=by
  refine PE.imp (pe_callB (XF T ans hk) hg hm hv (pa_cons he (pa_cons (pe_bltn (v:= .ty T) hgy hmy hvy rfl hny XH) pa_nil hs2) hs) hn hdb hs hpl) fun σ H Q h=>?_
  obtain⟨ρ,O,j,h⟩:=h
  refine go j h fun d v H1 e1 s1 r1 j1 h1=>?_
  exact⟨v,O,d,rfl,r1,fin h1 (gW _)⟩
end
mutual
noncomputable def gD:D→D→Bool
  | .non,.non=>true
  | .bl a,.bl b=>a ==b
  | .bl a,.int b=>(if a then 1 else 0) ==b
  | .int a,.bl b=>a ==(if b then 1 else 0)
  | .int a,.int b=>a ==b
  | .str a,.str b=>a ==b
  | .tup a,.tup b=>q9 a b
  | .lst a,.lst b=>q9 a b
  |_,_=>false
noncomputable def q9:List D→List D→Bool
  |[],[]=>true
  |x::xs,y::ys=>gD x y && q9 xs ys
  |_,_=>false
end
mutual
noncomputable def dep:D→Nat
  | .tup a=>deps a+1
  | .lst a=>deps a+1
  |_=>0
noncomputable def deps:List D→Nat
  |[]=>0
  |x::xs=>max (dep x) (deps xs)
end
theorem pK:∀{ds:List D} {d:D},d∈ds→dep d≤deps ds
  |[],_,h=>by simp at h
  | x::xs,d,h=>by
    rw[deps]
    rcases List.mem_cons.mp h with e |h
    · subst e;exact Nat.le_max_left _ _
    · exact Nat.le_trans (pK h) (Nat.le_max_right _ _)
theorem aM (a b:Bool):gD (.bl a) (.bl b)=(a ==b):=rfl
theorem aN (a:Bool) (b:Int):gD (.bl a) (.int b)=((if a then 1 else 0) ==b):=rfl
theorem aO (a:Int) (b:Bool):gD (.int a) (.bl b)=(a ==(if b then 1 else 0)):=rfl
theorem aP (a b:Int):gD (.int a) (.int b)=(a ==b):=rfl
theorem aQ (a b:Str):gD (.str a) (.str b)=(a ==b):=rfl
theorem aL (a b:List D):gD (.tup a) (.tup b)=q9 a b:=rfl
theorem aJ (a b:List D):gD (.lst a) (.lst b)=q9 a b:=rfl
mutual
theorem Ej:∀d:D,gD d d=true
  | .non=>rfl
  | .bl a=>by simp[aM,aN,aO,aP,aQ,aL,aJ]
  | .int a=>by simp[aM,aN,aO,aP,aQ,aL,aJ]
  | .str a=>by simp[aM,aN,aO,aP,aQ,aL,aJ]
  | .tup a=>by rw[aL];exact qM a
  | .lst a=>by rw[aJ];exact qM a
theorem qM:∀d:List D,q9 d d=true
  |[]=>rfl
  |x::xs=>by rw[q9,Ej x,qM xs];rfl
end
theorem sH:∀{xs ys:List D},xs.length≠ys.length→q9 xs ys=false
  |[],[],h=>absurd rfl h
  |[],_::_,_=>rfl
  |_::_,[],_=>rfl
  | x::xs,y::ys,h=>by
    rw[q9,sH (xs:=xs) (ys:=ys) (fun e=>h (by simp[e])),Bool.and_false]
theorem sI:∀{xs ys:List D},xs.length=ys.length→q9 xs ys=(List.range xs.length).all fun i=>gD (xs.getD i .non) (ys.getD i .non)
  |[],[],_=>rfl
  |[],_::_,h=>by simp at h
  |_::_,[],h=>by simp at h
  | x::xs,y::ys,h=>by
    rw[q9,sI (xs:=xs) (ys:=ys) (by simpa using h),List.length_cons,List.range_succ_eq_map,List.all_cons,List.all_map]
    rfl
end Pu
namespace Pu
open PySem PySem.Spec L2
open PyProof.Rows hiding St
open PySem.SeqAt
inductive LkT (X:Cx) (O:Addr→Prop) (H:Hp) (s:Shared) (ds:List D) (u:Value):Prop
  |mk (a:Addr) (xs:List V) (its:List Value) (e:u=Value.ref a) (q:SqT X.K H a xs) (v:Vals xs its) (p:s.heap.IsTuple a its.toArray) (r:aV X.K O H ds xs):LkT X O H s ds u
inductive LkL (X:Cx) (O:Addr→Prop) (H:Hp) (s:Shared) (ds:List D) (u:Value):Prop
  |mk (a:Addr) (xs:List V) (its:List Value) (e:u=Value.ref a) (q:SqL X.K H a xs) (v:Vals xs its) (p:s.heap.IsList a its.toArray) (r:aV X.K O H ds xs):LkL X O H s ds u
noncomputable def Lk (X:Cx) (O:Addr→Prop) (H:Hp) (s:Shared):D→Value→Prop
  | .non,u=>u=Value.none
  | .bl b,u=>u=Value.bool b
  | .int i,u=>∃t,u=Value.int i t
  | .str x,u=>∃t,u=Value.str x t
  | .tup ds,u=>LkT X O H s ds u
  | .lst ds,u=>LkL X O H s ds u
section
variable {X:Cx} {pins:List (Addr×Obj)} {σ:St} {H:Hp} {s:Shared} {O O':Addr→Prop}
theorem uD (I:Inv X pins σ H s) {d:D} {v:V} {u:Value} (r:Rep X.K O H d v) (q:RelV v u):Lk X O H s d u:=by
  cases d with
  |non=>cases r.non;exact q
  |bl b=>cases r.bl;exact q
  |int i=>cases r.int;exact q
  |str x=>cases r.str;exact q
  | tup ds=>
    obtain⟨a,xs,rfl,hq,rs⟩:=r.tup
    cases (show u=Value.ref a from q)
    obtain⟨its,rv,p,_⟩:=I.tuple hq
    exact⟨a,xs,its,rfl,hq,rv,p,rs⟩
  | lst ds=>
    obtain⟨a,xs,rfl,hq,_,rs⟩:=r.lst
    cases (show u=Value.ref a from q)
    obtain⟨its,rv,p,_⟩:=I.list hq
    exact⟨a,xs,its,rfl,hq,rv,p.isList,rs⟩
theorem isTuple_list {a:Addr} {p q:Array Value} (h1:s.heap.IsTuple a p) (h2:s.heap.IsList a q):False:=ne_of_list_tuple h2 h1 rfl
mutual
theorem Rep.inj (I:Inv X pins σ H s):∀(d e:D) (v:V),Rep X.K O H d v→Rep X.K O' H e v→d=e
  | .non,e,v,r,q=>by
    cases r.non
    cases e with
    |non=>rfl
    |bl _=>cases q.bl
    |int _=>cases q.int
    |str _=>cases q.str
    |tup _=>obtain⟨_,_,z,_⟩:=q.tup;cases z
    |lst _=>obtain⟨_,_,z,_⟩:=q.lst;cases z
  | .bl b,e,v,r,q=>by
    cases r.bl
    cases e with
    |non=>cases q.non
    |bl _=>cases q.bl;rfl
    |int _=>cases q.int
    |str _=>cases q.str
    |tup _=>obtain⟨_,_,z,_⟩:=q.tup;cases z
    |lst _=>obtain⟨_,_,z,_⟩:=q.lst;cases z
  | .int b,e,v,r,q=>by
    cases r.int
    cases e with
    |non=>cases q.non
    |bl _=>cases q.bl
    |int _=>cases q.int;rfl
    |str _=>cases q.str
    |tup _=>obtain⟨_,_,z,_⟩:=q.tup;cases z
    |lst _=>obtain⟨_,_,z,_⟩:=q.lst;cases z
  | .str b,e,v,r,q=>by
    cases r.str
    cases e with
    |non=>cases q.non
    |bl _=>cases q.bl
    |int _=>cases q.int
    |str _=>cases q.str;rfl
    |tup _=>obtain⟨_,_,z,_⟩:=q.tup;cases z
    |lst _=>obtain⟨_,_,z,_⟩:=q.lst;cases z
  | .tup ds,e,v,r,q=>by
    obtain⟨a,xs,rfl,hq,rs⟩:=r.tup
    cases e with
    |non=>cases q.non
    |bl _=>cases q.bl
    |int _=>cases q.int
    |str _=>cases q.str
    | tup es=>
      obtain⟨b,ys,z,hq',rs'⟩:=q.tup
      cases z
      cases I.tuple_inj hq hq'
      rw[aV.inj I ds es xs rs rs']
    | lst es=>
      obtain⟨b,ys,z,hq',_,rs'⟩:=q.lst
      cases z
      obtain⟨_,_,p1,_⟩:=I.tuple hq
      obtain⟨_,_,p2,_⟩:=I.list hq'
      exact (isTuple_list p1 p2.isList).elim
  | .lst ds,e,v,r,q=>by
    obtain⟨a,xs,rfl,hq,_,rs⟩:=r.lst
    cases e with
    |non=>cases q.non
    |bl _=>cases q.bl
    |int _=>cases q.int
    |str _=>cases q.str
    | tup es=>
      obtain⟨b,ys,z,hq',rs'⟩:=q.tup
      cases z
      obtain⟨_,_,p1,_⟩:=I.tuple hq'
      obtain⟨_,_,p2,_⟩:=I.list hq
      exact (isTuple_list p1 p2.isList).elim
    | lst es=>
      obtain⟨b,ys,z,hq',_,rs'⟩:=q.lst
      cases z
      cases I.list_inj hq hq'
      rw[aV.inj I ds es xs rs rs']
theorem aV.inj (I:Inv X pins σ H s):∀(ds es:List D) (vs:List V),aV X.K O H ds vs→aV X.K O' H es vs→ds=es
  | [],es,vs,r,q=>by
    rw[r.nil_inv] at q
    cases es with
    |nil=>rfl
    |cons e es=>obtain⟨_,_,z,_⟩:=q.cons_inv;cases z
  | d ::ds,es,vs,r,q=>by
    obtain⟨x,t,rfl,rx,rt⟩:=r.cons_inv
    cases es with
    |nil=>cases q.nil_inv
    | cons e es=>
      obtain⟨_,_,z,qx,qt⟩:=q.cons_inv
      cases z
      rw[Rep.inj I d e x rx qx,aV.inj I ds es t rt qt]
end
theorem pL {A:Around} {ds es:List D} {xs ys:List V} {its jts:List Value} (r1:aV X.K O H ds xs) (r2:aV X.K O' H es ys) (v1:Vals xs its) (v2:Vals ys jts)
    (ih:∀d∈ds,∀(e:D) (v w:V) (u u':Value),Rep X.K O H d v→Rep X.K O' H e w→RelV v u→RelV w u'→EqAt A s u u' (gD d e)):
    ∀j (h1:j < its.toArray.size) (h2:j < jts.toArray.size),EqAt A s its.toArray[j] jts.toArray[j] (gD (ds.getD j .non) (es.getD j .non)):=by
  intro j h1 h2
  have e1:its[j]?=some its.toArray[j]:=by simp
  have e2:jts[j]?=some jts.toArray[j]:=by simp
  have l1:=v1.length
  have l2:=v2.length
  have k1:=r1.length
  have k2:=r2.length
  simp only[List.size_toArray] at h1 h2
  obtain⟨v,ev,rv⟩:∃v,xs[j]?=some v∧RelV v its.toArray[j]:=by
    have hj:j < xs.length:=by omega
    obtain⟨u,eu,ru⟩:=v1.get (i:=j) (x:=xs[j]) (by simp[hj])
    rw[e1] at eu;cases eu
    exact⟨_,by simp[hj],ru⟩
  obtain⟨w,ew,rw'⟩:∃v,ys[j]?=some v∧RelV v jts.toArray[j]:=by
    have hj:j < ys.length:=by omega
    obtain⟨u,eu,ru⟩:=v2.get (i:=j) (x:=ys[j]) (by simp[hj])
    rw[e2] at eu;cases eu
    exact⟨_,by simp[hj],ru⟩
  obtain⟨d,ed,rd⟩:=r1.aj ev
  obtain⟨e,ee,re⟩:=r2.aj ew
  have g1:ds.getD j .non=d:=by simp[List.getD,ed]
  have g2:es.getD j .non=e:=by simp[List.getD,ee]
  rw[g1,g2]
  exact ih d (List.mem_of_getElem? ed) e v w _ _ rd re rv rw'
theorem Ek {ds es:List D} {n m:Nat} (hn:ds.length=n) (hm:es.length=m):((List.range (min n m)).all (fun j=>gD (ds.getD j .non) (es.getD j .non)) && n ==m)=q9 ds es:=by
  by_cases h:n=m
  · subst h
    rw[Nat.min_self,beq_self_eq_true,Bool.and_true,sI (by rw[hn,hm]),hn]
  · rw[sH (by rw[hn,hm];exact h),show (n ==m)=false by simpa using h,Bool.and_false]
theorem Mi (I:Inv X pins σ H s) {A:Around} (hu:A.units < cLine) {d e:D} {u u':Value} (h1:Lk X O H s d u) (h2:Lk X O' H s e u')
    (ih:∀c∈(match d with | .tup ds=>ds | .lst ds=>ds |_=>[]),∀(e:D) (v w:V) (u u':Value),Rep X.K O H c v→Rep X.K O' H e w→RelV v u→RelV w u'→EqAt A.in1 s u u' (gD c e)):EqAt A s u u' (gD d e):=by
  cases d with
  | non =>
    cases h1
    cases e with
    | non=>
      cases h2
      exact EqAt.same _
    | bl b=>
      cases h2
      first
        |exact EqAt.none_bool _
        |(have q:=EqAt.none_bool (A:=A) (s:=s) _;simpa[aM,aN,aO,aP,aQ,aL,aJ] using q)
    | int b=>
      obtain⟨t2,rfl⟩:=h2
      first
        |exact EqAt.none_int _ _
        |(have q:=EqAt.none_int (A:=A) (s:=s) _ _;simpa[aM,aN,aO,aP,aQ,aL,aJ] using q)
    | str b=>
      obtain⟨t2,rfl⟩:=h2
      first
        |exact EqAt.none_str _ _
        |(have q:=EqAt.none_str (A:=A) (s:=s) _ _;simpa[aM,aN,aO,aP,aQ,aL,aJ] using q)
    | tup es=>
      obtain⟨p2,ys,jts,rfl,hq2,v2,hp2,r2⟩:=h2
      first
        |exact EqAt.none_tuple hp2 hu
        |(have q:=EqAt.none_tuple (A:=A) (s:=s) hp2 hu;simpa[aM,aN,aO,aP,aQ,aL,aJ] using q)
    | lst es=>
      obtain⟨p2,ys,jts,rfl,hq2,v2,hp2,r2⟩:=h2
      first
        |exact EqAt.none_list hp2 hu
        |(have q:=EqAt.none_list (A:=A) (s:=s) hp2 hu;simpa[aM,aN,aO,aP,aQ,aL,aJ] using q)
  | bl a=>
    cases h1
    cases e with
    | non=>
      cases h2
      first
        |exact EqAt.bool_none _
        |(have q:=EqAt.bool_none (A:=A) (s:=s) _;simpa[aM,aN,aO,aP,aQ,aL,aJ] using q)
    | bl b=>
      cases h2
      first
        |exact EqAt.bool_bool _ _
        |(have q:=EqAt.bool_bool (A:=A) (s:=s) _ _;simpa[aM,aN,aO,aP,aQ,aL,aJ] using q)
    | int b=>
      obtain⟨t2,rfl⟩:=h2
      first
        |exact EqAt.bool_int _ _ _
        |(have q:=EqAt.bool_int (A:=A) (s:=s) _ _ _;simpa[aM,aN,aO,aP,aQ,aL,aJ] using q)
    | str b=>
      obtain⟨t2,rfl⟩:=h2
      first
        |exact EqAt.bool_str _ _ _
        |(have q:=EqAt.bool_str (A:=A) (s:=s) _ _ _;simpa[aM,aN,aO,aP,aQ,aL,aJ] using q)
    | tup es=>
      obtain⟨p2,ys,jts,rfl,hq2,v2,hp2,r2⟩:=h2
      first
        |exact EqAt.bool_tuple _ hp2 hu
        |(have q:=EqAt.bool_tuple (A:=A) (s:=s) _ hp2 hu;simpa[aM,aN,aO,aP,aQ,aL,aJ] using q)
    | lst es=>
      obtain⟨p2,ys,jts,rfl,hq2,v2,hp2,r2⟩:=h2
      first
        |exact EqAt.bool_list _ hp2 hu
        |(have q:=EqAt.bool_list (A:=A) (s:=s) _ hp2 hu;simpa[aM,aN,aO,aP,aQ,aL,aJ] using q)
  | int a=>
    obtain⟨t1,rfl⟩:=h1
    cases e with
    | non=>
      cases h2
      first
        |exact EqAt.int_none _ _
        |(have q:=EqAt.int_none (A:=A) (s:=s) _ _;simpa[aM,aN,aO,aP,aQ,aL,aJ] using q)
    | bl b=>
      cases h2
      first
        |exact EqAt.int_bool _ _ _
        |(have q:=EqAt.int_bool (A:=A) (s:=s) _ _ _;simpa[aM,aN,aO,aP,aQ,aL,aJ] using q)
    | int b=>
      obtain⟨t2,rfl⟩:=h2
      first
        |exact EqAt.int_int _ _ _ _
        |(have q:=EqAt.int_int (A:=A) (s:=s) _ _ _ _;simpa[aM,aN,aO,aP,aQ,aL,aJ] using q)
    | str b=>
      obtain⟨t2,rfl⟩:=h2
      first
        |exact EqAt.int_str _ _ _ _
        |(have q:=EqAt.int_str (A:=A) (s:=s) _ _ _ _;simpa[aM,aN,aO,aP,aQ,aL,aJ] using q)
    | tup es=>
      obtain⟨p2,ys,jts,rfl,hq2,v2,hp2,r2⟩:=h2
      first
        |exact EqAt.int_tuple _ _ hp2 hu
        |(have q:=EqAt.int_tuple (A:=A) (s:=s) _ _ hp2 hu;simpa[aM,aN,aO,aP,aQ,aL,aJ] using q)
    | lst es=>
      obtain⟨p2,ys,jts,rfl,hq2,v2,hp2,r2⟩:=h2
      first
        |exact EqAt.int_list _ _ hp2 hu
        |(have q:=EqAt.int_list (A:=A) (s:=s) _ _ hp2 hu;simpa[aM,aN,aO,aP,aQ,aL,aJ] using q)
  | str a=>
    obtain⟨t1,rfl⟩:=h1
    cases e with
    | non=>
      cases h2
      first
        |exact EqAt.str_none _ _
        |(have q:=EqAt.str_none (A:=A) (s:=s) _ _;simpa[aM,aN,aO,aP,aQ,aL,aJ] using q)
    | bl b=>
      cases h2
      first
        |exact EqAt.str_bool _ _ _
        |(have q:=EqAt.str_bool (A:=A) (s:=s) _ _ _;simpa[aM,aN,aO,aP,aQ,aL,aJ] using q)
    | int b=>
      obtain⟨t2,rfl⟩:=h2
      first
        |exact EqAt.str_int _ _ _ _
        |(have q:=EqAt.str_int (A:=A) (s:=s) _ _ _ _;simpa[aM,aN,aO,aP,aQ,aL,aJ] using q)
    | str b=>
      obtain⟨t2,rfl⟩:=h2
      first
        |exact EqAt.str_str _ _ _ _
        |(have q:=EqAt.str_str (A:=A) (s:=s) _ _ _ _;simpa[aM,aN,aO,aP,aQ,aL,aJ] using q)
    | tup es=>
      obtain⟨p2,ys,jts,rfl,hq2,v2,hp2,r2⟩:=h2
      first
        |exact EqAt.str_tuple _ _ hp2 hu
        |(have q:=EqAt.str_tuple (A:=A) (s:=s) _ _ hp2 hu;simpa[aM,aN,aO,aP,aQ,aL,aJ] using q)
    | lst es=>
      obtain⟨p2,ys,jts,rfl,hq2,v2,hp2,r2⟩:=h2
      first
        |exact EqAt.str_list _ _ hp2 hu
        |(have q:=EqAt.str_list (A:=A) (s:=s) _ _ hp2 hu;simpa[aM,aN,aO,aP,aQ,aL,aJ] using q)
  | tup ds=>
    obtain⟨p1,xs,its,rfl,hq1,v1,hp1,r1⟩:=h1
    cases e with
    | non=>
      cases h2
      first
        |exact EqAt.tuple_none hp1 hu
        |(have q:=EqAt.tuple_none (A:=A) (s:=s) hp1 hu;simpa[aM,aN,aO,aP,aQ,aL,aJ] using q)
    | bl b=>
      cases h2
      first
        |exact EqAt.tuple_bool _ hp1 hu
        |(have q:=EqAt.tuple_bool (A:=A) (s:=s) _ hp1 hu;simpa[aM,aN,aO,aP,aQ,aL,aJ] using q)
    | int b=>
      obtain⟨t2,rfl⟩:=h2
      first
        |exact EqAt.tuple_int _ _ hp1 hu
        |(have q:=EqAt.tuple_int (A:=A) (s:=s) _ _ hp1 hu;simpa[aM,aN,aO,aP,aQ,aL,aJ] using q)
    | str b=>
      obtain⟨t2,rfl⟩:=h2
      first
        |exact EqAt.tuple_str _ _ hp1 hu
        |(have q:=EqAt.tuple_str (A:=A) (s:=s) _ _ hp1 hu;simpa[aM,aN,aO,aP,aQ,aL,aJ] using q)
    | tup es=>
      obtain⟨p2,ys,jts,rfl,hq2,v2,hp2,r2⟩:=h2
      by_cases hne:p1=p2
      · subst hne
        cases I.tuple_inj hq1 hq2
        rw[aL,aV.inj I ds es xs r1 r2,qM]
        exact EqAt.same _
      · have q:=EqAt.of_refs hne (RcAt.tuples hp1 hp2 hu (pL r1 r2 v1 v2 ih))
        simp only[List.size_toArray] at q
        rw[Ek (r1.length.trans v1.length) (r2.length.trans v2.length)] at q
        rw[aL];exact q
    | lst es=>
      obtain⟨p2,ys,jts,rfl,hq2,v2,hp2,r2⟩:=h2
      first
        |exact EqAt.tuple_list hp1 hp2 hu
        |(have q:=EqAt.tuple_list (A:=A) (s:=s) hp1 hp2 hu;simpa[aM,aN,aO,aP,aQ,aL,aJ] using q)
  | lst ds=>
    obtain⟨p1,xs,its,rfl,hq1,v1,hp1,r1⟩:=h1
    cases e with
    | non=>
      cases h2
      first
        |exact EqAt.list_none hp1 hu
        |(have q:=EqAt.list_none (A:=A) (s:=s) hp1 hu;simpa[aM,aN,aO,aP,aQ,aL,aJ] using q)
    | bl b=>
      cases h2
      first
        |exact EqAt.list_bool _ hp1 hu
        |(have q:=EqAt.list_bool (A:=A) (s:=s) _ hp1 hu;simpa[aM,aN,aO,aP,aQ,aL,aJ] using q)
    | int b=>
      obtain⟨t2,rfl⟩:=h2
      first
        |exact EqAt.list_int _ _ hp1 hu
        |(have q:=EqAt.list_int (A:=A) (s:=s) _ _ hp1 hu;simpa[aM,aN,aO,aP,aQ,aL,aJ] using q)
    | str b=>
      obtain⟨t2,rfl⟩:=h2
      first
        |exact EqAt.list_str _ _ hp1 hu
        |(have q:=EqAt.list_str (A:=A) (s:=s) _ _ hp1 hu;simpa[aM,aN,aO,aP,aQ,aL,aJ] using q)
    | tup es=>
      obtain⟨p2,ys,jts,rfl,hq2,v2,hp2,r2⟩:=h2
      first
        |exact EqAt.list_tuple hp1 hp2 hu
        |(have q:=EqAt.list_tuple (A:=A) (s:=s) hp1 hp2 hu;simpa[aM,aN,aO,aP,aQ,aL,aJ] using q)
    | lst es=>
      obtain⟨p2,ys,jts,rfl,hq2,v2,hp2,r2⟩:=h2
      by_cases hne:p1=p2
      · subst hne
        cases I.list_inj hq1 hq2
        rw[aJ,aV.inj I ds es xs r1 r2,qM]
        exact EqAt.same _
      · by_cases hz:ds.length=es.length
        · have q:=EqAt.of_refs hne (RcAt.lists hp1 hp2 (by simp only[List.size_toArray];rw[←v1.length,←v2.length,←r1.length,←r2.length];exact hz) hu (pL r1 r2 v1 v2 ih))
          rw[List.size_toArray,←v1.length,←r1.length,←sI hz] at q
          rw[aJ];exact q
        · rw[aJ,sH hz]
          exact EqAt.of_refs hne (RcAt.lists_lengths hp1 hp2 (by simp only[List.size_toArray];rw[←v1.length,←v2.length,←r1.length,←r2.length];simpa using hz) hu)
theorem aaz (I:Inv X pins σ H s) {A:Around} (hu:A.units < cLine) {d e:D} {u u':Value} (h1:Lk X O H s d u) (h2:Lk X O' H s e u')
    (ih:∀c∈(match d with | .tup ds=>ds | .lst ds=>ds |_=>[]),∀(e:D) (v w:V) (u u':Value),Rep X.K O H c v→Rep X.K O' H e w→RelV v u→RelV w u'→EqAt A.in1 s u u' (gD c e)):RcAt A s u u' (gD d e):=by
  cases d with
  | non =>
    cases h1
    cases e with
    | non=>
      cases h2
      exact RcAt.none_none
    | bl b=>
      cases h2
      first
        |exact RcAt.none_bool _
        |(have q:=RcAt.none_bool (A:=A) (s:=s) _;simpa[aM,aN,aO,aP,aQ,aL,aJ] using q)
    | int b=>
      obtain⟨t2,rfl⟩:=h2
      first
        |exact RcAt.none_int _ _
        |(have q:=RcAt.none_int (A:=A) (s:=s) _ _;simpa[aM,aN,aO,aP,aQ,aL,aJ] using q)
    | str b=>
      obtain⟨t2,rfl⟩:=h2
      first
        |exact RcAt.none_str _ _
        |(have q:=RcAt.none_str (A:=A) (s:=s) _ _;simpa[aM,aN,aO,aP,aQ,aL,aJ] using q)
    | tup es=>
      obtain⟨p2,ys,jts,rfl,hq2,v2,hp2,r2⟩:=h2
      first
        |exact RcAt.none_tuple hp2 hu
        |(have q:=RcAt.none_tuple (A:=A) (s:=s) hp2 hu;simpa[aM,aN,aO,aP,aQ,aL,aJ] using q)
    | lst es=>
      obtain⟨p2,ys,jts,rfl,hq2,v2,hp2,r2⟩:=h2
      first
        |exact RcAt.none_list hp2 hu
        |(have q:=RcAt.none_list (A:=A) (s:=s) hp2 hu;simpa[aM,aN,aO,aP,aQ,aL,aJ] using q)
  | bl a=>
    cases h1
    cases e with
    | non=>
      cases h2
      first
        |exact RcAt.bool_none _
        |(have q:=RcAt.bool_none (A:=A) (s:=s) _;simpa[aM,aN,aO,aP,aQ,aL,aJ] using q)
    | bl b=>
      cases h2
      first
        |exact RcAt.bool_bool _ _
        |(have q:=RcAt.bool_bool (A:=A) (s:=s) _ _;simpa[aM,aN,aO,aP,aQ,aL,aJ] using q)
    | int b=>
      obtain⟨t2,rfl⟩:=h2
      first
        |exact RcAt.bool_int _ _ _
        |(have q:=RcAt.bool_int (A:=A) (s:=s) _ _ _;simpa[aM,aN,aO,aP,aQ,aL,aJ] using q)
    | str b=>
      obtain⟨t2,rfl⟩:=h2
      first
        |exact RcAt.bool_str _ _ _
        |(have q:=RcAt.bool_str (A:=A) (s:=s) _ _ _;simpa[aM,aN,aO,aP,aQ,aL,aJ] using q)
    | tup es=>
      obtain⟨p2,ys,jts,rfl,hq2,v2,hp2,r2⟩:=h2
      first
        |exact RcAt.bool_tuple _ hp2 hu
        |(have q:=RcAt.bool_tuple (A:=A) (s:=s) _ hp2 hu;simpa[aM,aN,aO,aP,aQ,aL,aJ] using q)
    | lst es=>
      obtain⟨p2,ys,jts,rfl,hq2,v2,hp2,r2⟩:=h2
      first
        |exact RcAt.bool_list _ hp2 hu
        |(have q:=RcAt.bool_list (A:=A) (s:=s) _ hp2 hu;simpa[aM,aN,aO,aP,aQ,aL,aJ] using q)
  | int a=>
    obtain⟨t1,rfl⟩:=h1
    cases e with
    | non=>
      cases h2
      first
        |exact RcAt.int_none _ _
        |(have q:=RcAt.int_none (A:=A) (s:=s) _ _;simpa[aM,aN,aO,aP,aQ,aL,aJ] using q)
    | bl b=>
      cases h2
      first
        |exact RcAt.int_bool _ _ _
        |(have q:=RcAt.int_bool (A:=A) (s:=s) _ _ _;simpa[aM,aN,aO,aP,aQ,aL,aJ] using q)
    | int b=>
      obtain⟨t2,rfl⟩:=h2
      first
        |exact RcAt.int_int _ _ _ _
        |(have q:=RcAt.int_int (A:=A) (s:=s) _ _ _ _;simpa[aM,aN,aO,aP,aQ,aL,aJ] using q)
    | str b=>
      obtain⟨t2,rfl⟩:=h2
      first
        |exact RcAt.int_str _ _ _ _
        |(have q:=RcAt.int_str (A:=A) (s:=s) _ _ _ _;simpa[aM,aN,aO,aP,aQ,aL,aJ] using q)
    | tup es=>
      obtain⟨p2,ys,jts,rfl,hq2,v2,hp2,r2⟩:=h2
      first
        |exact RcAt.int_tuple _ _ hp2 hu
        |(have q:=RcAt.int_tuple (A:=A) (s:=s) _ _ hp2 hu;simpa[aM,aN,aO,aP,aQ,aL,aJ] using q)
    | lst es=>
      obtain⟨p2,ys,jts,rfl,hq2,v2,hp2,r2⟩:=h2
      first
        |exact RcAt.int_list _ _ hp2 hu
        |(have q:=RcAt.int_list (A:=A) (s:=s) _ _ hp2 hu;simpa[aM,aN,aO,aP,aQ,aL,aJ] using q)
  | str a=>
    obtain⟨t1,rfl⟩:=h1
    cases e with
    | non=>
      cases h2
      first
        |exact RcAt.str_none _ _
        |(have q:=RcAt.str_none (A:=A) (s:=s) _ _;simpa[aM,aN,aO,aP,aQ,aL,aJ] using q)
    | bl b=>
      cases h2
      first
        |exact RcAt.str_bool _ _ _
        |(have q:=RcAt.str_bool (A:=A) (s:=s) _ _ _;simpa[aM,aN,aO,aP,aQ,aL,aJ] using q)
    | int b=>
      obtain⟨t2,rfl⟩:=h2
      first
        |exact RcAt.str_int _ _ _ _
        |(have q:=RcAt.str_int (A:=A) (s:=s) _ _ _ _;simpa[aM,aN,aO,aP,aQ,aL,aJ] using q)
    | str b=>
      obtain⟨t2,rfl⟩:=h2
      first
        |exact RcAt.str_str _ _ _ _
        |(have q:=RcAt.str_str (A:=A) (s:=s) _ _ _ _;simpa[aM,aN,aO,aP,aQ,aL,aJ] using q)
    | tup es=>
      obtain⟨p2,ys,jts,rfl,hq2,v2,hp2,r2⟩:=h2
      first
        |exact RcAt.str_tuple _ _ hp2 hu
        |(have q:=RcAt.str_tuple (A:=A) (s:=s) _ _ hp2 hu;simpa[aM,aN,aO,aP,aQ,aL,aJ] using q)
    | lst es=>
      obtain⟨p2,ys,jts,rfl,hq2,v2,hp2,r2⟩:=h2
      first
        |exact RcAt.str_list _ _ hp2 hu
        |(have q:=RcAt.str_list (A:=A) (s:=s) _ _ hp2 hu;simpa[aM,aN,aO,aP,aQ,aL,aJ] using q)
  | tup ds=>
    obtain⟨p1,xs,its,rfl,hq1,v1,hp1,r1⟩:=h1
    cases e with
    | non=>
      cases h2
      first
        |exact RcAt.tuple_none hp1 hu
        |(have q:=RcAt.tuple_none (A:=A) (s:=s) hp1 hu;simpa[aM,aN,aO,aP,aQ,aL,aJ] using q)
    | bl b=>
      cases h2
      first
        |exact RcAt.tuple_bool _ hp1 hu
        |(have q:=RcAt.tuple_bool (A:=A) (s:=s) _ hp1 hu;simpa[aM,aN,aO,aP,aQ,aL,aJ] using q)
    | int b=>
      obtain⟨t2,rfl⟩:=h2
      first
        |exact RcAt.tuple_int _ _ hp1 hu
        |(have q:=RcAt.tuple_int (A:=A) (s:=s) _ _ hp1 hu;simpa[aM,aN,aO,aP,aQ,aL,aJ] using q)
    | str b=>
      obtain⟨t2,rfl⟩:=h2
      first
        |exact RcAt.tuple_str _ _ hp1 hu
        |(have q:=RcAt.tuple_str (A:=A) (s:=s) _ _ hp1 hu;simpa[aM,aN,aO,aP,aQ,aL,aJ] using q)
    | tup es=>
      obtain⟨p2,ys,jts,rfl,hq2,v2,hp2,r2⟩:=h2
      have q:=RcAt.tuples hp1 hp2 hu (pL r1 r2 v1 v2 ih)
      simp only[List.size_toArray] at q
      rw[Ek (r1.length.trans v1.length) (r2.length.trans v2.length)] at q
      rw[aL];exact q
    | lst es=>
      obtain⟨p2,ys,jts,rfl,hq2,v2,hp2,r2⟩:=h2
      first
        |exact RcAt.tuple_list hp1 hp2 hu
        |(have q:=RcAt.tuple_list (A:=A) (s:=s) hp1 hp2 hu;simpa[aM,aN,aO,aP,aQ,aL,aJ] using q)
  | lst ds=>
    obtain⟨p1,xs,its,rfl,hq1,v1,hp1,r1⟩:=h1
    cases e with
    | non=>
      cases h2
      first
        |exact RcAt.list_none hp1 hu
        |(have q:=RcAt.list_none (A:=A) (s:=s) hp1 hu;simpa[aM,aN,aO,aP,aQ,aL,aJ] using q)
    | bl b=>
      cases h2
      first
        |exact RcAt.list_bool _ hp1 hu
        |(have q:=RcAt.list_bool (A:=A) (s:=s) _ hp1 hu;simpa[aM,aN,aO,aP,aQ,aL,aJ] using q)
    | int b=>
      obtain⟨t2,rfl⟩:=h2
      first
        |exact RcAt.list_int _ _ hp1 hu
        |(have q:=RcAt.list_int (A:=A) (s:=s) _ _ hp1 hu;simpa[aM,aN,aO,aP,aQ,aL,aJ] using q)
    | str b=>
      obtain⟨t2,rfl⟩:=h2
      first
        |exact RcAt.list_str _ _ hp1 hu
        |(have q:=RcAt.list_str (A:=A) (s:=s) _ _ hp1 hu;simpa[aM,aN,aO,aP,aQ,aL,aJ] using q)
    | tup es=>
      obtain⟨p2,ys,jts,rfl,hq2,v2,hp2,r2⟩:=h2
      first
        |exact RcAt.list_tuple hp1 hp2 hu
        |(have q:=RcAt.list_tuple (A:=A) (s:=s) hp1 hp2 hu;simpa[aM,aN,aO,aP,aQ,aL,aJ] using q)
    | lst es=>
      obtain⟨p2,ys,jts,rfl,hq2,v2,hp2,r2⟩:=h2
      by_cases hz:ds.length=es.length
      · have q:=RcAt.lists hp1 hp2 (by simp only[List.size_toArray];rw[←v1.length,←v2.length,←r1.length,←r2.length];exact hz) hu (pL r1 r2 v1 v2 ih)
        rw[List.size_toArray,←v1.length,←r1.length,←sI hz] at q
        rw[aJ];exact q
      · rw[aJ,sH hz]
        exact RcAt.lists_lengths hp1 hp2 (by simp only[List.size_toArray];rw[←v1.length,←v2.length,←r1.length,←r2.length];simpa using hz) hu
theorem aaA (I:Inv X pins σ H s) {A:Around} (hu:A.units < cLine) {d e:D} {u u':Value} (h1:Lk X O H s d u) (h2:Lk X O' H s e u')
    (ih:∀c∈(match d with | .tup ds=>ds | .lst ds=>ds |_=>[]),∀(e:D) (v w:V) (u u':Value),Rep X.K O H c v→Rep X.K O' H e w→RelV v u→RelV w u'→EqAt A.in1 s u u' (gD c e)):RcNeAt A s u u' (!gD d e):=by
  cases d with
  | non =>
    cases h1
    cases e with
    | non=>
      cases h2
      exact RcNeAt.none_none
    | bl b=>
      cases h2
      first
        |exact RcNeAt.none_bool _
        |(have q:=RcNeAt.none_bool (A:=A) (s:=s) _;simpa[aM,aN,aO,aP,aQ,aL,aJ] using q)
    | int b=>
      obtain⟨t2,rfl⟩:=h2
      first
        |exact RcNeAt.none_int _ _
        |(have q:=RcNeAt.none_int (A:=A) (s:=s) _ _;simpa[aM,aN,aO,aP,aQ,aL,aJ] using q)
    | str b=>
      obtain⟨t2,rfl⟩:=h2
      first
        |exact RcNeAt.none_str _ _
        |(have q:=RcNeAt.none_str (A:=A) (s:=s) _ _;simpa[aM,aN,aO,aP,aQ,aL,aJ] using q)
    | tup es=>
      obtain⟨p2,ys,jts,rfl,hq2,v2,hp2,r2⟩:=h2
      first
        |exact RcNeAt.none_tuple hp2 hu
        |(have q:=RcNeAt.none_tuple (A:=A) (s:=s) hp2 hu;simpa[aM,aN,aO,aP,aQ,aL,aJ] using q)
    | lst es=>
      obtain⟨p2,ys,jts,rfl,hq2,v2,hp2,r2⟩:=h2
      first
        |exact RcNeAt.none_list hp2 hu
        |(have q:=RcNeAt.none_list (A:=A) (s:=s) hp2 hu;simpa[aM,aN,aO,aP,aQ,aL,aJ] using q)
  | bl a=>
    cases h1
    cases e with
    | non=>
      cases h2
      first
        |exact RcNeAt.bool_none _
        |(have q:=RcNeAt.bool_none (A:=A) (s:=s) _;simpa[aM,aN,aO,aP,aQ,aL,aJ] using q)
    | bl b=>
      cases h2
      first
        |exact RcNeAt.bool_bool _ _
        |(have q:=RcNeAt.bool_bool (A:=A) (s:=s) _ _;simpa[aM,aN,aO,aP,aQ,aL,aJ] using q)
    | int b=>
      obtain⟨t2,rfl⟩:=h2
      first
        |exact RcNeAt.bool_int _ _ _
        |(have q:=RcNeAt.bool_int (A:=A) (s:=s) _ _ _;simpa[aM,aN,aO,aP,aQ,aL,aJ] using q)
    | str b=>
      obtain⟨t2,rfl⟩:=h2
      first
        |exact RcNeAt.bool_str _ _ _
        |(have q:=RcNeAt.bool_str (A:=A) (s:=s) _ _ _;simpa[aM,aN,aO,aP,aQ,aL,aJ] using q)
    | tup es=>
      obtain⟨p2,ys,jts,rfl,hq2,v2,hp2,r2⟩:=h2
      first
        |exact RcNeAt.bool_tuple _ hp2 hu
        |(have q:=RcNeAt.bool_tuple (A:=A) (s:=s) _ hp2 hu;simpa[aM,aN,aO,aP,aQ,aL,aJ] using q)
    | lst es=>
      obtain⟨p2,ys,jts,rfl,hq2,v2,hp2,r2⟩:=h2
      first
        |exact RcNeAt.bool_list _ hp2 hu
        |(have q:=RcNeAt.bool_list (A:=A) (s:=s) _ hp2 hu;simpa[aM,aN,aO,aP,aQ,aL,aJ] using q)
  | int a=>
    obtain⟨t1,rfl⟩:=h1
    cases e with
    | non=>
      cases h2
      first
        |exact RcNeAt.int_none _ _
        |(have q:=RcNeAt.int_none (A:=A) (s:=s) _ _;simpa[aM,aN,aO,aP,aQ,aL,aJ] using q)
    | bl b=>
      cases h2
      first
        |exact RcNeAt.int_bool _ _ _
        |(have q:=RcNeAt.int_bool (A:=A) (s:=s) _ _ _;simpa[aM,aN,aO,aP,aQ,aL,aJ] using q)
    | int b=>
      obtain⟨t2,rfl⟩:=h2
      first
        |exact RcNeAt.int_int _ _ _ _
        |(have q:=RcNeAt.int_int (A:=A) (s:=s) _ _ _ _;simpa[aM,aN,aO,aP,aQ,aL,aJ] using q)
    | str b=>
      obtain⟨t2,rfl⟩:=h2
      first
        |exact RcNeAt.int_str _ _ _ _
        |(have q:=RcNeAt.int_str (A:=A) (s:=s) _ _ _ _;simpa[aM,aN,aO,aP,aQ,aL,aJ] using q)
    | tup es=>
      obtain⟨p2,ys,jts,rfl,hq2,v2,hp2,r2⟩:=h2
      first
        |exact RcNeAt.int_tuple _ _ hp2 hu
        |(have q:=RcNeAt.int_tuple (A:=A) (s:=s) _ _ hp2 hu;simpa[aM,aN,aO,aP,aQ,aL,aJ] using q)
    | lst es=>
      obtain⟨p2,ys,jts,rfl,hq2,v2,hp2,r2⟩:=h2
      first
        |exact RcNeAt.int_list _ _ hp2 hu
        |(have q:=RcNeAt.int_list (A:=A) (s:=s) _ _ hp2 hu;simpa[aM,aN,aO,aP,aQ,aL,aJ] using q)
  | str a=>
    obtain⟨t1,rfl⟩:=h1
    cases e with
    | non=>
      cases h2
      first
        |exact RcNeAt.str_none _ _
        |(have q:=RcNeAt.str_none (A:=A) (s:=s) _ _;simpa[aM,aN,aO,aP,aQ,aL,aJ] using q)
    | bl b=>
      cases h2
      first
        |exact RcNeAt.str_bool _ _ _
        |(have q:=RcNeAt.str_bool (A:=A) (s:=s) _ _ _;simpa[aM,aN,aO,aP,aQ,aL,aJ] using q)
    | int b=>
      obtain⟨t2,rfl⟩:=h2
      first
        |exact RcNeAt.str_int _ _ _ _
        |(have q:=RcNeAt.str_int (A:=A) (s:=s) _ _ _ _;simpa[aM,aN,aO,aP,aQ,aL,aJ] using q)
    | str b=>
      obtain⟨t2,rfl⟩:=h2
      first
        |exact RcNeAt.str_str _ _ _ _
        |(have q:=RcNeAt.str_str (A:=A) (s:=s) _ _ _ _;simpa[aM,aN,aO,aP,aQ,aL,aJ] using q)
    | tup es=>
      obtain⟨p2,ys,jts,rfl,hq2,v2,hp2,r2⟩:=h2
      first
        |exact RcNeAt.str_tuple _ _ hp2 hu
        |(have q:=RcNeAt.str_tuple (A:=A) (s:=s) _ _ hp2 hu;simpa[aM,aN,aO,aP,aQ,aL,aJ] using q)
    | lst es=>
      obtain⟨p2,ys,jts,rfl,hq2,v2,hp2,r2⟩:=h2
      first
        |exact RcNeAt.str_list _ _ hp2 hu
        |(have q:=RcNeAt.str_list (A:=A) (s:=s) _ _ hp2 hu;simpa[aM,aN,aO,aP,aQ,aL,aJ] using q)
  | tup ds=>
    obtain⟨p1,xs,its,rfl,hq1,v1,hp1,r1⟩:=h1
    cases e with
    | non=>
      cases h2
      first
        |exact RcNeAt.tuple_none hp1 hu
        |(have q:=RcNeAt.tuple_none (A:=A) (s:=s) hp1 hu;simpa[aM,aN,aO,aP,aQ,aL,aJ] using q)
    | bl b=>
      cases h2
      first
        |exact RcNeAt.tuple_bool _ hp1 hu
        |(have q:=RcNeAt.tuple_bool (A:=A) (s:=s) _ hp1 hu;simpa[aM,aN,aO,aP,aQ,aL,aJ] using q)
    | int b=>
      obtain⟨t2,rfl⟩:=h2
      first
        |exact RcNeAt.tuple_int _ _ hp1 hu
        |(have q:=RcNeAt.tuple_int (A:=A) (s:=s) _ _ hp1 hu;simpa[aM,aN,aO,aP,aQ,aL,aJ] using q)
    | str b=>
      obtain⟨t2,rfl⟩:=h2
      first
        |exact RcNeAt.tuple_str _ _ hp1 hu
        |(have q:=RcNeAt.tuple_str (A:=A) (s:=s) _ _ hp1 hu;simpa[aM,aN,aO,aP,aQ,aL,aJ] using q)
    | tup es=>
      obtain⟨p2,ys,jts,rfl,hq2,v2,hp2,r2⟩:=h2
      have q:=RcNeAt.tuples hp1 hp2 hu (pL r1 r2 v1 v2 ih)
      simp only[List.size_toArray] at q
      rw[Ek (r1.length.trans v1.length) (r2.length.trans v2.length)] at q
      rw[aL];exact q
    | lst es=>
      obtain⟨p2,ys,jts,rfl,hq2,v2,hp2,r2⟩:=h2
      first
        |exact RcNeAt.tuple_list hp1 hp2 hu
        |(have q:=RcNeAt.tuple_list (A:=A) (s:=s) hp1 hp2 hu;simpa[aM,aN,aO,aP,aQ,aL,aJ] using q)
  | lst ds=>
    obtain⟨p1,xs,its,rfl,hq1,v1,hp1,r1⟩:=h1
    cases e with
    | non=>
      cases h2
      first
        |exact RcNeAt.list_none hp1 hu
        |(have q:=RcNeAt.list_none (A:=A) (s:=s) hp1 hu;simpa[aM,aN,aO,aP,aQ,aL,aJ] using q)
    | bl b=>
      cases h2
      first
        |exact RcNeAt.list_bool _ hp1 hu
        |(have q:=RcNeAt.list_bool (A:=A) (s:=s) _ hp1 hu;simpa[aM,aN,aO,aP,aQ,aL,aJ] using q)
    | int b=>
      obtain⟨t2,rfl⟩:=h2
      first
        |exact RcNeAt.list_int _ _ hp1 hu
        |(have q:=RcNeAt.list_int (A:=A) (s:=s) _ _ hp1 hu;simpa[aM,aN,aO,aP,aQ,aL,aJ] using q)
    | str b=>
      obtain⟨t2,rfl⟩:=h2
      first
        |exact RcNeAt.list_str _ _ hp1 hu
        |(have q:=RcNeAt.list_str (A:=A) (s:=s) _ _ hp1 hu;simpa[aM,aN,aO,aP,aQ,aL,aJ] using q)
    | tup es=>
      obtain⟨p2,ys,jts,rfl,hq2,v2,hp2,r2⟩:=h2
      first
        |exact RcNeAt.list_tuple hp1 hp2 hu
        |(have q:=RcNeAt.list_tuple (A:=A) (s:=s) hp1 hp2 hu;simpa[aM,aN,aO,aP,aQ,aL,aJ] using q)
    | lst es=>
      obtain⟨p2,ys,jts,rfl,hq2,v2,hp2,r2⟩:=h2
      by_cases hz:ds.length=es.length
      · have q:=RcNeAt.lists hp1 hp2 (by simp only[List.size_toArray];rw[←v1.length,←v2.length,←r1.length,←r2.length];exact hz) hu (pL r1 r2 v1 v2 ih)
        rw[List.size_toArray,←v1.length,←r1.length,←sI hz] at q
        rw[aJ];exact q
      · rw[aJ,sH hz]
        exact RcNeAt.lists_lengths hp1 hp2 (by simp only[List.size_toArray];rw[←v1.length,←v2.length,←r1.length,←r2.length];simpa using hz) hu
theorem Mj (I:Inv X pins σ H s):∀(n:Nat) (A:Around) (d:D),dep d≤n→A.units+n < cLine→∀(e:D) (v w:V) (u u':Value),Rep X.K O H d v→Rep X.K O' H e w→RelV v u→RelV w u'→EqAt A s u u' (gD d e):=by
  intro n
  induction n with
  | zero=>
    intro A d hd hu e v w u u' r1 r2 q1 q2
    refine Mi I (by omega) (uD I r1 q1) (uD I r2 q2) fun c hc=>?_
    cases d with
    |tup ds=>rw[dep] at hd;omega
    |lst ds=>rw[dep] at hd;omega
    |_=>simp at hc
  | succ n ihn=>
    intro A d hd hu e v w u u' r1 r2 q1 q2
    refine Mi I (by omega) (uD I r1 q1) (uD I r2 q2) fun c hc=>?_
    have hc':dep c≤n:=by
      cases d with
      |tup ds=>rw[dep] at hd;have:=pK (ds:=ds) hc;omega
      |lst ds=>rw[dep] at hd;have:=pK (ds:=ds) hc;omega
      |_=>simp at hc
    exact ihn A.in1 c hc' (by show A.units+1+n < cLine;omega)
end
noncomputable def wC (d e:D):R D:=if dep d≤40 then .ok (.bl (gD d e)) else .bad
noncomputable def fX (d e:D):R D:=if dep d≤40 then .ok (.bl (!gD d e)) else .bad
section
variable {X:Cx}
theorem adB (hu:X.A.units+60 < cLine):OpR X (compareOp .Eq) (fun x y H Q=>∃O O' d e,Rep X.K O H d x∧Rep X.K O' H e y∧dep d≤40∧Q (.bl (gD d e)) H):=by
  intro pins s σ H x y v u Q I rx ry h
  obtain⟨O,O',d,e,r1,r2,hd,q⟩:=h
  refine aaz I (show X.A.units < cLine by omega) (uD I r1 rx) (uD I r2 ry) (fun c hc=>?_) X.prog X.w X.xe _ ⟨.bl _,H,I,rfl,q⟩
  have hc':dep c≤40:=by
    cases d with
    |tup ds=>rw[dep] at hd;have:=pK (ds:=ds) hc;omega
    |lst ds=>rw[dep] at hd;have:=pK (ds:=ds) hc;omega
    |_=>simp at hc
  exact Mj I 40 X.A.in1 c hc' (by show X.A.units+1+40 < cLine;omega)
theorem adC (hu:X.A.units+60 < cLine):OpR X (compareOp .NotEq) (fun x y H Q=>∃O O' d e,Rep X.K O H d x∧Rep X.K O' H e y∧dep d≤40∧Q (.bl (!gD d e)) H):=by
  intro pins s σ H x y v u Q I rx ry h
  obtain⟨O,O',d,e,r1,r2,hd,q⟩:=h
  refine aaA I (show X.A.units < cLine by omega) (uD I r1 rx) (uD I r2 ry) (fun c hc=>?_) X.prog X.w X.xe _ ⟨.bl _,H,I,rfl,q⟩
  have hc':dep c≤40:=by
    cases d with
    |tup ds=>rw[dep] at hd;have:=pK (ds:=ds) hc;omega
    |lst ds=>rw[dep] at hd;have:=pK (ds:=ds) hc;omega
    |_=>simp at hc
  exact Mj I 40 X.A.in1 c hc' (by show X.A.units+1+40 < cLine;omega)
theorem Lr (hu:X.A.units+60 < cLine):jC X (compareOp .Eq) wC:=by
  refine⟨_,adB hu,fun ρ O σ H Q x y dx dy j rx ry h=>?_⟩
  unfold wC at h
  by_cases hd:dep dx≤40
  · rw[if_pos hd] at h;exact⟨O,O,dx,dy,rx,ry,hd,fin h (gW _)⟩
  · rw[if_neg hd] at h;exact h.elim
theorem lQ (hu:X.A.units+60 < cLine):jC X (compareOp .NotEq) fX:=by
  refine⟨_,adC hu,fun ρ O σ H Q x y dx dy j rx ry h=>?_⟩
  unfold fX at h
  by_cases hd:dep dx≤40
  · rw[if_pos hd] at h;exact⟨O,O,dx,dy,rx,ry,hd,fin h (gW _)⟩
  · rw[if_neg hd] at h;exact h.elim
end
end Pu
namespace Pu
open PySem PySem.Spec L2
open PyProof.Rows hiding St
section
variable {prog:Program} {w:World} {A:Around} {E:Value→Shared→Prop} {s:Shared}
end
section
variable {X:Cx} {e:Expr} {te:TE} {pos p2 p3 p4:Pos} {j:Nat} {f:aq→R D}
theorem Vals.rev {xs:List V} {us:List Value} (h:Vals xs us):Vals xs.reverse us.reverse:=by
  induction h with
  |nil=>exact .nil
  | cons r _ ih=>
    simp only[List.reverse_cons]
    exact ih.append (.cons r .nil)
noncomputable def afa:D→R D
  | .tup ds=> .ok (.tup ds.reverse)
  |_=> .bad
noncomputable def fQ:D→D→R D
  | .int i,.int j=> .ok (.int (i+j))
  | .tup xs,.tup ys=>if 0 < xs.length∧xs.length+ys.length≤1000000 then .ok (.tup (xs++ys)) else .bad
  |_,_=> .bad
theorem jZ:jC X (binaryOp .Add) fQ:=by
  refine⟨_,OpR.or op_add op_catT,fun ρ O σ H Q x y dx dy j0 rx ry h=>?_⟩
  cases dx <;> cases dy <;> first
    |exact h.elim
    |skip
  · rename_i i j
    exact .inl ⟨i,j,rx.int,ry.int,fin h (cL _)⟩
  · rename_i xs ys
    have h:good X (rD X) O (if 0 < xs.length∧xs.length+ys.length≤1000000 then .ok (.tup (xs++ys)) else .bad) σ H Q:=h
    by_cases hc:0 < xs.length∧xs.length+ys.length≤1000000
    · rw[if_pos hc] at h
      obtain⟨a,us,rfl,ha,r1⟩:=rx.tup
      obtain⟨b,ws,rfl,hb,r2⟩:=ry.tup
      refine .inr ⟨a,b,us,ws,rfl,rfl,ha,hb,fun z=>?_,?_,fun z=>?_,fun z l hl=>?_⟩
      · have h1:=r1.length
        have h2:=hc.1
        rw[z] at h1
        rw[h1] at h2
        exact Nat.lt_irrefl _ h2
      · rw[←r1.length,←r2.length];exact Nat.le_trans hc.2 eE
      · subst z
        have:ys=[]:=List.eq_nil_of_length_eq_zero r2.length
        subst this
        rw[List.append_nil] at h
        exact fin h (lO ha r1)
      · exact h _ _ (Same.upd hl) (Rep.rK hl (r1.append r2))
    · rw[if_neg hc] at h;exact h.elim
end
end Pu
namespace Pu
open PySem PySem.Spec L2
open PyProof.Rows hiding St
section
variable {K:PySem.W.Frag} {O:Addr→Prop} {H:Hp}
end
section
variable {X:Cx} {e e1 e2:Expr} {f g:aq→R D} {pos:Pos}
end
end Pu
namespace Pu
open PySem PySem.W PyProof.Rows
section
variable {n:Nat} {lt:Nat→Nat→Bool}
noncomputable def S (lt:Nat→Nat→Bool) (p:Array Nat) (k:Nat):Prop:=∀i j,i < j→j < k→lt (p.getD i 0) (p.getD j 0)=true
end
end Pu
namespace Pu
open PySem PySem.Spec PySem.W L2
open PyProof.Rows hiding St
section
variable {prog:Program} {w:World} {A:Around} {E:Value→Shared→Prop} {s:Shared}
end
end Pu
namespace Pu
open PySem PySem.Spec PySem.W L2
open PyProof.Rows hiding St
section
variable {prog:Program} {w:World} {A:Around} {E:Value→Shared→Prop} {s:Shared}
end
end Pu
namespace Pu
open PySem PySem.Spec PySem.W L2
open PyProof.Rows hiding St
section
variable {X:Cx} {pins:List (Addr×Obj)} {σ:St} {H:Hp} {s:Shared}
end
section
variable {X:Cx}
end
end Pu
namespace Pu
open PySem PySem.Spec PySem.W L2
open PyProof.Rows hiding St
section
variable {X:Cx}
end
end Pu
namespace Pu
open PySem PySem.Spec L2
open PyProof.Rows hiding St
section
variable {X:Cx} {a b:Expr} {es:List Expr} {f g:aq→R D} {fa:aq→R (List D)} {pos:Pos}
noncomputable def Jt (i k:Nat) (f g:aq→R D):aq→So:=fun ρ=>jc (f ρ) ρ fun d=>jc (g ρ) ρ fun e=> .nx ((ρ.set i (some (.val d))).set k (some (.val e)))
theorem XJ (i k:Nat) {x y:Str} {px py pt:Pos} {kt k2 pt2} (hc:X.calm=true) (hN:X.N.Nodup) (ha:DE X a f) (hb:DE X b g) (hi:X.N[i]?=some x:=by rfl) (hk:X.N[k]?=some y:=by rfl) (hik:i≠k:=by decide)
    (hx:X.env.scope.names.lookup x=some .local:=by rfl) (hy:X.env.scope.names.lookup y=some .local:=by rfl)
    (h1:starEach [a,b] X.env=(false,eval a X.env)::starEach [b] X.env:=by rfl) (h2:starEach [b] X.env=(false,eval b X.env)::starEach [] X.env:=by rfl)
    (hw:swappedStores [.Tuple [.Name x px,.Name y py] kt pt] (.Tuple [a,b] k2 pt2) X.env=pure (some [x,y]):=by rfl)
    (hs:swapsWithSole [.Tuple [.Name x px,.Name y py] kt pt] (.Tuple [a,b] k2 pt2) pos.line X.env=pure false:=by rfl):
    DS X (.Assign [.Tuple [.Name x px,.Name y py] kt pt] (.Tuple [a,b] k2 pt2) pos) (Jt i k f g):=by
  refine PS.imp (ps_par hc hN hi hk hik hx hy (pa_cons ha (pa_cons hb pa_nil h2) h1) hw hs) fun σ H E h=>?_
  obtain⟨H0,O0,O,ρ,j,h⟩:=h
  refine⟨ρ,O,j.inn,?_⟩
  unfold Jt jc at h
  cases e1:f ρ with
  |bad=>rw[e1] at h;exact h
  |err c=>rw[e1] at h;exact h σ H O j
  | ok d=>
    rw[e1] at h
    intro v H1 s1 rv
    have j1:=j.grow s1
    refine⟨ρ,O,j1.inn,?_⟩
    cases e2:g ρ with
    |bad=>simp only[e2] at h;exact h
    |err c=>simp only[e2] at h;exact J2.same (h σ H O j) s1
    | ok e=>
      simp only[e2] at h
      intro w H2 s2 rw2
      refine⟨v,w,rfl,?_⟩
      exact h _ H2 O (((j1.grow s2).set (List.getElem?_eq_some_iff.mp hi).1 (rv.same s2)).set (List.getElem?_eq_some_iff.mp hk).1 rw2) ((Same.eY s1).trans (Same.eY s2))
noncomputable def Ml (i k:Nat) (f:aq→R D) (fa:aq→R (List D)):aq→So:=fun ρ=>jc (f ρ) ρ fun d=>match fa ρ with
  | .ok ds=>if ds.length≤1000000 then .nx ((ρ.set i (some (.val d))).set k (some (.lst ds))) else .bad
  |_=> .bad
theorem abT (i k:Nat) {x y:Str} {px py pt p3:Pos} {kt k2 pt2} (hc:X.calm=true) (hN:X.N.Nodup) (ha:DE X a f) (hb:DA X es fa) (hi:X.N[i]?=some x:=by rfl) (hk:X.N[k]?=some y:=by rfl)
    (hx:Loc X.env.scope x:=by first |exact Or.inl rfl |exact Or.inr rfl) (hy:Loc X.env.scope y:=by first |exact Or.inl rfl |exact Or.inr rfl)
    (hfx:X.fn x=true∨X.env.scope.names.lookup x=some .local:=by first |exact .inl rfl |exact .inr rfl) (Mf:X.fn y=true∨X.env.scope.names.lookup y=some .local:=by first |exact .inl rfl |exact .inr rfl)
    (h1:starEach [a,.List es p3] X.env=(false,eval a X.env)::starEach [.List es p3] X.env:=by rfl) (h2:starEach [.List es p3] X.env=(false,eval (.List es p3) X.env)::starEach [] X.env:=by rfl)
    (hs:swapsWithSole [.Tuple [.Name x px,.Name y py] kt pt] (.Tuple [a,.List es p3] k2 pt2) pos.line X.env=pure false:=by rfl) (hw:swappedStores [.Tuple [.Name x px,.Name y py] kt pt] (.Tuple [a,.List es p3] k2 pt2) X.env=pure none:=by rfl):
    DS X (.Assign [.Tuple [.Name x px,.Name y py] kt pt] (.Tuple [a,.List es p3] k2 pt2) pos) (Ml i k f fa):=by
  refine PS.imp (ps_asg (pe_tup (pa_cons ha (pa_cons (TX hb) pa_nil h2) h1)) (pg_tup hc (pgs_cons (pg_name hN hi hx hfx) (pgs_cons (pg_name hN hk hy Mf) pgs_nil))) hs hw) fun σ H E h=>?_
  obtain⟨H0,O0,O,ρ,j,h⟩:=h
  refine⟨ρ,O,j.inn,?_⟩
  unfold Ml jc at h
  cases e1:f ρ with
  |bad=>rw[e1] at h;exact h
  |err c=>rw[e1] at h;exact h σ H O j
  | ok d=>
    rw[e1] at h
    intro v H1 s1 rv
    have j1:=j.grow s1
    refine⟨ρ,O,j1.inn,?_⟩
    cases e2:fa ρ with
    |bad=>simp only[e2] at h;exact h
    |err c=>simp only[e2] at h;exact h.elim
    | ok ds=>
      simp only[e2] at h
      by_cases hl:ds.length≤1000000
      · simp only[if_pos hl] at h
        intro vs H2 s2 rvs
        refine⟨by rw[←rvs.length];exact Nat.le_trans hl eE,fun p hp hpk=>?_⟩
        refine⟨by show 2≤sizeLine;decide,fun t ht=>?_⟩
        refine⟨t,[v,.ref p],rfl,SqT.of upd_same,rfl,v,[.ref p],rfl,.ref p,[],rfl,rfl,?_⟩
        have j2:=(j1.grow s2).set (List.getElem?_eq_some_iff.mp hi).1 (rv.same s2)
        obtain⟨j3,r3⟩:=j2.own (List.getElem?_eq_some_iff.mp hk).1 (o:= .lst vs) (en:= .lst ds) hp hpk rfl ⟨p,vs,rfl,.inr rfl,upd_same,rvs.go ⟨(Same.eY (K:=X.K) (O:=O) (Same.upd hp)).ext,fun a z=>z.elim .inl fun e=> .inr (by rw[e];exact⟨hp,hpk⟩),(Same.eY (K:=X.K) (O:=O) (Same.upd hp)).dom⟩⟩
        have s4:Same (upd H2 p (.lst vs)) (upd (upd H2 p (.lst vs)) t (.tup [v,.ref p])):=Same.upd ht
        exact h _ _ _ (j3.grow s4) ((((Same.eY s1).trans (Same.eY s2)).trans r3).trans (Same.eY s4))
      · simp only[if_neg hl] at h;exact h.elim
end
noncomputable def Cy (s:String):Bool:=s == "int" || s == "bool"
noncomputable def xP (s:String):Bool:=s == "bool"
noncomputable def nQ (s:String):Bool:=s == "tuple"
noncomputable def Mp (s:String):Bool:=s == "list"
noncomputable def bf (P:Program) (w:World) (K:PySem.W.Frag) (mg:Str→Option Value) (base:Heap) (k:Nat) (x:Str) (n:Nat) (F:List D→R D):Prop:=
  ∃f fd ps,FnOk P w K mg base CX0 k f fd ps (J9 K n F)∧mg x=some (.ref f)∧PySem.W.keepIn K (.ref f)=true∧Binds K fd ps []
theorem bM {X:Cx} {k n m:Nat} {F:List D→R D} {x:Str} {p pos:Pos} {e:Expr} {es:List Expr} {fa:aq→R (List D)} (G:bf X.prog X.w X.K X.mg X.base k x n F) (hr:Room m X.A) (hkm:k≤m) (ha:DA X (e::es) fa) (hg:Gl X x:=by rfl)
    (hdb:(x ==("__debug__" :Str))=false:=by decide) (he:starEach (e::es) X.env=(false,eval e X.env)::starEach es X.env:=by rfl) (hpl:(backTo pos (starEach es X.env)).any (·.1)=false:=by rfl):
    DE X (.Call (.Name x p) (e::es) [] pos) (aD (bC F n) fa):=by
  obtain⟨f,fd,ps,ok,hm,hk,hb⟩:=G
  exact abR ok (hr.mono hkm) hg hm hk hb ha hdb he hpl
theorem gF {A:Around} {k:Nat} (hr:Room k A):A.units+60 < cLine:=by have:=hr.un;omega
theorem cM {P:Program} {w:World} {K:PySem.W.Frag} {mg:Str→Option Value} {base:Heap} {x qual:Str} {st:Stmt} {f:Addr} {fd:FuncData} {N ps:List Str} {k n m:Nat} {g:aq→So} (Fn:Fun K x qual st f fd) (hmg:mg x=some (.ref f)) (hb:Binds K fd ps []) (S:FnScope N ps (defScope st)) (hn:ps.length=n) (hm:N.length=n+m)
    (hbody:∀(cdv:Value) (A:Around) (outer:List PySem.Env) (s:Shared) (H:Hp) (E:XK),Room k (A.deeper (envOfC qual (defScope st) s.heap.objs.size f cdv))→eF (cxOf CX0 P w K mg base N qual (defScope st) f cdv A outer s H E).nox (defBody st) g):
    bf P w K mg base (k+1) x n (cO m g):=⟨f,fd,ps,fnD Fn S hn hm hbody fun ds d _ e=>e,hmg,Fn.kp,hb⟩
theorem sp_law {K:PySem.W.Frag} {F:List D→R D} {H:Hp} {a:Addr} {ns:List Int} {E:XK} (hS:SqL K H a (ns.map V.int)) (hF:F [.lst (ns.map D.int)]= .ok (.bl true)):J9 K 1 F [.ref a] H (fun v _=>v= .bl true) E:=by
  refine⟨fun _=>False,[.lst (ns.map D.int)],.cons (je hS (fun z=>z) ?_) .nil,rfl,fun a z=>z.elim,?_⟩
  · have:∀l:List Int,aV K (fun _=>False) H (l.map D.int) (l.map V.int):=by
      intro l
      induction l with
      |nil=>exact .nil
      |cons i l ih=>exact .cons (cL i) ih
    exact this ns
  · rw[hF]
    exact fun v H' _ r=>r.bl
end Pu
namespace Pu
open PySem PySem.Spec L2
theorem T4 {α:Type} {k:D→R (Option D)} {c h:α→D}:∀{l:List α},(∀a∈l,k (c a)= .ok (some (h a)))→ig k (l.map c)= .ok (l.map h)
  |[],_=>rfl
  | a::l,q=>by
    rw[List.map_cons,ig,q a (by simp),zM,R.bK,T4 fun b hb=>q b (by simp[hb])]
    rfl
theorem Gy {α:Type} {c:α→Bool}:∀{l:List α},boolsOf (l.map fun a=> .bl (c a))=some (l.map c)
  |[]=>rfl
  | a::l=>by
    rw[List.map_cons,boolsOf,Gy]
    rfl
theorem zP {α:Type} {c:α→Int}:∀{l:List α},intsOf (l.map fun a=> .int (c a))=some (l.map c)
  |[]=>rfl
  | a::l=>by
    rw[List.map_cons,intsOf,zP]
    rfl
theorem T5 {α:Type} {c:α→D} {n:Nat}:∀{l:List α},(∀a∈l,dep (c a)≤n)→deps (l.map c)≤n
  |[],_=>by rw[List.map_nil,deps];omega
  | a::l,h=>by
    rw[List.map_cons,deps]
    have:=h a (by simp)
    have:=T5 (l:=l) fun b hb=>h b (by simp[hb])
    omega
theorem xQ {d e:D} (h:d=e) (hd:dep d≤40):fX d e= .ok (.bl false):=by
  subst h
  rw[fX,if_pos hd,Ej];rfl
theorem Mq {d e:D} (h:d=e) (hd:dep d≤40):wC d e= .ok (.bl true):=by
  subst h
  rw[wC,if_pos hd,Ej]
theorem all_true {l:List α}:(l.map fun _=>true).all id=true:=by
  induction l with
  |nil=>rfl
  |cons a l ih=>rw[List.map_cons,List.all_cons,ih];rfl
theorem atI_nat {α:Type} {xs:List α} {j:Nat} (h:j < xs.length):atI xs (j:Int)=some xs[j]:=by
  unfold atI ixN
  rw[if_pos (by omega),if_pos (by omega),Int.toNat_natCast,Option.bind_some,List.getElem?_eq_getElem h]
theorem T6 {α:Type} {xs:List α} {i:Int} (h0:0≤i) (h1:i < xs.length):∃x∈xs,atI xs i=some x:=by
  obtain⟨j,rfl⟩:=Int.eq_ofNat_of_zero_le h0
  have hj:j < xs.length:=by omega
  exact⟨xs[j],List.getElem_mem hj,atI_nat hj⟩
theorem cC {α:Type} {n:Nat} {caps:List Nat} {fi:aq→R (List D)} {gt:D→aq→R aq} {ft:aq→R Bool} {fe:aq→R D} {ρ:aq} {c h:α→D} {l:List α} (e1:fi ρ= .ok (l.map c)) (hl:l.length≤1000000)
    (e2:∀a∈l,jP gt ft fe (uw n caps ρ) (c a)= .ok (some (h a))):bB n caps fi gt ft fe ρ= .ok (.lst (l.map h)):=by
  rw[bB,e1,R.bK,T4 e2,R.bK,cap,if_pos (by rw[List.length_map];exact hl)]
noncomputable def look:List (Int×Int)→Int→Int
  |[],_=>0
  |(k,v)::r,c=>if k=c then v else look r c
noncomputable abbrev keys (ps:List (Int×Int)):List Int:=ps.map (·.1)
end Pu
namespace Pu
open PySem PySem.Spec L2
section
variable {ρ ρ':aq} {f g:aq→R D} {fa:aq→R (List D)} {p q:aq→R Bool} {x y d:D} {xs ds:List D} {r:R D} {k:D→D→R D} {c:List D→R D} {n:Nat} {F:List D→R D} {o:So} {s t:aq→So} {gt:D→aq→R aq} {b:Bool}
theorem aY (e:fa ρ= .ok ds) (h:c ds=r):aD c fa ρ=r:=by rw[aD,e];exact h
theorem bH (e:fa ρ= .ok ds) (h:F ds= .ok d) (hl:ds.length=n:=by rfl):aD (bC F n) fa ρ= .ok d:=by rw[aD,e,R.bK,bC,if_pos hl,h];rfl
theorem aF (e1:f ρ= .ok x) (e2:fa ρ= .ok xs):ao f fa ρ= .ok (x::xs):=by rw[ao,e1,R.bK,e2];rfl
theorem aB (e:f ρ= .ok x):ao f (fun _=> .ok []) ρ= .ok [x]:=aF e rfl
theorem au (e1:f ρ= .ok x) (e2:g ρ= .ok y) (h:k x y=r):bin f g k ρ=r:=by rw[bin,e1,R.bK,e2];exact h
theorem Gz (e1:f ρ= .ok (.bl true)) (e2:g ρ=r):zJ f g ρ=r:=by rw[zJ,e1];exact e2
theorem GC {h:aq→R D} {l:D→D→R D} {z:D} (e1:f ρ= .ok x) (e2:g ρ= .ok y) (e3:k x y= .ok (.bl true)) (e4:h ρ= .ok z) (e5:l y z=r):Gs f g h k l ρ=r:=by
  rw[Gs,e1,R.bK,e2,R.bK,e3,R.bK]
  show (h ρ).bind _=_
  rw[e4];exact e5
theorem lD (e:fa ρ= .ok ds) (h:ds.length≤1000000:=by exact Nat.le_of_ble_eq_true rfl):m9 fa ρ= .ok (.tup ds):=by rw[m9,e,R.bK,cap,if_pos h]
theorem jf (e:fa ρ= .ok ds) (h:ds.length≤1000000:=by exact Nat.le_of_ble_eq_true rfl):kO fa ρ= .ok (.lst ds):=by rw[kO,e,R.bK,cap,if_pos h]
theorem nR (e:f ρ= .ok (.tup ds)):d7 f ρ= .ok ds:=by rw[d7,e];rfl
theorem jD (e:f ρ= .ok (.lst ds)):d7 f ρ= .ok ds:=by rw[d7,e];rfl
theorem jF {m:Nat} (e:fa ρ= .ok [.int (m:Int)]) (h:m < 2 ^ 62):(fun ρ=>(fa ρ).bind gY) ρ= .ok ((List.range m).map fun (i:Nat)=>D.int (i:Int)):=by
  show (fa ρ).bind gY=_
  rw[e,R.bK,gY,if_pos ⟨by have:(0:Int)≤m:=Int.natCast_nonneg m;omega,by omega⟩]
  simp[upto]
theorem cN {ρ1:aq} (e1:gt x ρ= .ok ρ1) (e2:f ρ1= .ok d):jP gt (fun _=> .ok true) f ρ x= .ok (some d):=by
  rw[jP,e1,R.bK,R.bK,if_pos rfl,e2];rfl
theorem bw (e:f ρ= .ok (.bl b)):bL f ρ= .ok b:=by rw[bL,e];rfl
theorem oF (e:p ρ= .ok b):m8 p ρ= .ok (!b):=by rw[m8,e];rfl
theorem qN (e1:p ρ= .ok false) (e2:q ρ= .ok b):uo p q ρ= .ok b:=by rw[uo,e1,R.bK,if_neg (by decide)];exact e2
theorem pN (e1:p ρ= .ok true) (e2:q ρ= .ok b):ou p q ρ= .ok b:=by rw[ou,e1,R.bK,if_pos rfl];exact e2
theorem Ju (e1:p ρ= .ok false):ou p q ρ= .ok false:=by rw[ou,e1,R.bK,if_neg (by decide)]
theorem qI {i:Nat} (h:xs[i]?=some d):bQ (.tup xs) (.int (i:Int))= .ok d:=by
  obtain⟨hi,e⟩:=List.getElem?_eq_some_iff.mp h
  rw[bQ,atI_nat hi,e]
theorem XM {i:Nat} (h:xs[i]?=some d):bQ (.lst xs) (.int (i:Int))= .ok d:=by
  obtain⟨hi,e⟩:=List.getElem?_eq_some_iff.mp h
  rw[bQ,atI_nat hi,e]
theorem aK (e1:s ρ= .nx ρ') (e2:t ρ'=o):aZ s t ρ=o:=by rw[aZ,e1];exact e2
theorem bZ (e:f (cG ρ)= .ok d):retS f ρ= .rt d:=by rw[retS,e];rfl
theorem bx (e:f ρ= .ok d) (e2:gt d ρ= .ok ρ'):bJ f gt ρ= .nx ρ':=by rw[bJ,e];show (match gt d ρ with | .ok ρ'=>So.nx ρ' |_=> .bad)=_;rw[e2]
theorem rO (e:f (cG ρ)= .ok d):uz f ρ= .nx ρ:=by rw[uz,e];rfl
theorem jg (e:p (cG ρ)= .ok true) (e2:s ρ=o):gM p s t ρ=o:=by rw[gM,e];exact e2
theorem cQ (e:p (cG ρ)= .ok false) (e2:t ρ=o):gM p s t ρ=o:=by rw[gM,e];exact e2
theorem cI {m:Nat} (e:s (ds.map (fun d=>some (.val d))++List.replicate m none)= .rt d):cO m s ds= .ok d:=by rw[cO,e]
theorem abw {m:Nat} (e:s (ds.map (fun d=>some (.val d))++List.replicate m none)= .nx ρ):cO m s ds= .ok .non:=by rw[cO,e]
theorem j5 {i j:Int} (h:(-(2 ^ 64) < i∧i < 2 ^ 64)∨(-(2 ^ 64) < j∧j < 2 ^ 64)):gR (.int i) (.int j)= .ok (.int (i*j)):=by
  show (if _ then _ else _)=_
  rw[if_pos h]
theorem lE {i j:Int} (h:0 < j∧j < 2 ^ 64):eX (.int i) (.int j)= .ok (.int (i / j)):=by
  show (if _ then _ else _)=_
  rw[if_pos h]
theorem mK {i j:Int} (h:0 < j):fV (.int i) (.int j)= .ok (.int (i % j)):=by
  show (if _ then _ else _)=_
  rw[if_pos h]
theorem wD {α:Type} {l:List α}:xO [.lst (l.map fun _=> .bl true)]= .ok (.bl true):=by
  have:=Gy (c:=fun _:α=>true) (l:=l)
  rw[xO,this]
  show R.ok (D.bl _)=_
  rw[all_true]
theorem Cz {α:Type} {c:α→Int} {l:List α}:ni [.lst (l.map fun a=> .int (c a))]= .ok (.int (l.map c).sum):=by rw[ni,zP]
theorem abU {α:Type} {c:α→Int} {l:List α}:ni [.tup (l.map fun a=> .int (c a))]= .ok (.int (l.map c).sum):=by rw[ni,zP]
end
end Pu
namespace Pu
open PySem PySem.Spec L2
noncomputable def Jv:aq→So:=(aZ (bJ (bin (fun _=> .ok (.int 7)) (fun ρ=>aj ρ 1) gR) (aG 3)) (aZ (gM (bL (bin (fun ρ=>aj ρ 0) (kO (fun _=> .ok [])) fX)) (aZ (bJ (bin (fun ρ=>aj ρ 0) (bin (fun ρ=>aj ρ 1) (aD cB (ao (fun ρ=>aj ρ 0) (fun _=> .ok []))) fV) bQ) (aG 3)) (aZ (bJ (bin (fun ρ=>aj ρ 1) (aD cB (ao (fun ρ=>aj ρ 0) (fun _=> .ok []))) eX) (aG 4)) (aZ (gM (ou (bL (bin (fun ρ=>aj ρ 3) (bin (fun _=> .ok (.int 10)) (fun _=> .ok (.int 18)) uP) LC)) (bL (bin (fun ρ=>aj ρ 4) (fun _=> .ok (.int 60)) ltI))) (aZ (bJ (bin (fun ρ=>aj ρ 3) (bin (fun _=> .ok (.int 10)) (fun _=> .ok (.int 18)) uP) eX) (aG 5)) (aZ (gO (ou (bL (bin (fun ρ=>aj ρ 5) (fun _=> .ok (.int 0)) nP)) (bL (bin (fun ρ=>aj ρ 4) (fun _=> .ok (.int 0)) nP))) (aZ (bJ (bin (fun ρ=>aj ρ 5) (fun _=> .ok (.int 1000000)) eX) (aG 5)) (bJ (bin (fun ρ=>aj ρ 4) (fun _=> .ok (.int 1)) dZ) (aG 4))) 64) (gM (bL (bin (fun ρ=>aj ρ 5) (fun _=> .ok (.int 0)) nP)) (retS (bin (bin (fun ρ=>aj ρ 5) (fun _=> .ok (.int 1000000)) fV) (fun ρ=>aj ρ 2) fV)) So.nx))) So.nx) (bJ (bin (fun ρ=>aj ρ 3) (bin (fun _=> .ok (.int 6553)) (bin (fun ρ=>aj ρ 1) (aD cB (ao (fun ρ=>aj ρ 0) (fun _=> .ok []))) eX) gR) fQ) (aG 3))))) So.nx) (aZ (bJ (bin (bin (bin (bin (fun ρ=>aj ρ 3) (fun _=> .ok (.int 2147483563)) fV) (fun _=> .ok (.int 69069)) gR) (bin (fun _=> .ok (.int 104723)) (bin (fun ρ=>aj ρ 1) (fun _=> .ok (.int 1)) fQ) gR) fQ) (fun _=> .ok (.int 2147483563)) fV) (aG 3)) (aZ (bJ (bin (bin (bin (fun ρ=>aj ρ 3) (fun ρ=>aj ρ 3) gR) (bin (fun ρ=>aj ρ 3) (fun _=> .ok (.int 3)) eX) fQ) (fun _=> .ok (.int 2147483399)) fV) (aG 3)) (retS (bin (bin (bin (bin (bin (fun ρ=>aj ρ 3) (fun ρ=>aj ρ 3) gR) (bin (fun ρ=>aj ρ 3) (fun _=> .ok (.int 7)) eX) fQ) (fun _=> .ok (.int 2147483647)) fV) (fun _=> .ok (.int 11)) eX) (fun ρ=>aj ρ 2) fV))))))
noncomputable def tailD:aq→So:=(aZ (bJ (bin (bin (bin (bin (fun ρ=>aj ρ 3) (fun _=> .ok (.int 2147483563)) fV) (fun _=> .ok (.int 69069)) gR) (bin (fun _=> .ok (.int 104723)) (bin (fun ρ=>aj ρ 1) (fun _=> .ok (.int 1)) fQ) gR) fQ) (fun _=> .ok (.int 2147483563)) fV) (aG 3)) (aZ (bJ (bin (bin (bin (fun ρ=>aj ρ 3) (fun ρ=>aj ρ 3) gR) (bin (fun ρ=>aj ρ 3) (fun _=> .ok (.int 3)) eX) fQ) (fun _=> .ok (.int 2147483399)) fV) (aG 3)) (retS (bin (bin (bin (bin (bin (fun ρ=>aj ρ 3) (fun ρ=>aj ρ 3) gR) (bin (fun ρ=>aj ρ 3) (fun _=> .ok (.int 7)) eX) fQ) (fun _=> .ok (.int 2147483647)) fV) (fun _=> .ok (.int 11)) eX) (fun ρ=>aj ρ 2) fV))))
noncomputable def adD:aq→So:=(gM (ou (bL (bin (fun ρ=>aj ρ 3) (bin (fun _=> .ok (.int 10)) (fun _=> .ok (.int 18)) uP) LC)) (bL (bin (fun ρ=>aj ρ 4) (fun _=> .ok (.int 60)) ltI))) (aZ (bJ (bin (fun ρ=>aj ρ 3) (bin (fun _=> .ok (.int 10)) (fun _=> .ok (.int 18)) uP) eX) (aG 5)) (aZ (gO (ou (bL (bin (fun ρ=>aj ρ 5) (fun _=> .ok (.int 0)) nP)) (bL (bin (fun ρ=>aj ρ 4) (fun _=> .ok (.int 0)) nP))) (aZ (bJ (bin (fun ρ=>aj ρ 5) (fun _=> .ok (.int 1000000)) eX) (aG 5)) (bJ (bin (fun ρ=>aj ρ 4) (fun _=> .ok (.int 1)) dZ) (aG 4))) 64) (gM (bL (bin (fun ρ=>aj ρ 5) (fun _=> .ok (.int 0)) nP)) (retS (bin (bin (fun ρ=>aj ρ 5) (fun _=> .ok (.int 1000000)) fV) (fun ρ=>aj ρ 2) fV)) So.nx))) So.nx)
noncomputable def wcD:aq→R Bool:=(ou (bL (bin (fun ρ=>aj ρ 5) (fun _=> .ok (.int 0)) nP)) (bL (bin (fun ρ=>aj ρ 4) (fun _=> .ok (.int 0)) nP)))
noncomputable def wbD:aq→So:=(aZ (bJ (bin (fun ρ=>aj ρ 5) (fun _=> .ok (.int 1000000)) eX) (aG 5)) (bJ (bin (fun ρ=>aj ρ 4) (fun _=> .ok (.int 1)) dZ) (aG 4)))
section
variable {S s0 s1 s2 s3 x y:Option Ent} {k m c:Int}
theorem tail_eq (hm:0 < m):∃v,tailD [S,some (.val (.int k)),some (.val (.int m)),some (.val (.int c)),x,y]= .rt (.int v)∧0≤v∧v < m:=by
  refine⟨_,aK (bx (au (au (au (au rfl rfl (mK (by omega))) rfl (j5 (.inr ⟨by omega,by omega⟩))) (au rfl (au rfl rfl rfl) (j5 (.inl ⟨by omega,by omega⟩))) rfl) rfl (mK (by omega))) rfl)
    (aK (bx (au (au (au rfl rfl (j5 (.inl ?b1))) (au rfl rfl (lE ⟨by omega,by omega⟩)) rfl) rfl (mK (by omega))) rfl)
    (bZ (au (au (au (au (au rfl rfl (j5 (.inl ?b2))) (au rfl rfl (lE ⟨by omega,by omega⟩)) rfl) rfl (mK (by omega))) rfl (lE ⟨by omega,by omega⟩)) rfl (mK hm)))),Int.emod_nonneg _ (by omega),Int.emod_lt_of_pos _ hm⟩
  case b1=>
    have h1:=Int.emod_nonneg (c % 2147483563*69069+104723*(k+1)) (b:=2147483563) (by omega)
    have h2:=Int.emod_lt_of_pos (c % 2147483563*69069+104723*(k+1)) (b:=2147483563) (by omega)
    constructor <;> omega
  case b2=>
    generalize (c % 2147483563*69069+104723*(k+1)) % 2147483563=z
    have h1:=Int.emod_nonneg (z*z+z / 3) (b:=2147483399) (by omega)
    have h2:=Int.emod_lt_of_pos (z*z+z / 3) (b:=2147483399) (by omega)
    constructor <;> omega
theorem xR {i j:Int}:nP (.int i) (.int j)= .ok (.bl (decide (j < i))):=rfl
theorem Mr:∀{n:Nat} {t r:Int},0≤t→t < n→∃t' r',gO wcD wbD n [s0,s1,s2,s3,some (.val (.int t)),some (.val (.int r))]= .nx [s0,s1,s2,s3,some (.val (.int t')),some (.val (.int r'))]
  |0,t,r,h0,h1=>by omega
  | n + 1,t,r,h0,h1=>by
    rw[gO]
    by_cases hr:0 < r
    · by_cases ht:0 < t
      · obtain⟨t',r',e⟩:=Mr (n:=n) (t:=t - 1) (r:=r / 1000000) (by omega) (by omega)
        refine⟨t',r',?_⟩
        have e1:wcD (cG [s0,s1,s2,s3,some (.val (.int t)),some (.val (.int r))])= .ok true:=pN (bw (au rfl rfl (by rw[xR,decide_eq_true hr]))) (bw (au rfl rfl (by rw[xR,decide_eq_true ht])))
        have e2:wbD [s0,s1,s2,s3,some (.val (.int t)),some (.val (.int r))]= .nx [s0,s1,s2,s3,some (.val (.int (t - 1))),some (.val (.int (r / 1000000)))]:=aK (bx (au rfl rfl (lE ⟨by omega,by omega⟩)) rfl) (bx (au rfl rfl rfl) rfl)
        simp only[e1,e2]
        exact e
      · refine⟨t,r,?_⟩
        have e1:wcD (cG [s0,s1,s2,s3,some (.val (.int t)),some (.val (.int r))])= .ok false:=pN (bw (au rfl rfl (by rw[xR,decide_eq_true hr]))) (bw (au rfl rfl (by rw[xR,decide_eq_false ht])))
        simp only[e1]
    · refine⟨t,r,?_⟩
      have e1:wcD (cG [s0,s1,s2,s3,some (.val (.int t)),some (.val (.int r))])= .ok false:=Ju (bw (au rfl rfl (by rw[xR,decide_eq_false hr])))
      simp only[e1]
theorem GD:uP (.int 10) (.int 18)= .ok (.int 1000000000000000000):=by
  unfold uP iD
  simp only[]
  rw[if_pos ⟨by decide,by decide,by decide⟩];rfl
theorem adE {t:Int} (hm:0 < m) (ht:0≤t):(∃t' x',adD [S,some (.val (.int k)),some (.val (.int m)),some (.val (.int c)),some (.val (.int t)),x]= .nx [S,some (.val (.int k)),some (.val (.int m)),some (.val (.int c)),some (.val (.int t')),x'])∨
    ∃v,adD [S,some (.val (.int k)),some (.val (.int m)),some (.val (.int c)),some (.val (.int t)),x]= .rt (.int v)∧0≤v∧v < m:=by
  by_cases h1:1000000000000000000≤c
  · by_cases h2:t < 60
    · have e:(ou (bL (bin (fun ρ=>aj ρ 3) (bin (fun _=> .ok (.int 10)) (fun _=> .ok (.int 18)) uP) LC)) (bL (bin (fun ρ=>aj ρ 4) (fun _=> .ok (.int 60)) ltI))) (cG [S,some (.val (.int k)),some (.val (.int m)),some (.val (.int c)),some (.val (.int t)),x])= .ok true:=
        pN (bw (au rfl (au rfl rfl GD) (by show R.ok (D.bl (decide _))=_;rw[decide_eq_true h1]))) (bw (au rfl rfl (by show R.ok (D.bl (decide _))=_;rw[decide_eq_true h2])))
      obtain⟨t',r',ew⟩:=Mr (s0:=S) (s1:=some (.val (.int k))) (s2:=some (.val (.int m))) (s3:=some (.val (.int c))) (n:=64) (t:=t) (r:=c / 1000000000000000000) ht (by omega)
      by_cases h3:0 < r'
      · exact .inr ⟨_,jg e (aK (bx (au rfl (au rfl rfl GD) (lE ⟨by omega,by omega⟩)) rfl) (aK ew (jg (bw (au rfl rfl (by rw[xR,decide_eq_true h3]))) (bZ (au (au rfl rfl (mK (by omega))) rfl (mK hm)))))),Int.emod_nonneg _ (by omega),Int.emod_lt_of_pos _ hm⟩
      · exact .inl ⟨t',some (.val (.int r')),jg e (aK (bx (au rfl (au rfl rfl GD) (lE ⟨by omega,by omega⟩)) rfl) (aK ew (cQ (bw (au rfl rfl (by rw[xR,decide_eq_false h3]))) rfl)))⟩
    · exact .inl ⟨t,x,cQ (pN (bw (au rfl (au rfl rfl GD) (by show R.ok (D.bl (decide _))=_;rw[decide_eq_true h1]))) (bw (au rfl rfl (by show R.ok (D.bl (decide _))=_;rw[decide_eq_false h2])))) rfl⟩
  · exact .inl ⟨t,x,cQ (Ju (bw (au rfl (au rfl rfl GD) (by show R.ok (D.bl (decide _))=_;rw[decide_eq_false h1])))) rfl⟩
end
theorem rP {ρ:aq} {s t:aq→So} {d:D} (e1:s ρ= .rt d):aZ s t ρ= .rt d:=by rw[aZ,e1]
theorem zQ {xs:List D} {i:Int} {d:D} (h:atI xs i=some d):bQ (.lst xs) (.int i)= .ok d:=by rw[bQ,h]
theorem aaB {ns:List Int} {k m:Int} (hl:ns.length≤1000000) (hk:0≤k) (hm:0 < m):∃v,cO 3 Jv [.lst (ns.map .int),.int k,.int m]= .ok (.int v)∧0≤v∧v < m:=by
  have hd:dep (.lst (ns.map .int))≤40:=by
    rw[dep]
    have:=T5 (c:=D.int) (n:=0) (l:=ns) (fun a _=>by simp[dep])
    omega
  cases ns with
  | nil=>
    obtain⟨v,e,h⟩:=tail_eq (S:=some (.val (.lst []))) (k:=k) (c:=7*k) (x:=none) (y:=none) hm
    exact⟨v,cI (aK (bx (au rfl rfl (j5 (.inl ⟨by omega,by omega⟩))) rfl) (aK (cQ (bw (au rfl (jf rfl) (xQ rfl hd))) rfl) e)),h⟩
  | cons a ns=>
    have hn:fX (.lst ((a::ns).map .int)) (.lst [])= .ok (.bl true):=by
      rw[fX,if_pos hd];rfl
    have hlen:(0:Int) < (((a::ns).map D.int).length:Int):=by rw[List.length_map,List.length_cons];omega
    have hlen2:(((a::ns).map D.int).length:Int) < 2 ^ 64:=by rw[List.length_map];omega
    obtain⟨d,hd1,hd2⟩:=T6 (xs:=(a::ns).map D.int) (i:=k % (((a::ns).map D.int).length:Int)) (Int.emod_nonneg _ (by omega)) (Int.emod_lt_of_pos _ hlen)
    obtain⟨c,-,rfl⟩:=List.mem_map.mp hd1
    have ht:0≤k / (((a::ns).map D.int).length:Int):=Int.ediv_nonneg hk (by omega)
    generalize hL:(((a::ns).map D.int).length:Int)=L at *
    have GF:∀(S x1 x2 x3 x4 x5:Option Ent),S=some (Ent.val (.lst ((a::ns).map D.int)))→aD cB (ao (fun ρ=>aj ρ 0) (fun _=> .ok [])) [S,x1,x2,x3,x4,x5]= .ok (.int L):=by
      intro S x1 x2 x3 x4 x5 e
      subst e
      rw[←hL]
      exact aY (aB rfl) rfl
    rcases adE (S:=some (.val (.lst ((a::ns).map .int)))) (k:=k) (m:=m) (c:=c) (x:=none) hm ht with⟨t',x',e⟩ |⟨v,e,h⟩
    · obtain⟨v,e2,h⟩:=tail_eq (S:=some (.val (.lst ((a::ns).map .int)))) (k:=k) (c:=c+6553*(k / L)) (x:=some (.val (.int t'))) (y:=x') hm
      exact⟨v,cI (aK (bx (au rfl rfl (j5 (.inl ⟨by omega,by omega⟩))) rfl) (aK (jg (bw (au rfl (jf rfl) hn))
        (aK (bx (au rfl (au rfl (GF _ _ _ _ _ _ rfl) (mK hlen)) (zQ hd2)) rfl) (aK (bx (au rfl (GF _ _ _ _ _ _ rfl) (lE ⟨hlen,hlen2⟩)) rfl) (aK e (bx (au rfl (au rfl (au rfl (GF _ _ _ _ _ _ rfl) (lE ⟨hlen,hlen2⟩)) (j5 (.inl ⟨by omega,by omega⟩))) rfl) rfl))))) e2)),h⟩
    · exact⟨v,cI (aK (bx (au rfl rfl (j5 (.inl ⟨by omega,by omega⟩))) rfl) (rP (jg (bw (au rfl (jf rfl) hn))
        (aK (bx (au rfl (au rfl (GF _ _ _ _ _ _ rfl) (mK hlen)) (zQ hd2)) rfl) (aK (bx (au rfl (GF _ _ _ _ _ _ rfl) (lE ⟨hlen,hlen2⟩)) rfl) (rP e)))))),h⟩
theorem gG {ρ ρ1 ρ2:aq} {gt:D→aq→R aq} {b:aq→So} {x:D} {xs:List D} {o:So} (e1:gt x ρ= .ok ρ1) (e2:b ρ1= .nx ρ2) (e3:forL gt b xs ρ2=o):forL gt b (x::xs) ρ=o:=by
  rw[forL]
  simp only[e1,e2]
  exact e3
theorem mL {ρ:aq} {fi:aq→R (List D)} {gt:D→aq→R aq} {b:aq→So} {xs:List D} {o:So} (e1:fi ρ= .ok xs) (e2:forL gt b xs ρ=o):oE fi gt b ρ=o:=by
  rw[oE,e1];exact e2
theorem abV {ρ:aq} {i k:Nat} {f:aq→R D} {fa:aq→R (List D)} {d:D} {ds:List D} (e1:f ρ= .ok d) (e2:fa ρ= .ok ds) (h:ds.length≤1000000:=by exact Nat.le_of_ble_eq_true rfl):Ml i k f fa ρ= .nx ((ρ.set i (some (.val d))).set k (some (.lst ds))):=by
  unfold Ml
  rw[e1]
  simp only[jc,e2]
  rw[if_pos h]
theorem Jw {ρ:aq} {i k:Nat} {f g:aq→R D} {d e:D} (e1:f ρ= .ok d) (e2:g ρ= .ok e):Jt i k f g ρ= .nx ((ρ.set i (some (.val d))).set k (some (.val e))):=by
  unfold Jt
  rw[e1]
  simp only[jc,e2]
noncomputable def dr (ns:List Int) (k m:Int):Int:=match cO 3 Jv [.lst (ns.map .int),.int k,.int m] with
  | .ok (.int v)=>v
  |_=>0
theorem uE {ns:List Int} {k m:Int} (hl:ns.length≤1000000) (hk:0≤k) (hm:0 < m):cO 3 Jv [.lst (ns.map .int),.int k,.int m]= .ok (.int (dr ns k m))∧0≤dr ns k m∧dr ns k m < m:=by
  obtain⟨v,e,h⟩:=aaB hl hk hm
  have:dr ns k m=v:=by rw[dr,e]
  rw[this]
  exact⟨e,h⟩
end Pu
namespace Pu
open PySem PySem.Spec L2
open PyProof.Rows hiding St
section
variable {X:Cx}
noncomputable def zR:List D→R D
  |[.int i]=> .ok (.int (if i < 0 then -i else i))
  |_=> .bad
theorem zT:CallD X (.builtin "abs") zR:=by
  refine⟨_,call_abs,fun ρ O σ H Q xs ds j r h=>?_⟩
  unfold zR at h
  split at h
  · rename_i i
    obtain⟨x,rfl,rx⟩:=r.one
    exact⟨i,by rw[rx.int],fin h (cL _)⟩
  · exact h.elim
noncomputable def maxD:List D→R D
  |[.int i,.int j]=> .ok (.int (if j > i then j else i))
  |_=> .bad
theorem sJ (hc:X.calm=true):CallD X (.builtin "max") maxD:=by
  refine⟨_,call_max2 hc,fun ρ O σ H Q xs ds j r h=>?_⟩
  unfold maxD at h
  split at h
  · rename_i i k
    obtain⟨x,y,rfl,rx,ry⟩:=r.two
    exact⟨i,k,by rw[rx.int,ry.int],fin h (cL _)⟩
  · exact h.elim
noncomputable def minD:List D→R D
  |[.int i,.int j]=> .ok (.int (if j < i then j else i))
  |_=> .bad
theorem zU (hc:X.calm=true):CallD X (.builtin "min") minD:=by
  refine⟨_,call_min2 hc,fun ρ O σ H Q xs ds j r h=>?_⟩
  unfold minD at h
  split at h
  · rename_i i k
    obtain⟨x,y,rfl,rx,ry⟩:=r.two
    exact⟨i,k,by rw[rx.int,ry.int],fin h (cL _)⟩
  · exact h.elim
noncomputable def GJ:D→Bool
  | .non=>true
  |_=>false
theorem T7 {K:PySem.W.Frag} {O:Addr→Prop} {H:Hp} {d:D} {v:V} (r:Rep K O H d v):decide (v= .non)=GJ d:=by
  cases d with
  |non=>rw[r.non];rfl
  |bl b=>rw[r.bl];rfl
  |int i=>rw[r.int];rfl
  |str x=>rw[r.str];rfl
  |tup ds=>obtain⟨a,xs,rfl,_⟩:=r.tup;rfl
  |lst ds=>obtain⟨a,xs,rfl,_⟩:=r.lst;rfl
noncomputable def isD:D→D→R D
  |d,.non=> .ok (.bl (GJ d))
  |_,_=> .bad
noncomputable def XQ:D→D→R D
  |d,.non=> .ok (.bl (!GJ d))
  |_,_=> .bad
theorem Vg:jC X (compareOp .Is) isD:=by
  refine⟨_,op_isN,fun ρ O σ H Q x y dx dy j0 rx ry h=>?_⟩
  cases dy with
  |non=>exact⟨ry.non,by rw[T7 rx];exact fin (a:=D.bl (GJ dx)) h (gW _)⟩
  |_=>cases dx <;> exact h.elim
theorem aaC:jC X (compareOp .IsNot) XQ:=by
  refine⟨_,op_notN,fun ρ O σ H Q x y dx dy j0 rx ry h=>?_⟩
  cases dy with
  |non=>exact⟨ry.non,by rw[T7 rx];exact fin (a:=D.bl (!GJ dx)) h (gW _)⟩
  |_=>cases dx <;> exact h.elim
theorem abW:OpR X (binaryOp .Add) (fun x y H Q=>∃a b ys,x= .ref a∧y= .ref b∧SqT X.K H a []∧SqT X.K H b ys∧Q (.ref b) H):=by
  intro pins s σ H x y v u Q I rx ry h
  obtain⟨a,b,ys,rfl,rfl,ha,hb,q⟩:=h
  cases rx
  cases ry
  obtain⟨its,r1,p1,_⟩:=I.tuple ha
  obtain⟨its2,r2,p2,_⟩:=I.tuple hb
  cases r1
  obtain⟨⟨cls,dd,data,sl⟩,ho,hc,n,hd⟩:=id p1
  obtain⟨⟨cls2,dd2,data2,sl2⟩,ho2,hc2,n2,hd2⟩:=id p2
  simp only at hc hd hc2 hd2
  subst hc hd hc2 hd2
  exact concat_meets ⟨_,ho,rfl⟩ ⟨_,ho2,rfl⟩ noFill_tuple_add seq_tuple_add PySem.F.slot_tuple_add PySem.F.entry_tuple_add (PySem.F.args_tuple_add_2 _ _)
      (tuple_addW0 a b _ _ n n2 dd dd2 sl sl2 rfl) ⟨ho,ho2,⟨.ref b,H,I,rfl,q⟩⟩
noncomputable def aeV:D→R D
  | .int i=> .ok (.int (-i))
  |_=> .bad
noncomputable def zV (f:aq→R D):aq→R D:=fun ρ=>(f ρ).bind aeV
theorem GK {e:Expr} {f:aq→R D} {pos:Pos} (he:DE X e f):DE X (.UnaryOp .USub e pos) (zV f):=by
  refine PE.imp (pe_un un_neg he) fun σ H Q h=>?_
  obtain⟨ρ,O,j,h⟩:=h
  refine go j h fun d v H1 e1 s1 r1 j1 h1=>?_
  cases d with
  |int i=>exact⟨i,r1.int,fin h1 (cL _)⟩
  |_=>exact h1.elim
theorem abX:OpR X (binaryOp .Add) (fun x y H Q=>∃a b xs ys,x= .ref a∧y= .ref b∧SqL X.K H a xs∧SqL X.K H b ys∧xs.length+ys.length≤sizeLine∧∀p,H p=none→Q (.ref p) (upd H p (.lst (xs++ys)))):=by
  intro pins s σ H x y v u Q I rx ry h
  obtain⟨a,b,xs,ys,rfl,rfl,ha,hb,hz,q⟩:=h
  cases rx
  cases ry
  obtain⟨its,r1,p1,_⟩:=I.list ha
  obtain⟨its2,r2,p2,_⟩:=I.list hb
  obtain⟨⟨cls,dd,data,sl⟩,n,ho,hc,hdd,hd⟩:=id p1
  obtain⟨⟨cls2,dd2,data2,sl2⟩,n2,ho2,hc2,aeW,hd2⟩:=id p2
  simp only at hc hd hc2 hd2
  subst hc hd hc2 hd2
  refine concat_meets ⟨_,ho,rfl⟩ ⟨_,ho2,rfl⟩ noFill_list_add seq_list_add PySem.F.slot_list_add PySem.F.entry_list_add (PySem.F.args_list_add_2 _ _)
      (list_addW a b _ _ n n2 dd dd2 sl sl2 (by rw[List.size_toArray,List.size_toArray,←r1.length,←r2.length];exact hz)) ⟨ho,ho2,?_⟩
  have ea:its.toArray++its2.toArray=(its++its2).toArray:=by simp
  rw[ea]
  exact⟨.ref _,_,I.lnew (t':=s.toks) (r1.append r2) (by rw[List.length_append];omega),rfl,q _ I.fresh⟩
noncomputable def cT:D→D→R D
  | .int i,.int j=> .ok (.int (i+j))
  | .tup xs,.tup ys=>if xs.length+ys.length≤1000000 then .ok (.tup (xs++ys)) else .bad
  | .lst xs,.lst ys=>if xs.length+ys.length≤1000000 then .ok (.lst (xs++ys)) else .bad
  |_,_=> .bad
theorem cj:jC X (binaryOp .Add) cT:=by
  refine⟨_,OpR.or op_add (OpR.or op_catT (OpR.or abW abX)),fun ρ O σ H Q x y dx dy j0 rx ry h=>?_⟩
  cases dx <;> cases dy <;> first
    |exact h.elim
    |skip
  · rename_i i j
    exact .inl ⟨i,j,rx.int,ry.int,fin h (cL _)⟩
  · rename_i xs ys
    have h:good X (rD X) O (if xs.length+ys.length≤1000000 then .ok (.tup (xs++ys)) else .bad) σ H Q:=h
    by_cases hc:xs.length+ys.length≤1000000
    · rw [if_pos hc] at h
      obtain⟨a,us,rfl,ha,r1⟩:=rx.tup
      obtain⟨b,ws,rfl,hb,r2⟩:=ry.tup
      by_cases hx:us=[]
      · subst hx
        have:xs=[]:=List.eq_nil_of_length_eq_zero r1.length
        subst this
        exact .inr (.inr (.inl ⟨a,b,ws,rfl,rfl,ha,hb,fin h (lO hb r2)⟩))
      · refine .inr (.inl ⟨a,b,us,ws,rfl,rfl,ha,hb,hx,?_,fun z=>?_,fun z l hl=>?_⟩)
        · rw[←r1.length,←r2.length];exact Nat.le_trans hc eE
        · subst z
          have:ys=[]:=List.eq_nil_of_length_eq_zero r2.length
          subst this
          rw[List.append_nil] at h
          exact fin h (lO ha r1)
        · exact h _ _ (Same.upd hl) (Rep.rK hl (r1.append r2))
    · rw[if_neg hc] at h;exact h.elim
  · rename_i xs ys
    have h:good X (rD X) O (if xs.length+ys.length≤1000000 then .ok (.lst (xs++ys)) else .bad) σ H Q:=h
    by_cases hc:xs.length+ys.length≤1000000
    · rw[if_pos hc] at h
      obtain⟨a,us,rfl,ha,_,r1⟩:=rx.lst
      obtain⟨b,ws,rfl,hb,_,r2⟩:=ry.lst
      refine .inr (.inr (.inr ⟨a,b,us,ws,rfl,rfl,ha,hb,?_,fun l hl=>?_⟩))
      · rw[←r1.length,←r2.length];exact Nat.le_trans hc eE
      · exact h _ _ (Same.upd hl) (Rep.nO hl (j0.pG hl) (r1.append r2))
    · rw[if_neg hc] at h;exact h.elim
end
section
variable {prog:Program} {w:World} {A:Around} {E:Value→Shared→Prop} {s:Shared}
open HT in
theorem zH {t sl:Addr} {items:Array Value} {vl vu:Value} {lo hi:Option Int} {Q:Value→Shared→Prop} (ht:IsTup s.heap t items) (hs:s.heap.IsSliceOf sl vl vu .none) (pl:IsPart vl lo) (pu:IsPart vu hi)
    (hw:sIx items.size 0 lo=0∧sIx items.size items.size hi=items.size) (h:Q (.ref t) s):wpAny (model prog w) A (getItem (.ref t) (.ref sl)) Q E s:=by
  obtain⟨os,hos,hcs,hds⟩:=id hs
  have hTs:s.TypeIs (.ref sl) "slice" :=⟨os,hos,hcs⟩
  unfold getItem
  try with_reducible refine wpAny_holding ?_
  first |refine wpAny_bind (wpAny_pure ?_) |skip
  refine wpAny_bind (wpAny_sequenceKey ht.typeIs (by decide) ?_)
  refine wpAny_bind (wpAny_callSpecial?_slot (name:=Str.ofString "__getitem__") ht.typeIs PyProof.Rows.slot_tuple_getitem
    (wpAny_call_entry PyProof.Rows.slot_tuple_getitem ht.typeIs entry_tuple_getitem ?_ (args_tuple_getitem _ _)))
  show wpAny _ _ (Builtin.Tuple.tupleItemsOf (.ref t) >>=_) _ _ s
  refine wpAny_bind (tupleItemsOf_ ht ?_)
  refine wpAny_bind (wpAny_typeOf hTs ?_)
  rw[if_pos (by decide)]
  refine wpAny_bind (sliceApplied_gen hs pl pu ?_)
  show wpAny _ _ (if (((sIx items.size 0 lo:Nat):Int) ==0 && (1:Int) ==1 && (sIx items.size items.size hi - sIx items.size 0 lo) ==items.size)=true then _ else _) _ _ s
  rw[if_pos (by rw[hw.1,hw.2];simp)]
  refine wpAny_bind (m:=Builtin.Tuple.tupleIsExact _) (wpAny_bind (wpAny_typeOf ht.typeIs (wpAny_pure ?_)))
  rw[if_pos (beq_self_eq_true _)]
  first
    |exact wpAny_bind (wpAny_pure (wpAny_pure ⟨_,rfl,wpAny_pure h⟩))
    |exact wpAny_bind (wpAny_rule (wpAny_pure ⟨_,rfl,wpAny_pure h⟩))
end
section
variable {X:Cx} {e e1:Expr} {lo hi:Option Expr} {f f1:aq→R D} {fl fu:aq→R (Option Int)} {pos p2:Pos}
noncomputable def aeX (K:PySem.W.Frag):V→Option Int→Option Int→Hp→VK→Prop:=fun x lo hi H Q=>∃a xs,x= .ref a∧SqT K H a xs∧
  (HT.sIx xs.length 0 lo=0∧HT.sIx xs.length xs.length hi=xs.length)∧Q (.ref a) H
theorem abY:SlR X (aeX X.K):=by
  intro pins s σ H x v vl vu lo hi sl Q I rx hs pl pu h
  obtain⟨a,xs,rfl,hx,hw,q⟩:=h
  cases rx
  obtain⟨its,r,ht,hz⟩:=I.tuple hx
  have hlen:its.toArray.size=xs.length:=by rw[List.size_toArray];exact r.length.symm
  exact⟨"tuple",_,PyProof.Rows.slot_tuple_getitem.lookup,ht.typeIs,zH ht hs pl pu (by rw[hlen];exact hw) ⟨.ref a,H,I,rfl,q⟩⟩
noncomputable abbrev aeY:(Addr→Prop)→Hp→Option Int→Option Int→Prop:=fun _ _ a b=>a=b
noncomputable def T8 (X:Cx) (lo:Option Expr) (fo:aq→R (Option Int)):Prop:=PO X lo (tG X aeY fo)
theorem PO.imp {t t':TO} (h:PO X lo t) (w:∀σ H Q,t' σ H Q→t σ H Q):PO X lo t':=fun pins s σ H Q I q=>h pins s σ H Q I (w σ H Q q)
theorem Ms:T8 X none (fun _=> .ok none):=by
  refine PO.imp po_none fun σ H Q h=>?_
  obtain⟨ρ,O,j,h⟩:=h
  exact fin h rfl
noncomputable def Ka:D→R (Option Int)
  | .int i=> .ok (some i)
  |_=> .bad
theorem xT (h:DE X e1 f1):T8 X (some e1) (fun ρ=>(f1 ρ).bind Ka):=by
  refine PO.imp (po_some h) fun σ H Q h=>?_
  obtain⟨ρ,O,j,h⟩:=h
  refine go j h fun d v H1 e1 s1 r1 j1 h1=>?_
  cases d with
  |int i=>exact⟨i,r1.int,fin h1 rfl⟩
  |_=>exact h1.elim
noncomputable def mC (ds:List D) (lo hi:Option Int):List D:=(ds.drop (HT.sIx ds.length 0 lo)).take (HT.sIx ds.length ds.length hi - HT.sIx ds.length 0 lo)
noncomputable def adF (d:D) (lo hi:Option Int):R D:=match d with
  | .tup ds=> .ok (.tup (mC ds lo hi))
  |_=> .bad
noncomputable def GQ (f:aq→R D) (fl fu:aq→R (Option Int)):aq→R D:=fun ρ=>(f ρ).bind fun d=>(fl ρ).bind fun l=>(fu ρ).bind fun u=>adF d l u
theorem aaD (he:DE X e f) (hl:T8 X lo fl) (hu:T8 X hi fu):DE X (.Subscript e (.Slice lo hi none p2) pos) (GQ f fl fu):=by
  refine PE.imp (pe_slice (SlR.or sl_tup abY) he hl hu) fun σ H Q h=>?_
  obtain⟨ρ,O,j,h⟩:=h
  refine go j h fun d v H1 e1 s1 r1 j1 h1=>?_
  refine go j1 h1 fun l l' H2 e2 s2 r2 j2 h2=>?_
  refine go j2 h2 fun u u' H3 e3 s3 r3 j3 h3=>?_
  have r2:l=l':=r2
  have r3:u=u':=r3
  subst r2 r3
  cases d with
  | tup ds=>
    have r1':=(r1.same s2).same s3
    obtain⟨a,xs,rfl,hq,rs⟩:=r1'.tup
    have hlen:=rs.length
    by_cases hw:HT.sIx xs.length 0 l=0∧HT.sIx xs.length xs.length u=xs.length
    · refine .inr ⟨a,xs,rfl,hq,hw,?_⟩
      have e:mC ds l u=ds:=by
        unfold mC
        rw[hlen,hw.1,hw.2,List.drop_zero,Nat.sub_zero,←hlen,List.take_length]
      have h3:good X (rD X) O (.ok (.tup (mC ds l u))) σ H3 Q:=h3
      rw[e] at h3
      exact fin h3 (lO hq rs)
    · refine .inl ⟨a,xs,rfl,hq,hw,fun p hp=>?_⟩
      refine h3 _ _ (Same.upd hp) (Rep.rK hp ?_)
      unfold mC cutV
      rw[hlen]
      exact (rs.drop _).take _
  |_=>exact h3.elim
end
end Pu
namespace Pu
open PySem PySem.Spec L2
open PyProof.Rows hiding St
noncomputable def pickK {α:Type} (z:α) (sel:List (Sum Nat α)) (ws:List α):List α:=sel.map fun
  | .inl i=>ws.getD i z
  | .inr c=>c
section
variable {K:PySem.W.Frag} {O:Addr→Prop} {H:Hp}
end
section
variable {X:Cx} {k n:Nat} {f:Addr} {fd:FuncData} {ps ks:List Str} {F:List D→R D} {x:Str} {p pos kpos:Pos} {e:Expr} {es:List Expr} {kws:List Keyword} {fa fk:aq→R (List D)} {fe:aq→R D} {nm:Option Str}
noncomputable def KB (K:PySem.W.Frag) (fd:FuncData) (ps ks:List Str) (sel:List (Sum Nat Value)):Prop:=∀(s:Shared) (us ws:List Value),K.In s.heap→us.length+sel.length=ps.length→ws.length=ks.length→BindsTo s fd ⟨us,ks.zip ws⟩ (ps.zip (us++pickK .none sel ws))
end
section
variable {X:Cx} {k n:Nat} {f:Addr} {fd:FuncData} {ps:List Str} {F:List D→R D} {x:Str} {p pos:Pos} {e:Expr} {es:List Expr} {fa:aq→R (List D)}
end
theorem len0 {α:Type} {l:List α} (h:l.length=0):l=[]:=List.eq_nil_of_length_eq_zero h
theorem aaE {α:Type} {l:List α} {n:Nat} (h:l.length=n+1):∃a m,l=a::m∧m.length=n:=by
  cases l with
  |nil=>simp at h
  |cons a m=>exact⟨a,m,rfl,by simpa using h⟩
section
variable {X:Cx} {k m n:Nat} {fd:FuncData} {ps ks:List Str} {F:List D→R D} {x:Str} {p pos:Pos} {e:Expr} {es:List Expr} {kws:List Keyword} {fa fk:aq→R (List D)}
end
section
variable {K:PySem.W.Frag} {kV doc pm cdv ct:Value} {an:Option Addr} {body:List Stmt} {scope:Scope} {d:Addr} {t:Tok} {q:Pos}
noncomputable def XR (q:Pos):Arguments:={posonlyargs:=[],args:=[⟨"p",none,q⟩],vararg:=none,kwonlyargs:=[⟨"manner",none,q⟩,⟨"marks",none,q⟩],kw_defaults:=[some (.Constant (.str "worth") 0 q),some (.Constant .none 0 q)],kwarg:=none,defaults:=[]}
example:KB K (PySem.W.fnOf "f" "f" (XR q) body scope .none kV doc pm an cdv ct) ["p","manner","marks"] ["marks","manner"] [.inl 1,.inl 0]:=by
  intro s us ws i hl hw
  have hl1:us.length=1:=by simpa using hl
  clear hl
  obtain⟨u,us',rfl,hl2⟩:=aaE hl1
  clear hl1
  cases len0 hl2
  obtain⟨w1,ws1,rfl,hw1⟩:=aaE hw
  clear hw
  obtain⟨w2,ws2,rfl,hw2⟩:=aaE hw1
  clear hw1
  cases len0 hw2
  exact .of_eq rfl
end
end Pu
namespace Pu
open PySem PySem.Spec L2
open PyProof.Rows hiding St
noncomputable def bestOf (lt:Int→Int→Bool):List Int→Int
  |[]=>0
  |a::r=>r.foldl (fun m x=>if lt x m then x else m) a
theorem numAt_eq {zs:Array (Int×Tok)} {ns:List Int} (e:ns=zs.toList.map (·.1)) (i:Nat):numAt zs i=ns.getD i 0:=by
  subst e
  simp[numAt,List.getD]
theorem Kc (lt:Int→Int→Bool) (a:Int) (r:List Int):∀k:Nat,k≤r.length→(a::r).getD (argBest (fun i j=>lt ((a::r).getD i 0) ((a::r).getD j 0)) k) 0=bestOf lt (a::r.take k)∧argBest (fun i j=>lt ((a::r).getD i 0) ((a::r).getD j 0)) k≤k
  |0,_=>by simp[argBest,bestOf]
  | k +1,h=>by
    obtain⟨ih,hb⟩:=Kc lt a r k (by omega)
    have e1:r.take (k+1)=r.take k++[r.getD k 0]:=by
      rw[List.take_add_one,List.getD]
      rw[List.getElem?_eq_getElem (by omega)];rfl
    have e2:bestOf lt (a::r.take (k+1))=if lt (r.getD k 0) (bestOf lt (a::r.take k)) then r.getD k 0 else bestOf lt (a::r.take k):=by
      rw[bestOf,e1,List.foldl_append];rfl
    rw[e2,←ih]
    have e3:(a::r).getD (k+1) 0=r.getD k 0:=by simp[List.getD]
    have eA:argBest (fun i j=>lt ((a::r).getD i 0) ((a::r).getD j 0)) (k+1)=if lt (r.getD k 0) ((a::r).getD (argBest (fun i j=>lt ((a::r).getD i 0) ((a::r).getD j 0)) k) 0) then k+1 else argBest (fun i j=>lt ((a::r).getD i 0) ((a::r).getD j 0)) k:=by rw[←e3];rfl
    rw[eA]
    by_cases q:lt (r.getD k 0) ((a::r).getD (argBest (fun i j=>lt ((a::r).getD i 0) ((a::r).getD j 0)) k) 0)=true
    · rw[if_pos q,if_pos q];exact⟨e3,Nat.le_refl _⟩
    · rw[if_neg q,if_neg q];exact⟨rfl,by omega⟩
theorem Mt (lt:Int→Int→Bool) {ns:List Int} (h:0 < ns.length):ns.getD (argBest (fun i j=>lt (ns.getD i 0) (ns.getD j 0)) (ns.length - 1)) 0=bestOf lt ns:=by
  cases ns with
  |nil=>simp at h
  | cons a r=>
    have:=(Kc lt a r r.length (Nat.le_refl _)).1
    rw[List.take_length] at this
    exact this
section
variable {X:Cx}
theorem GR {ns:List Int} {its:List Value} (r':Vals (ns.map V.int) its):∃zs:Array (Int×Tok),its.toArray=intItems zs∧ns=zs.toList.map (·.1):=by
  have hi:=intsAre_of r'
  obtain⟨zs,hx⟩:=hi.allInts.items
  refine⟨zs,hx,?_⟩
  rw[←nums_intItems,←hx]
  exact (show numsOf its.toArray.toList=ns from hi.numsOf).symm
noncomputable abbrev ltB (a b:Int):Bool:=decide (a < b)
theorem XS (hc:X.calm=true):CallR X (.builtin "min") (fun xs H Q=>∃p,∃ns:List Int,xs=[.ref p]∧SqL X.K H p (ns.map V.int)∧0 < ns.length∧Q (.int (bestOf ltB ns)) H):=by
  intro pins s σ H xs us Q I r h
  obtain⟨p,ns,rfl,hq,hn,q⟩:=h
  obtain⟨u,rfl,rx⟩:=vals1 r
  cases rx
  obtain⟨its,r',pl,hz⟩:=I.list hq
  obtain⟨zs,e1,e2⟩:=GR r'
  have hs:zs.size=ns.length:=by rw[e2];simp
  refine min_intList (I.ok.hd hc) (e1▸pl.isList) (by omega) fun v h' tk hv hk=>?_
  obtain⟨t,rfl⟩:=intItems_at hv
  have e3:(fun i j=>decide (numAt zs i < numAt zs j))=fun i j=>ltB (ns.getD i 0) (ns.getD j 0):=by
    funext i j;rw[numAt_eq e2,numAt_eq e2]
  rw[e3,hs,numAt_eq e2,Mt ltB hn]
  exact⟨.int _,H,I.kept hk,⟨t,rfl⟩,q⟩
end
end Pu
namespace Pu
open PySem PySem.Spec L2
open PyProof.Rows hiding St
section
variable {K:PySem.W.Frag} {O O':Addr→Prop} {H:Hp}
end
section
variable {X:Cx} {e:Expr} {f:aq→R D} {pos:Pos}
end
section
variable {prog:Program} {w:World} {A:Around} {E:Value→Shared→Prop} {s:Shared} {t:Addr}
theorem Vh {xs:Array (Int×Tok)} {Q:Value→Shared→Prop} (hh:A.handled=none) (ht:s.heap.IsTuple t (intItems xs)) (hne:0 < xs.size)
    (h:∀v h' tk,(intItems xs)[argBest (fun i j=>decide (numAt xs i < numAt xs j)) (xs.size - 1)]?=some v→(∀b o,s.heap.get? b=some o→h'.get? b=some o)→Q v {s with heap:=h',toks:=tk}):
    wpAny (model prog w) A (call (.builtin "min") [.ref t]) Q E s:=by
  obtain⟨o,ho,hc,n,hd⟩:=id ht
  have hne':t≠s.heap.objs.size:=Nat.ne_of_lt (Heap.lt_size ho)
  have hsz:(intItems xs).size=xs.size:=by simp[intItems]
  have W:=(Walks.tuple (prog:=prog) (w:=w) (A:=A.in1) hh s.heap.objs.size t hne' (intItems xs)).toS
  rw[hsz] at W
  refine call_min_walkS (wpAny_pyIter_tuple ht ?_)
  refine⟨s.heap.objs.size,_,_,_,_,_,_,_,rfl,W,⟨⟨_,Heap.get?_push_size _ rfl,rfl,rfl⟩,ht.at fun o e=>Heap.get?_push_of_some _ e⟩,fun b hb=>?_,hne,CmpOf.ints_lt (numAt xs) (fun _ _=>intItems_at),fun v s' hP hm=>?_⟩
  · rcases List.mem_cons.mp hb with rfl |hb
    · exact Heap.lt_size (Heap.get?_push_size _ rfl)
    · obtain rfl:=List.mem_singleton.mp hb
      exact Heap.lt_size (Heap.get?_push_of_some _ ho)
  · obtain⟨h',g',d',tk',os'⟩:=s'
    have e1:g'=s.gens:=hm.gens
    have e2:d'=s.drawn:=hm.drawn
    have e3:os'=s.os:=hm.os
    subst e1 e2 e3
    exact h v h' tk' hP fun b o e=>hm.heap b o (fun hb=>absurd (Heap.lt_size e) ((List.mem_singleton.mp hb)▸Nat.lt_irrefl _)) (Heap.get?_push_of_some _ e)
end
section
variable {X:Cx}
theorem X3 (hc:X.calm=true):CallR X (.builtin "min") (fun xs H Q=>∃p,∃ns:List Int,xs=[.ref p]∧SqT X.K H p (ns.map V.int)∧0 < ns.length∧Q (.int (bestOf ltB ns)) H):=by
  intro pins s σ H xs us Q I r h
  obtain⟨p,ns,rfl,hq,hn,q⟩:=h
  obtain⟨u,rfl,rx⟩:=vals1 r
  cases rx
  obtain⟨its,r',pl,hz⟩:=I.tuple hq
  obtain⟨zs,e1,e2⟩:=GR r'
  have hs:zs.size=ns.length:=by rw[e2];simp
  refine Vh (I.ok.hd hc) (show s.heap.IsTuple p (intItems zs) from e1▸pl) (by omega) fun v h' tk hv hk=>?_
  obtain⟨t,rfl⟩:=intItems_at hv
  have e3:(fun i j=>decide (numAt zs i < numAt zs j))=fun i j=>ltB (ns.getD i 0) (ns.getD j 0):=by
    funext i j;rw[numAt_eq e2,numAt_eq e2]
  rw[e3,hs,numAt_eq e2,Mt ltB hn]
  exact⟨.int _,H,I.kept hk,⟨t,rfl⟩,q⟩
theorem CallR.or {u:Value} {r r':List V→Hp→VK→Prop} (h:CallR X u r) (h':CallR X u r'):CallR X u (fun xs H Q=>r xs H Q∨r' xs H Q):=by
  intro pins s σ H xs us Q I rr q
  rcases q with q |q
  · exact h pins s σ H xs us Q I rr q
  · exact h' pins s σ H xs us Q I rr q
noncomputable def lR (lt:Int→Int→Bool):List D→R D
  | [.lst ds]=>match intsOf ds with
    |some bs=>if 0 < bs.length then .ok (.int (bestOf lt bs)) else .bad
    |none=> .bad
  | [.tup ds]=>match intsOf ds with
    |some bs=>if 0 < bs.length then .ok (.int (bestOf lt bs)) else .bad
    |none=> .bad
  |_=> .bad
theorem abZ {u:Value} {lt:Int→Int→Bool} (hL:CallR X u (fun xs H Q=>∃p,∃ns:List Int,xs=[.ref p]∧SqL X.K H p (ns.map V.int)∧0 < ns.length∧Q (.int (bestOf lt ns)) H)) (hT:CallR X u (fun xs H Q=>∃p,∃ns:List Int,xs=[.ref p]∧SqT X.K H p (ns.map V.int)∧0 < ns.length∧Q (.int (bestOf lt ns)) H)):CallD X u (lR lt):=by
  refine⟨_,CallR.or hL hT,fun ρ O σ H Q xs ds j r h=>?_⟩
  unfold lR at h
  split at h
  · rename_i ds
    obtain⟨x,rfl,rx⟩:=r.one
    obtain⟨a,ys,rfl,hq,_,rs⟩:=rx.lst
    cases e:intsOf ds with
    |none=>rw[e] at h;exact h.elim
    | some bs=>
      rw[e] at h
      have ey:=zN e rs
      subst ey
      have h:good X (rD X) O (if 0 < bs.length then .ok (.int (bestOf lt bs)) else .bad) σ H Q:=h
      by_cases hp:0 < bs.length
      · rw[if_pos hp] at h;exact .inl ⟨a,bs,rfl,hq,hp,fin h (cL _)⟩
      · rw[if_neg hp] at h;exact h.elim
  · rename_i ds
    obtain⟨x,rfl,rx⟩:=r.one
    obtain⟨a,ys,rfl,hq,rs⟩:=rx.tup
    cases e:intsOf ds with
    |none=>rw[e] at h;exact h.elim
    | some bs=>
      rw[e] at h
      have ey:=zN e rs
      subst ey
      have h:good X (rD X) O (if 0 < bs.length then .ok (.int (bestOf lt bs)) else .bad) σ H Q:=h
      by_cases hp:0 < bs.length
      · rw[if_pos hp] at h;exact .inr ⟨a,bs,rfl,hq,hp,fin h (cL _)⟩
      · rw[if_neg hp] at h;exact h.elim
  · exact h.elim
theorem Jx (hc:X.calm=true):CallD X (.builtin "min") (lR ltB):=abZ (XS hc) (X3 hc)
end
end Pu
namespace Pu
open PySem PySem.Spec L2
open PyProof.Rows hiding St
theorem El:fillsNumberSlot (.type "tuple") "mul" =pure false:=
  PySem.fillsNumberSlot_seq (id:= "tuple.__mul__") (r:=some (.builtin "tuple.__rmul__")) F.slot_tuple_mul.lookup (by decide +kernel) F.slot_tuple_rmul.lookup (by decide +kernel)
theorem Mu:seqRepeat? (.type "tuple")=pure (some (.builtin "tuple.__mul__")):=by
  unfold seqRepeat?
  rw[PySem.seqSlot_of (T:= "tuple") (name:= "__mul__") (id:= "tuple.__mul__") F.slot_tuple_mul.lookup (by decide +kernel),PySem.seqSlot_of (T:= "tuple") (name:= "__rmul__") (id:= "tuple.__rmul__") F.slot_tuple_rmul.lookup (by decide +kernel)]
  rfl
theorem Jy (a:Int) (t:Tok) (l:Addr) (items:Array Value) (n:Nat) (dd:Option Addr) (sl:Array (Option Value)):
    Meets (Builtin.«int.__rmul__» ⟨[.int a t,.ref l],[]⟩) (fun _ R s=>s.heap.get? l=some {cls:= .type "tuple",dict:=dd,data:= .seq items n,slots:=sl}∧R (.ok (.ret Value.notImplemented)) s):=
  .of_wp fun prog w A R s h=>by obtain⟨hp,g,d,tk,os⟩:=s;obtain⟨hl,h⟩:=h;wp_walk;exact⟨_,rfl,h⟩
theorem Vi (l:Addr) (items:Array Value) (n:Nat) (dd:Option Addr) (sl:Array (Option Value)) (t:Tok):
    Meets (Builtin.«tuple.__mul__» ⟨[.ref l,.int 1 t],[]⟩) (fun _ R s=>s.heap.get? l=some {cls:= .type "tuple",dict:=dd,data:= .seq items n,slots:=sl}∧R (.ok (.ret (.ref l))) {s with heap:=s.heap,toks:=s.toks}):=
  .of_wp fun prog w A R s h=>by obtain⟨hp,g,d,tk,os⟩:=s;obtain⟨hl,h⟩:=h;have f1:=AutoSeq1.idx_int;have hc0:(items.isEmpty || (1:Int) ==1)=true:=(by simp);unfold Builtin.«tuple.__mul__»;wp_walk using wpAny_loadPart' hl;exact⟨_,rfl,h⟩
theorem Vj (l:Addr) (items:Array Value) (n:Nat) (dd:Option Addr) (sl:Array (Option Value)) (k:Int) (t:Tok) (hf:¬(decide (k < -(2 ^ 63)) || decide (k≥2 ^ 63))=true) (hc0:¬(items.isEmpty || k ==1)=true) (hc1:¬(decide (k≤0) || items.isEmpty)=true)
    (hc2:¬(items.size:Int)*k > (2 ^ 63 - 1) / 8) (hc3:¬Builtin.Tuple.tupleTooMany ((items.size:Int)*k)=true) (hsz:sizeOk (.seq (List.foldl (fun x1 x2=>x1++x2) #[] (List.replicate k.toNat items)))):
    Meets (Builtin.«tuple.__mul__» ⟨[.ref l,.int k t],[]⟩) (fun _ R s=>s.heap.get? l=some {cls:= .type "tuple",dict:=dd,data:= .seq items n,slots:=sl}∧R (.ok (.ret (.ref s.heap.objs.size))) {s with heap:=s.heap.push {cls:=Value.type "tuple",data:=Data.seq (List.foldl (fun x1 x2=>x1++x2) #[] (List.replicate k.toNat items))},toks:=s.toks}):=
  .of_wp fun prog w A R s h=>by
    obtain⟨hp,g,d,tk,os⟩:=s
    obtain⟨hl,h⟩:=h
    have f1:=AutoSeq1.idx_int
    unfold Builtin.«tuple.__mul__»
    wp_walk using wpAny_loadPart' hl
    refine wpAny_ite_false (by simpa using hf) ?_
    wp_walk using wpAny_loadPart' hl
    refine wpAny_ite_false (by simpa using hc2) ?_
    wp_walk using wpAny_loadPart' hl
    refine wpAny_ite_false (by simpa[sizeOk] using hsz) ?_
    wp_walk using wpAny_loadPart' hl
    exact⟨_,rfl,h⟩
section
variable {X:Cx}
theorem ab0:OpR X (binaryOp .Mult) (fun x y H Q=>∃a k xs,x= .ref a∧y= .int k∧SqT X.K H a xs∧xs≠[]∧1≤k∧k < 2 ^ 63∧xs.length*k.toNat≤sizeLine∧(k=1→Q (.ref a) H)∧
    (k≠1→∀p,H p=none→Q (.ref p) (upd H p (.tup (List.replicate k.toNat xs).flatten)))):=by
  intro pins s σ H x y v u Q I rx ry h
  obtain⟨a,k,xs,rfl,rfl,hq,hx,h1,h2,hz,q1,q2⟩:=h
  cases rx
  obtain⟨t,rfl⟩:=ry
  obtain⟨its,r,p1,_⟩:=I.tuple hq
  obtain⟨⟨cls,dd,data,sl⟩,ho,hc,n,hd⟩:=id p1
  simp only at hc hd
  subst hc hd
  have hlen:=r.length
  have hne:its≠[]:=fun z=>hx (by rw[z] at r;cases r;rfl)
  have hpos:0 < its.length:=by cases its with |nil=>exact absurd rfl hne |cons _ _=>simp
  have hemp:its.toArray.isEmpty=false:=by cases its with |nil=>exact absurd rfl hne |cons _ _=>simp
  refine wpAny_binaryOp_repeat_ref (T:= "tuple") (U:= "int") (by decide) ⟨_,ho,rfl⟩ (fun s'=>typeIs_int s' k t) El F.fills_int_mul F.slot_int_rmul Mu F.slot_int_index.lookup
    (call_meets F.slot_int_rmul (typeIs_int s k t) F.entry_int_rmul (F.args_int_rmul_2 _ _) (Jy k t a its.toArray n dd sl) ⟨ho,rfl,⟨_,ho,rfl⟩,?_⟩)
  by_cases hk:k=1
  · subst hk
    exact call_meets F.slot_tuple_mul ⟨_,ho,rfl⟩ F.entry_tuple_mul (F.args_tuple_mul_2 _ _) (Vi a its.toArray n dd sl t) ⟨ho,⟨.ref a,H,I,rfl,q1 rfl⟩⟩
  · have hmul:(its.toArray.size:Int)*k=((xs.length*k.toNat:Nat):Int):=by
      rw[List.size_toArray,←hlen,Int.natCast_mul,Int.toNat_of_nonneg (by omega)]
    have hnew:List.foldl (fun x1 x2=>x1++x2) #[] (List.replicate k.toNat its.toArray)=(List.replicate k.toNat its).flatten.toArray:=by
      have:=foldl_rep its k.toNat []
      rw[List.nil_append] at this
      exact this
    have hs:sizeOk (.seq (List.foldl (fun x1 x2=>x1++x2) #[] (List.replicate k.toNat its.toArray))):=by
      rw[hnew]
      show (List.replicate k.toNat its).flatten.toArray.size≤sizeLine
      rw[List.size_toArray,len_rep,←hlen,Nat.mul_comm];exact hz
    have hbig:(sizeLine:Nat)≤(2 ^ 63 - 1) / 8:=by decide
    refine call_meets F.slot_tuple_mul ⟨_,ho,rfl⟩ F.entry_tuple_mul (F.args_tuple_mul_2 _ _) (Vj a its.toArray n dd sl k t (by simp;omega) (by rw[hemp];simp[hk]) (by rw[hemp];simp;omega) (by rw[hmul];omega) (by rw[hmul];unfold Builtin.Tuple.tupleTooMany;intro z;have z:=of_decide_eq_true z;omega) hs) ⟨ho,?_⟩
    rw[hnew]
    refine⟨.ref s.heap.objs.size,_,I.laid (t':=s.toks) (o:= .tup (List.replicate k.toNat xs).flatten) (fun b ob q=>Heap.get?_push_of_some _ q) (Nat.le_refl _) ?_,rfl,q2 hk _ (I.hok.fresh (Nat.le_refl _))⟩
    exact⟨by rw[len_rep,Nat.mul_comm];exact hz,_,r.rep k.toNat,IsTup.new _ _⟩
theorem xU {K:PySem.W.Frag} {O:Addr→Prop} {H:Hp} {ds:List D} {xs:List V} (r:aV K O H ds xs):∀k:Nat,aV K O H (List.replicate k ds).flatten (List.replicate k xs).flatten
  |0=> .nil
  |k+1=>by rw[List.replicate_succ,List.replicate_succ,List.flatten_cons,List.flatten_cons];exact r.append (xU r k)
noncomputable def xV:D→D→R D
  | .int i,.int j=>gR (.int i) (.int j)
  | .tup ds,.int k=>if ds≠[]∧1≤k∧k < 2 ^ 63∧ds.length*k.toNat≤1000000 then .ok (.tup (List.replicate k.toNat ds).flatten) else .bad
  |_,_=> .bad
theorem pO:jC X (binaryOp .Mult) xV:=by
  obtain⟨r0,o0,c0⟩:=qL (X:=X)
  refine⟨_,OpR.or o0 ab0,fun ρ O σ H Q x y dx dy j0 rx ry h=>?_⟩
  cases dx <;> cases dy <;> first
    |exact h.elim
    |skip
  · exact .inl (c0 ρ O σ H Q x y _ _ j0 rx ry h)
  · rename_i ds k
    have h:good X (rD X) O (if ds≠[]∧1≤k∧k < 2 ^ 63∧ds.length*k.toNat≤1000000 then .ok (.tup (List.replicate k.toNat ds).flatten) else .bad) σ H Q:=h
    by_cases hc:ds≠[]∧1≤k∧k < 2 ^ 63∧ds.length*k.toNat≤1000000
    · rw[if_pos hc] at h
      obtain⟨a,us,rfl,ha,r1⟩:=rx.tup
      obtain⟨h0,h1,h2,h3⟩:=hc
      refine .inr ⟨a,k,us,rfl,ry.int,ha,fun z=>h0 (by have:=r1.length;rw[z] at this;exact List.eq_nil_of_length_eq_zero this),h1,h2,by rw[←r1.length];exact Nat.le_trans h3 eE,fun z=>?_,fun z l hl=>?_⟩
      · subst z
        have e:(List.replicate (1:Int).toNat ds).flatten=ds:=by simp
        rw[e] at h
        exact fin h (lO ha r1)
      · exact h _ _ (Same.upd hl) (Rep.rK hl (xU r1 _))
    · rw[if_neg hc] at h;exact h.elim
end
end Pu
namespace Pu
open PySem PySem.Spec L2
open PyProof.Rows hiding St
noncomputable def iZ:D→Bool
  | .tup _=>false
  | .lst _=>false
  |_=>true
noncomputable def vD:D→V
  | .non=> .non
  | .bl b=> .bl b
  | .int i=> .int i
  | .str x=> .str x
  |_=> .non
section
variable {K:PySem.W.Frag} {O:Addr→Prop} {H:Hp}
theorem T9 {d:D} {v:V} (f:iZ d=true) (r:Rep K O H d v):v=vD d:=by
  cases d with
  |non=>exact r.non
  |bl b=>exact r.bl
  |int i=>exact r.int
  |str x=>exact r.str
  |tup _=>cases f
  |lst _=>cases f
theorem Mv:∀{ds:List D} {vs:List V},ds.all iZ=true→aV K O H ds vs→vs=ds.map vD
  |[],vs,_,r=>r.nil_inv
  | d::ds,vs,f,r=>by
    obtain⟨x,t,rfl,h1,h2⟩:=r.cons_inv
    rw[List.all_cons,Bool.and_eq_true] at f
    rw[T9 f.1 h1,Mv f.2 h2];rfl
theorem X4 {d:D} (f:iZ d=true):flatV (vD d)=true:=by cases d <;> first |rfl |cases f
theorem aeG {a b:D} (fa:iZ a=true) (fb:iZ b=true):eqV (vD a) (vD b)=gD a b:=by
  cases a <;> cases b <;> first |rfl |(simp[iZ] at fa;done) |(simp[iZ] at fb;done) |(rw[aJ];rfl) |(simp[vD,eqV,aM,aN,aO,aP,aQ,aL,aJ])
theorem abx {d:D} (fd:iZ d=true):∀{ds:List D},ds.all iZ=true→inV (vD d) (ds.map vD)=ds.any fun y=>gD y d
  |[],_=>rfl
  | y::ds,f=>by
    rw[List.all_cons,Bool.and_eq_true] at f
    have ih:=abx fd f.2
    unfold inV at ih ⊢
    rw[List.map_cons,List.any_cons,List.any_cons,aeG f.1 fd,ih]
theorem Ua:∀{ds:List D},ds.all iZ=true→(ds.map vD).all flatV=true
  |[],_=>rfl
  | y::ds,f=>by
    rw[List.all_cons,Bool.and_eq_true] at f
    rw[List.map_cons,List.all_cons,X4 f.1,Ua f.2];rfl
end
noncomputable def adG:D→Option (List D)
  | .tup ds=>some ds
  | .lst ds=>some ds
  |_=>none
noncomputable def Ub (neg:Bool) (d s:D):R D:=match adG s with
  |some ds=>if iZ d=true∧ds.all iZ=true then .ok (.bl (if neg then !(ds.any fun y=>gD y d) else ds.any fun y=>gD y d)) else .bad
  |none=> .bad
section
variable {X:Cx}
theorem in_of {neg:Bool} {ρ:aq} {O:Addr→Prop} {σ:St} {H:Hp} {Q:VK} {x y:V} {dx dy:D} (rx:Rep X.K O H dx x) (ry:Rep X.K O H dy y) (h:good X (rD X) O (Ub neg dx dy) σ H Q):rIn X.K neg x y H Q:=by
  unfold Ub at h
  cases e:adG dy with
  |none=>rw[e] at h;exact h.elim
  | some ds=>
    rw[e] at h
    have h:good X (rD X) O (if iZ dx=true∧ds.all iZ=true then .ok (.bl (if neg then !(ds.any fun y=>gD y dx) else ds.any fun y=>gD y dx)) else .bad) σ H Q:=h
    by_cases hc:iZ dx=true∧ds.all iZ=true
    · rw [if_pos hc] at h
      have key:∃p xs,y= .ref p∧(SqL X.K H p xs∨SqT X.K H p xs)∧aV X.K O H ds xs:=by
        cases dy with
        | tup ds'=>
          cases e
          obtain⟨a,xs,rfl,hq,rs⟩:=ry.tup
          exact⟨a,xs,rfl,.inr hq,rs⟩
        | lst ds'=>
          cases e
          obtain⟨a,xs,rfl,hq,_,rs⟩:=ry.lst
          exact⟨a,xs,rfl,.inl hq,rs⟩
        |_=>cases e
      obtain⟨p,xs,rfl,hq,rs⟩:=key
      have e1:=T9 hc.1 rx
      have e2:=Mv hc.2 rs
      subst e1 e2
      refine⟨p,_,rfl,hq,X4 hc.1,Ua hc.2,?_⟩
      rw[abx hc.1 hc.2]
      exact fin h (gW _)
    · rw[if_neg hc] at h;exact h.elim
theorem aeH:jC X (compareOp .In) (Ub false):=⟨_,op_in_seq,fun ρ O σ H Q x y dx dy j0 rx ry h=>in_of (ρ:=ρ) rx ry h⟩
end
end Pu
namespace Pu
open PySem PySem.Spec L2
open PyProof.Rows hiding St
noncomputable def oG:Bool→Heap→Addr→Addr→Nat→Prop
  |true,h,it,l,k=>h.IsTupleIter it l k
  |false,h,it,l,k=>h.IsListIter it l k
noncomputable def rm:Bool→Heap→Addr→Array Value→Prop
  |true,h,l,xs=>h.IsTuple l xs
  |false,h,l,xs=>h.IsList l xs
noncomputable def itC (t:Bool):String:=if t then "tuple_iterator" else "list_iterator"
noncomputable def Sq:Bool→PySem.W.Frag→Hp→Addr→List V→Prop
  |true,K,H,a,xs=>SqT K H a xs
  |false,K,H,a,xs=>SqL K H a xs
theorem oG.of {t:Bool} {h h':Heap} {it l:Addr} {k:Nat} (x:oG t h it l k) (q:∀o,h.get? it=some o→h'.get? it=some o):oG t h' it l k:=by
  cases t <;> (obtain⟨o,e,r⟩:=x;exact⟨o,q o e,r⟩)
theorem oG.obj {t:Bool} {h:Heap} {it l:Addr} {k:Nat} (x:oG t h it l k):∃o,h.get? it=some o∧∀v,o.data≠.cell v:=by
  cases t <;> (obtain⟨o,e,c,d⟩:=x;exact⟨o,e,fun v z=>by rw[d] at z;cases z⟩)
theorem oG.new {t:Bool} {h:Heap} {l:Addr} {it:Addr} (e:h.get? it=some {cls:= .type (itC t),data:= .fields #[.ref l,.int 0 0]}):oG t h it l 0:=by
  cases t <;> exact⟨_,e,rfl,rfl⟩
theorem rm.of {t:Bool} {h h':Heap} {l:Addr} {xs:Array Value} (x:rm t h l xs) (q:∀o,h.get? l=some o→h'.get? l=some o):rm t h' l xs:=by
  cases t <;> (obtain⟨o,e,r⟩:=x;exact⟨o,q o e,r⟩)
section
variable {prog:Program} {w:World} {A:Around} {E:Value→Shared→Prop} {s:Shared}
theorem nextT {it l:Addr} {i:Nat} {xs:Array Value} {v:Value} {Q:Value→Shared→Prop} (hit:s.heap.IsTupleIter it l i) (hl:s.heap.IsTuple l xs) (hv:xs[i]?=some v)
    (hQ:∀h',h'.IsTupleIter it l (i+1)→Heap.SameBut it s.heap h'→Q v {s with heap:=h'}):wpAny (model prog w) A (Builtin.SmallTypes.nextOf (.ref it)) Q E s:=by
  have ty:=hit.typeIs
  obtain⟨o,g,c,dt⟩:=hit
  obtain⟨p,gp,_,m,dp⟩:=hl
  unfold Builtin.SmallTypes.nextOf
  refine wpAny_bind (wpAny_callSpecial?_slot (name:=Str.ofString "__next__") ty F.slot_tuple_iterator_next (wpAny_call_entry F.slot_tuple_iterator_next ty F.entry_tuple_iterator_next ?_ (F.args_tuple_iterator_next_1 _)))
  show wpAny _ _ (field (.ref it) 0 >>=_) _ _ s;refine wpAny_bind (wpAny_field g dt (x:= .ref l) rfl ?_)
  show wpAny _ _ (if (Value.ref l ==Value.none)=true then _ else _) _ _ s;rw[if_neg (show ¬((Value.ref l ==Value.none)=true) from Bool.false_ne_true)]
  show wpAny _ _ (field (.ref it) 1 >>=_) _ _ s;refine wpAny_bind (wpAny_field g dt (x:= .int i 0) rfl ?_)
  show wpAny _ _ (seqItems? (.ref l) >>=_) _ _ s;refine wpAny_bind (wpAny_seqItems gp dp ?_)
  simp only[Int.toNat_natCast,hv]
  refine wpAny_bind (wpAny_setField g dt (by simp) (wpAny_pure ⟨v,rfl,wpAny_pure (hQ _ ⟨_,Heap.get?_update_self _ g (Obj.isFreed_of_fields (Obj.data_mapFields dt _)),(Obj.cls_mapFields ..).trans c,?_⟩ (Heap.SameBut.update ..))⟩))
  rw[Obj.data_mapFields dt];simp[rawInt]
theorem aaF {it l:Addr} {i:Nat} {xs:Array Value} {Q:Value→Shared→Prop} (hh:A.handled=none) (hit:s.heap.IsTupleIter it l i) (hl:s.heap.IsTuple l xs) (hv:xs[i]?=none)
    (hE:∀h' e,Heap.ExtBut it s.heap h'→(∃o,h'.get? e=some o∧o.cls= .type "StopIteration")→E (.ref e) {s with heap:=h'}):wpAny (model prog w) A (Builtin.SmallTypes.nextOf (.ref it)) Q E s:=by
  have ty:=hit.typeIs
  obtain⟨o,g,c,dt⟩:=hit
  obtain⟨p,gp,_,m,dp⟩:=hl
  unfold Builtin.SmallTypes.nextOf
  refine wpAny_bind (wpAny_callSpecial?_slot (name:=Str.ofString "__next__") ty F.slot_tuple_iterator_next (wpAny_call_entry F.slot_tuple_iterator_next ty F.entry_tuple_iterator_next ?_ (F.args_tuple_iterator_next_1 _)))
  show wpAny _ _ (field (.ref it) 0 >>=_) _ _ s;refine wpAny_bind (wpAny_field g dt (x:= .ref l) rfl ?_)
  show wpAny _ _ (if (Value.ref l ==Value.none)=true then _ else _) _ _ s;rw[if_neg (show ¬((Value.ref l ==Value.none)=true) from Bool.false_ne_true)]
  show wpAny _ _ (field (.ref it) 1 >>=_) _ _ s;refine wpAny_bind (wpAny_field g dt (x:= .int i 0) rfl ?_)
  show wpAny _ _ (seqItems? (.ref l) >>=_) _ _ s;refine wpAny_bind (wpAny_seqItems gp dp ?_)
  simp only[Int.toNat_natCast,hv]
  refine wpAny_bind (wpAny_rule (wpAny_bind (wpAny_setField g dt (by simp) ?_)))
  show wpAny _ _ (newExc (.type "StopIteration") [] >>=_) _ _ _;refine wpAny_bind ?_
  simp only[newExc,newTuple];refine wpAny_bind (wpAny_newObj_type ?_ (by size_fits))
  refine wpAny_bind (m:=firstArgMember _ _) (wpAny_of_eq (a:=Value.none) (by first |(simp only[firstArgMember];rfl) |rfl) ?_)
  refine wpAny_newObj_type ?_ (by size_fits);simp only[raiseNew]
  refine wpAny_bind (wpAny_handled ?_);first |rw [show A.in1.handled=none from hh] |rw [hh]
  exact wpAny_bind (wpAny_pure (wpAny_throw (hE _ _ (((Heap.SameBut.update ..).extBut.push _).push _) ⟨_,Heap.get?_push_size _ rfl,rfl⟩)))
theorem Ls {t:Bool} {it l:Addr} {i:Nat} {xs:Array Value} {v:Value} {Q:Value→Shared→Prop} (hit:oG t s.heap it l i) (hl:rm t s.heap l xs) (hv:xs[i]?=some v)
    (hQ:∀h',oG t h' it l (i+1)→Heap.SameBut it s.heap h'→Q v {s with heap:=h'}):wpAny (model prog w) A (Builtin.SmallTypes.nextOf (.ref it)) Q E s:=by
  cases t with
  |true=>exact nextT hit hl hv hQ
  |false=>exact wpAny_nextOf_list_item hit hl hv hQ
theorem Em {t:Bool} {it l:Addr} {i:Nat} {xs:Array Value} {Q:Value→Shared→Prop} (hh:A.handled=none) (hit:oG t s.heap it l i) (hl:rm t s.heap l xs) (hv:xs[i]?=none)
    (hE:∀h' e,Heap.ExtBut it s.heap h'→(∃o,h'.get? e=some o∧o.cls= .type "StopIteration")→E (.ref e) {s with heap:=h'}):wpAny (model prog w) A (Builtin.SmallTypes.nextOf (.ref it)) Q E s:=by
  cases t with
  |true=>exact aaF hh hit hl hv hE
  |false=>exact wpAny_nextOf_list_end hh hit hl hv hE
theorem GX {t:Bool} {l:Addr} {xs:Array Value} {Q:Value→Shared→Prop} (hl:rm t s.heap l xs) (hQ:Q (.ref s.heap.objs.size) {s with heap:=s.heap.push {cls:= .type (itC t),data:= .fields #[.ref l,.int 0 0]}}):
    wpAny (model prog w) A (pyIter (.ref l)) Q E s:=by
  cases t with
  |true=>exact wpAny_pyIter_tuple hl hQ
  |false=>exact wpAny_pyIter_list hl hQ
theorem Mw {T:Addr} {arr:Array Value} {x:Value} {k:Nat} {Q:Unit→Shared→Prop} (hT:s.heap.get? T=some {cls:= .type "tuple",data:= .seq arr})
    (h:∀h',h'.get? T=some {cls:= .type "tuple",data:= .seq (arr.setIfInBounds k x)}→Heap.SameBut T s.heap h'→Q () {s with heap:=h'}) (hs:arr.size≤sizeLine:=by size_fits):wpAny (model prog w) A (updateSeq T (·.setIfInBounds k x)) Q E s:=by
  refine wpAny_updateSeq (hz:=hs) (_hz':=by simpa using Nat.le_succ_of_le hs) hT rfl (h _ (by rw[Heap.get?_update_self _ hT rfl];simp[Obj.mapSeq]) (Heap.SameBut.update ..))
end
section
variable {X:Cx} {pins:List (Addr×Obj)} {σ:St} {H:Hp} {s:Shared}
theorem _root_.L2.Inv.fp {b:Addr} {h':Heap} (I:Inv X pins σ H s) (f:FpOk X pins H b) (sb:Heap.SameBut b s.heap h'):Inv X pins σ H {s with heap:=h'}:=
  I.turned (t':=s.toks) (fun c o hc e=>(sb.2 c hc).trans e) f.1 f.2.1 f.2.2.2.1 f.2.2.2.2.1 f.2.2.2.2.2
theorem _root_.L2.Inv.fpE {b:Addr} {h':Heap} (I:Inv X pins σ H s) (f:FpOk X pins H b) (sb:Heap.ExtBut b s.heap h'):Inv X pins σ H {s with heap:=h'}:=
  I.turned (t':=s.toks) (fun c o hc e=>sb c o hc e) f.1 f.2.1 f.2.2.2.1 f.2.2.2.2.1 f.2.2.2.2.2
theorem _root_.L2.FpOk.upd {b p:Addr} {o:HO} (f:FpOk X pins H b) (n:b≠p):FpOk X pins (L2.upd H p o) b:=⟨by rw[upd_ne n];exact f.1,f.2⟩
theorem _root_.L2.Inv.sq {t:Bool} {l:Addr} {xs:List V} (I:Inv X pins σ H s) (q:Sq t X.K H l xs):∃its:List Value,Vals xs its∧rm t s.heap l its.toArray:=by
  cases t with
  |true=>obtain⟨its,r,p,_⟩:=I.tuple q;exact⟨its,r,p⟩
  |false=>obtain⟨its,r,p,_⟩:=I.list q;exact⟨its,r,p.isList⟩
theorem _root_.L2.Inv.Mx {t:Bool} {l:Addr} {xs ys:List V} (I:Inv X pins σ H s) (q:Sq t X.K H l xs) (r:Sq t X.K H l ys):xs=ys:=by
  cases t with
  |true=>exact I.tuple_inj q r
  |false=>exact I.list_inj q r
end
end Pu
namespace Pu
open PySem PySem.Spec L2
open PyProof.Rows hiding St
noncomputable abbrev xW (h:Heap) (T:Addr) (arr:Array Value):Prop:=h.get? T=some {cls:= .type "tuple",data:= .seq arr}
structure Z2 (h:Heap) (z TI TO i1 i2:Addr) (t1 t2:Bool) (l1 l2:Addr) (k:Nat):Prop where
  z:IsZip h z TI TO .none
  ti:xW h TI #[.ref i1,.ref i2]
  to:∃a b,xW h TO #[a,b]
  s1:oG t1 h i1 l1 k
  s2:oG t2 h i2 l2 k
noncomputable def aaG (K:PySem.W.Frag) (t1:Bool) (l1:Addr) (t2:Bool) (l2:Addr):It:=
  ⟨fun i H=>∃xs ys x y,Sq t1 K H l1 xs∧xs[i]?=some x∧Sq t2 K H l2 ys∧ys[i]?=some y,
   fun i H v H'=>∃p x y,H p=none∧v= .ref p∧H'=upd H p (.tup [x,y])∧(∀xs,Sq t1 K H l1 xs→xs[i]?=some x)∧∀ys,Sq t2 K H l2 ys→ys[i]?=some y,
   fun i H=>∃xs ys,Sq t1 K H l1 xs∧Sq t2 K H l2 ys∧(xs.length≤i∨ys.length≤i)⟩
section
variable {X:Cx} {pins:List (Addr×Obj)} {σ:St} {H:Hp} {s:Shared} {A':Around} {E:Value→Shared→Prop}
theorem X5:2≤sizeLine:=Nat.le_trans (by decide) (Nat.le_of_lt kI)
theorem X6 {z TI TO i1 i2 l1 l2:Addr} {t1 t2:Bool} {k:Nat} {xs ys:List V} {x y:V} {Q:Value→Shared→Prop} (I:Inv X pins σ H s)
    (fz:FpOk X pins H z) (fO:FpOk X pins H TO) (f1:FpOk X pins H i1) (f2:FpOk X pins H i2)
    (n1:TI≠z) (n2:TO≠z) (n3:i1≠z) (n4:i2≠z) (n5:TI≠TO) (n6:TI≠i1) (n7:TI≠i2) (n8:TO≠i1) (n9:TO≠i2) (n10:i1≠i2)
    (st:Z2 s.heap z TI TO i1 i2 t1 t2 l1 l2 k) (q1:Sq t1 X.K H l1 xs) (e1:xs[k]?=some x) (q2:Sq t2 X.K H l2 ys) (e2:ys[k]?=some y)
    (hQ:∀h',Inv X pins σ (upd H s.heap.objs.size (.tup [x,y])) {s with heap:=h'}→IsZip h' z TI TO (rawInt s.heap.objs.size)→xW h' TI #[.ref i1,.ref i2]→(∃a b,xW h' TO #[a,b])→
      oG t1 h' i1 l1 (k+1)→oG t2 h' i2 l2 (k+1)→Q (.ref s.heap.objs.size) {s with heap:=h'}):
    wpAny (model X.prog X.w) A' (Builtin.«zip.__next__» ⟨[.ref z],[]⟩) (fun fin s'=>∃v,fin= .done (.ret v)∧Q v s') E s:=by
  obtain⟨hz,hTI,⟨a,b,hTO⟩,h1,h2⟩:=st
  show wpAny _ _ (field (.ref z) 2 >>=_) _ _ _;refine wpAny_bind (wpAny_field hz rfl (x:= .bool false) rfl ?_)
  show wpAny _ _ (field (.ref z) 3 >>=_) _ _ _;refine wpAny_bind (wpAny_field hz rfl (x:= .ref TI) rfl ?_)
  refine wpAny_bind (wpAny_seqItems hTI rfl ?_)
  show wpAny _ _ (Builtin.SmallTypes.ownedTupleIsFree (.ref z) >>=_) _ _ _;refine wpAny_bind ?_
  unfold Builtin.SmallTypes.ownedTupleIsFree
  refine wpAny_bind (wpAny_field hz rfl (x:= .none) rfl (wpAny_pure ?_));simp only[if_true]
  refine wpAny_bind (wpAny_rule (wpAny_bind (wpAny_field hz rfl (x:= .ref TO) rfl ?_)))
  refine wpAny_bind (wpAny_setField_rec hz (by simp) fun g1 z1 b1=>?_)
  replace z1:IsZip g1 z TI TO .ellipsis:=z1
  have I1:=I.fp fz b1
  refine wpAny_bind ?_
  simp only[List.zipIdx_cons,List.zipIdx_nil,List.forIn_cons,List.forIn_nil]
  obtain⟨us,r1,p1⟩:=I1.sq q1
  obtain⟨u,hu,ru⟩:=r1.get e1
  refine wpAny_bind (wpAny_bind (wpAny_onRaise ?_));show wpAny _ _ (Builtin.SmallTypes.nextOf (.ref i1) >>=_) _ _ _
  refine wpAny_bind (Ls (h1.of fun o e=>b1.extBut _ _ n3 e) p1 (v:=u) (by simpa using hu) fun g2 s12 b2=>wpAny_pure ?_)
  have I2:=I1.fp f1 b2
  have o2:xW g2 TO #[a,b]:=b2.extBut _ _ n8 (b1.extBut _ _ n2 hTO)
  refine wpAny_bind (wpAny_seqItems o2 rfl (wpAny_bind (Mw o2 fun g3 o3 b3=>wpAny_bind (wpAny_letGo (wpAny_pure ?_)))))
  replace o3:xW g3 TO #[u,b]:=o3
  have I3:=I2.fp fO b3
  obtain⟨vs,r2,p2⟩:=I3.sq q2
  obtain⟨v,hv,rv⟩:=r2.get e2
  refine wpAny_bind (wpAny_bind (wpAny_onRaise ?_));show wpAny _ _ (Builtin.SmallTypes.nextOf (.ref i2) >>=_) _ _ _
  refine wpAny_bind (Ls (h2.of fun o e=>b3.extBut _ _ (Ne.symm n9) (b2.extBut _ _ (Ne.symm n10) (b1.extBut _ _ n4 e))) p2 (v:=v) (by simpa using hv) fun g4 s24 b4=>wpAny_pure ?_)
  have I4:=I3.fp f2 b4
  have o4:xW g4 TO #[u,b]:=b4.extBut _ _ n9 o3
  refine wpAny_bind (wpAny_seqItems o4 rfl (wpAny_bind (Mw o4 fun g5 o5 b5=>wpAny_bind (wpAny_letGo (wpAny_pure (wpAny_pure ?_))))))
  replace o5:xW g5 TO #[u,v]:=o5
  have I5:=I4.fp fO b5
  refine wpAny_bind (wpAny_seqItems o5 rfl (wpAny_bind (wpAny_newTuple ?_)))
  have sz:g5.objs.size=s.heap.objs.size:=by rw[b5.1,b4.1,b3.1,b2.1,b1.1]
  have I6:Inv X pins σ (upd H g5.objs.size (.tup [x,y])) {s with heap:=g5.push {cls:= .type "tuple",data:= .seq #[u,v]}}:=
    I5.laid (t':=s.toks) (fun b u e=>Heap.get?_push_of_some _ e) (Nat.le_refl _) ⟨X5,[u,v],.cons ru (.cons rv .nil),⟨_,Heap.get?_push_size _ rfl,rfl,_,rfl⟩⟩
  have z5:IsZip g5 z TI TO .ellipsis:=b5.extBut _ _ (Ne.symm n2) (b4.extBut _ _ (Ne.symm n4) (b3.extBut _ _ (Ne.symm n2) (b2.extBut _ _ (Ne.symm n3) z1)))
  have lt:∀{c o},g5.get? c=some o→c≠g5.objs.size:=fun e=>Nat.ne_of_lt (Heap.lt_size e)
  show wpAny _ _ (Builtin.SmallTypes.ownedTupleHandOut (.ref z) (.ref g5.objs.size) >>=_) _ _ _;refine wpAny_bind ?_
  unfold Builtin.SmallTypes.ownedTupleHandOut
  refine wpAny_bind (wpAny_setField_rec (Heap.get?_push_of_some _ z5) (by simp) fun g7 z7 b7=>?_)
  replace z7:IsZip g7 z TI TO (rawInt g5.objs.size):=z7
  have I7:=I6.fp (fz.upd (lt z5)) b7
  refine wpAny_setField_rec z7 (by simp) fun g8 z8 b8=>?_
  replace z8:IsZip g8 z TI TO (rawInt g5.objs.size):=z8
  have I8:=I7.fp (fz.upd (lt z5)) b8
  have up:∀c o,c≠z→g5.get? c=some o→g8.get? c=some o:=fun c o c1 e=>b8.extBut _ _ c1 (b7.extBut _ _ c1 (Heap.get?_push_of_some _ e))
  refine wpAny_pure ⟨_,rfl,?_⟩
  rw[sz] at I8 z8
  show Q (.ref g5.objs.size) _
  rw[sz]
  refine hQ g8 I8 z8 (up _ _ n1 (b5.extBut _ _ n5 (b4.extBut _ _ n7 (b3.extBut _ _ n5 (b2.extBut _ _ n6 (b1.extBut _ _ n1 hTI)))))) ⟨u,v,up _ _ n2 o5⟩ ?_ ?_
  · exact s12.of fun o e=>up _ _ n3 (b5.extBut _ _ (Ne.symm n8) (b4.extBut _ _ n10 (b3.extBut _ _ (Ne.symm n8) e)))
  · exact s24.of fun o e=>up _ _ n4 (b5.extBut _ _ (Ne.symm n9) e)
theorem aaH {z TI TO i1 i2 l1 l2:Addr} {t1 t2:Bool} {k:Nat} {xs ys:List V} {Q:Fin→Shared→Prop} (hh:A'.handled=none) (I:Inv X pins σ H s)
    (fz:FpOk X pins H z) (fO:FpOk X pins H TO) (f1:FpOk X pins H i1) (f2:FpOk X pins H i2)
    (n1:TI≠z) (n2:TO≠z) (n3:i1≠z) (n4:i2≠z) (n5:TI≠TO) (n6:TI≠i1) (n7:TI≠i2) (n8:TO≠i1) (n9:TO≠i2) (n10:i1≠i2)
    (st:Z2 s.heap z TI TO i1 i2 t1 t2 l1 l2 k) (q1:Sq t1 X.K H l1 xs) (q2:Sq t2 X.K H l2 ys) (en:xs.length≤k∨ys.length≤k)
    (hE:∀h' e,Inv X pins σ H {s with heap:=h'}→(∃o,h'.get? e=some o∧o.cls= .type "StopIteration")→E (.ref e) {s with heap:=h'}):
    wpAny (model X.prog X.w) A' (Builtin.«zip.__next__» ⟨[.ref z],[]⟩) Q E s:=by
  obtain⟨hz,hTI,⟨a,b,hTO⟩,h1,h2⟩:=st
  show wpAny _ _ (field (.ref z) 2 >>=_) _ _ _;refine wpAny_bind (wpAny_field hz rfl (x:= .bool false) rfl ?_)
  show wpAny _ _ (field (.ref z) 3 >>=_) _ _ _;refine wpAny_bind (wpAny_field hz rfl (x:= .ref TI) rfl ?_)
  refine wpAny_bind (wpAny_seqItems hTI rfl ?_)
  show wpAny _ _ (Builtin.SmallTypes.ownedTupleIsFree (.ref z) >>=_) _ _ _;refine wpAny_bind ?_
  unfold Builtin.SmallTypes.ownedTupleIsFree
  refine wpAny_bind (wpAny_field hz rfl (x:= .none) rfl (wpAny_pure ?_));simp only[if_true]
  refine wpAny_bind (wpAny_rule (wpAny_bind (wpAny_field hz rfl (x:= .ref TO) rfl ?_)))
  refine wpAny_bind (wpAny_setField_rec hz (by simp) fun g1 z1 b1=>?_)
  replace z1:IsZip g1 z TI TO .ellipsis:=z1
  have I1:=I.fp fz b1
  refine wpAny_bind ?_
  simp only[List.zipIdx_cons,List.zipIdx_nil,List.forIn_cons,List.forIn_nil]
  obtain⟨us,r1,p1⟩:=I1.sq q1
  have leave:∀{g g':Heap} {e:Addr} {c:Addr},Inv X pins σ H {s with heap:=g}→IsZip g z TI TO .ellipsis→FpOk X pins H c→c≠z→Heap.ExtBut c g g'→(∃o,g'.get? e=some o∧o.cls= .type "StopIteration")→
      wpAny (model X.prog X.w) A' (setField (.ref z) 0 .none) (fun _ s'=>E (.ref e) s') E {s with heap:=g'}:=fun {g g' e c} Ig zg fc nc eb ⟨oe,hoe,hce⟩=>by
    have zg':IsZip g' z TI TO .ellipsis:=eb _ _ (Ne.symm nc) zg
    have hez:e≠z:=fun q=>by subst q;rw[zg'] at hoe;cases hoe;simp at hce
    have Ig':Inv X pins σ H {s with heap:=g'}:=Ig.fpE fc eb
    exact wpAny_setField_rec zg' (by simp) fun g'' _ b''=>hE g'' e (Ig'.fp fz b'') ⟨oe,b''.extBut _ _ hez hoe,hce⟩
  refine wpAny_bind (wpAny_bind (wpAny_onRaise ?_));show wpAny _ _ (Builtin.SmallTypes.nextOf (.ref i1) >>=_) _ _ _
  have h1':=h1.of (h':=g1) fun o e=>b1.extBut _ _ n3 e
  by_cases hx:xs.length≤k
  · exact wpAny_bind (Em hh h1' p1 (by have:=r1.length;simp;omega) fun g2 e eb ex=>leave I1 z1 f1 n3 eb ex)
  · have hy:ys.length≤k:=by rcases en with h |h;exact absurd h hx;exact h
    obtain⟨u,hu,ru⟩:=r1.get (i:=k) (x:=xs[k]'(by omega)) (List.getElem?_eq_getElem (by omega))
    refine wpAny_bind (Ls h1' p1 (v:=u) (by simpa using hu) fun g2 s12 b2=>wpAny_pure ?_)
    have I2:=I1.fp f1 b2
    have o2:xW g2 TO #[a,b]:=b2.extBut _ _ n8 (b1.extBut _ _ n2 hTO)
    refine wpAny_bind (wpAny_seqItems o2 rfl (wpAny_bind (Mw o2 fun g3 o3 b3=>wpAny_bind (wpAny_letGo (wpAny_pure ?_)))))
    have I3:=I2.fp fO b3
    obtain⟨vs,r2,p2⟩:=I3.sq q2
    have z3:IsZip g3 z TI TO .ellipsis:=b3.extBut _ _ (Ne.symm n2) (b2.extBut _ _ (Ne.symm n3) z1)
    refine wpAny_bind (wpAny_bind (wpAny_onRaise ?_));show wpAny _ _ (Builtin.SmallTypes.nextOf (.ref i2) >>=_) _ _ _
    exact wpAny_bind (Em hh (h2.of fun o e=>b3.extBut _ _ (Ne.symm n9) (b2.extBut _ _ (Ne.symm n10) (b1.extBut _ _ n4 e))) p2 (by have:=r2.length;simp;omega) fun g4 e eb ex=>leave I3 z3 f2 n4 eb ex)
end
theorem X7 {P:Program} {w:World} {K:PySem.W.Frag} {zA:List Expr} {kk} {pp:Pos} {z TI TO i1 i2 l1 l2:Addr} {t1 t2:Bool}
    (n1:TI≠z) (n2:TO≠z) (n3:i1≠z) (n4:i2≠z) (n5:TI≠TO) (n6:TI≠i1) (n7:TI≠i2) (n8:TO≠i1) (n9:TO≠i2) (n10:i1≠i2):
    Turn P w K (.Tuple zA kk pp) (aaG K t1 l1 t2 l2) [z,TI,TO,i1,i2] z (fun i h=>Z2 h z TI TO i1 i2 t1 t2 l1 l2 i) where
  mem:=by simp
  obj:=fun i h st b hb=>by
    obtain⟨hz,hTI,⟨x,y,hTO⟩,h1,h2⟩:=st
    simp only[List.mem_cons,List.not_mem_nil,or_false] at hb
    rcases hb with rfl |rfl |rfl |rfl |rfl
    · exact⟨_,hz,fun v q=>by have q':Data.fields _=Data.cell v:=q;cases q'⟩
    · exact⟨_,hTI,fun v q=>by have q':Data.seq _=Data.cell v:=q;cases q'⟩
    · exact⟨_,hTO,fun v q=>by have q':Data.seq _=Data.cell v:=q;cases q'⟩
    · exact h1.obj
    · exact h2.obj
  keep:=fun i h h' st k=>by
    obtain⟨hz,hTI,⟨x,y,hTO⟩,h1,h2⟩:=st
    exact⟨k _ (by simp) _ hz,k _ (by simp) _ hTI,⟨x,y,k _ (by simp) _ hTO⟩,h1.of fun o e=>k _ (by simp) o e,h2.of fun o e=>k _ (by simp) o e⟩
  item :=by
    intro X hP hw hK hc i pins s σ H E I hf st hg
    subst hP hw hK
    obtain⟨xs,ys,x,y,q1,e1,q2,e2⟩:=hg
    have hT:s.TypeIs (.ref z) "zip" :=⟨_,st.z,rfl⟩
    unfold pyNext
    refine wpAny_bind (wpAny_attempt (wpAny_callSpecial?_slot (name:=Str.ofString "__next__") hT F.slot_zip_next (wpAny_call_entry F.slot_zip_next hT F.entry_zip_next
      (X6 I (hf z (by simp)) (hf TO (by simp)) (hf i1 (by simp)) (hf i2 (by simp)) n1 n2 n3 n4 n5 n6 n7 n8 n9 n10 st q1 e1 q2 e2 fun h' I' z' ti' to' s1' s2'=>wpAny_pure ⟨_,rfl,?_⟩) (F.args_zip_next_1 _))))
    have hp:H s.heap.objs.size=none:=I.hok.fresh (Nat.le_refl _)
    have nz:∀b,b∈[z,TI,TO,i1,i2]→b≠s.heap.objs.size:=fun b hb q=>by
      obtain⟨o,e,_⟩:∃o,s.heap.get? b=some o∧True:=by
        obtain⟨hz,hTI,⟨x,y,hTO⟩,h1,h2⟩:=st
        simp only[List.mem_cons,List.not_mem_nil,or_false] at hb
        rcases hb with rfl |rfl |rfl |rfl |rfl
        · exact⟨_,hz,trivial⟩
        · exact⟨_,hTI,trivial⟩
        · exact⟨_,hTO,trivial⟩
        · obtain⟨o,e,_⟩:=h1.obj;exact⟨o,e,trivial⟩
        · obtain⟨o,e,_⟩:=h2.obj;exact⟨o,e,trivial⟩
      exact absurd (Heap.lt_size e) (by rw[q];exact Nat.lt_irrefl _)
    refine wpAny_letOwnedTupleGo_zip z' fun h'' z'' b''=>⟨.ref s.heap.objs.size,upd H s.heap.objs.size (.tup [x,y]),I'.fp ((hf z (by simp)).upd (nz z (by simp))) b'',rfl,⟨_,x,y,hp,rfl,rfl,fun xs' q=>by rw[I.Mx q q1];exact e1,fun ys' q=>by rw[I.Mx q q2];exact e2⟩,?_,fun b hb=>?_⟩
    · obtain⟨a,b,to'⟩:=to'
      exact⟨z'',b''.extBut _ _ n1 ti',⟨a,b,b''.extBut _ _ n2 to'⟩,s1'.of fun o e=>b''.extBut _ _ n3 e,s2'.of fun o e=>b''.extBut _ _ n4 e⟩
    · rw[upd_ne (nz b hb)];exact (hf b hb).1
  done:=by
    intro X hP hw hK hc i pins s σ H E I hf st hg
    subst hP hw hK
    obtain⟨xs,ys,q1,q2,en⟩:=hg
    have hT:s.TypeIs (.ref z) "zip" :=⟨_,st.z,rfl⟩
    unfold pyNext
    refine wpAny_bind (wpAny_attempt (wpAny_callSpecial?_slot (name:=Str.ofString "__next__") hT F.slot_zip_next (wpAny_call_entry F.slot_zip_next hT F.entry_zip_next
      (aaH (I.ok.hd hc) I (hf z (by simp)) (hf TO (by simp)) (hf i1 (by simp)) (hf i2 (by simp)) n1 n2 n3 n4 n5 n6 n7 n8 n9 n10 st q1 q2 en fun h' e I' ex=>?_) (F.args_zip_next_1 _))))
    obtain⟨o,ho,ec⟩:=ex
    exact wpAny_bind (wpAny_isInstance (T:= "StopIteration") (b:=true) ⟨o,ho,ec⟩ isSubtype_stop (wpAny_pure ⟨rfl,I'⟩))
  self:=fun _ _ _ _ _ st h=>wpAny_pyIter_zip st.z h
end Pu
namespace Pu
open PySem PySem.Spec L2
open PyProof.Rows hiding St
noncomputable abbrev itR (t:Bool) (l:Addr):Obj:={cls:= .type (itC t),data:= .fields #[.ref l,.int 0 0]}
noncomputable abbrev X8 (h:Heap) (t1:Bool) (l1:Addr):Heap:=h.push (itR t1 l1)
noncomputable abbrev zA2 (h:Heap) (t1:Bool) (l1:Addr) (t2:Bool) (l2:Addr):Heap:=(X8 h t1 l1).push (itR t2 l2)
noncomputable abbrev zA3 (h:Heap) (t1:Bool) (l1:Addr) (t2:Bool) (l2:Addr):Heap:=(zA2 h t1 l1 t2 l2).push {cls:= .type "tuple",data:= .seq #[.ref h.objs.size,.ref (X8 h t1 l1).objs.size]}
noncomputable abbrev zA4 (h:Heap) (t1:Bool) (l1:Addr) (t2:Bool) (l2:Addr):Heap:=(zA3 h t1 l1 t2 l2).push {cls:= .type "tuple",data:= .seq #[.none,.none]}
noncomputable abbrev Uc (h:Heap) (t1:Bool) (l1:Addr) (t2:Bool) (l2:Addr):Heap:=(zA4 h t1 l1 t2 l2).push {cls:= .type "zip",data:= .fields #[.none,.bool false,.bool false,.ref (zA2 h t1 l1 t2 l2).objs.size,.ref (zA3 h t1 l1 t2 l2).objs.size]}
theorem Vk (t1:Bool) (l1:Addr) (t2:Bool) (l2:Addr) (xs ys:Array Value):Meets (Builtin.«zip.__new__» ⟨[.type "zip",.ref l1,.ref l2],[]⟩)
    (fun _ R s=>rm t1 s.heap l1 xs∧rm t2 s.heap l2 ys∧R (.ok (.ret (.ref (zA4 s.heap t1 l1 t2 l2).objs.size))) {s with heap:=Uc s.heap t1 l1 t2 l2}):=
  .of_wp fun prog w A R s h=>by
    obtain⟨hp,g,d,tk,os⟩:=s
    obtain⟨k1,k2,h⟩:=h
    have hsub:=sub_zip
    have L1:rm t1 (Shared.heap ⟨hp,g,d,tk,os⟩) l1 xs:=k1
    have L2:rm t2 (Shared.heap ⟨X8 hp t1 l1,g,d,tk,os⟩) l2 ys:=k2.of fun o e=>Heap.get?_push_of_some _ e
    wp_walk using GX L1,GX L2
    exact⟨_,rfl,h⟩
section
variable {prog:Program} {w:World} {A:Around} {E:Value→Shared→Prop} {s:Shared}
theorem Yb {t1 t2:Bool} {l1 l2:Addr} {xs ys:Array Value} {Q:Value→Shared→Prop} (k1:rm t1 s.heap l1 xs) (k2:rm t2 s.heap l2 ys)
    (h:∀h',Z2 h' (s.heap.objs.size+4) (s.heap.objs.size+2) (s.heap.objs.size+3) s.heap.objs.size (s.heap.objs.size+1) t1 t2 l1 l2 0→(∀c o,s.heap.get? c=some o→h'.get? c=some o)→Q (.ref (s.heap.objs.size+4)) {s with heap:=h'}):
    wpAny (model prog w) A (call (.type "zip") [.ref l1,.ref l2]) Q E s:=by
  refine callType_new F.called_zip (by decide) (F.typeCall_zip_2 _ _) (F.newCall_zip_2 _ _) (fun obj=>F.args_object_init_3 obj _ _) F.entry_zip_new (Vk t1 l1 t2 l2 xs ys) ⟨k1,k2,?_⟩
  have z1:(X8 s.heap t1 l1).objs.size=s.heap.objs.size+1:=Heap.size_push ..
  have z2:(zA2 s.heap t1 l1 t2 l2).objs.size=s.heap.objs.size+2:=by rw[Heap.size_push,z1]
  have z3:(zA3 s.heap t1 l1 t2 l2).objs.size=s.heap.objs.size+3:=by rw[Heap.size_push,z2]
  have z4:(zA4 s.heap t1 l1 t2 l2).objs.size=s.heap.objs.size+4:=by rw[Heap.size_push,z3]
  have a5:(Uc s.heap t1 l1 t2 l2).get? (zA4 s.heap t1 l1 t2 l2).objs.size=some _:=Heap.get?_push_size _ rfl
  have a4:(Uc s.heap t1 l1 t2 l2).get? (zA3 s.heap t1 l1 t2 l2).objs.size=some _:=Heap.get?_push_of_some _ (Heap.get?_push_size _ rfl)
  have a3:(Uc s.heap t1 l1 t2 l2).get? (zA2 s.heap t1 l1 t2 l2).objs.size=some _:=Heap.get?_push_of_some _ (Heap.get?_push_of_some _ (Heap.get?_push_size _ rfl))
  have a2:(Uc s.heap t1 l1 t2 l2).get? (X8 s.heap t1 l1).objs.size=some (itR t2 l2):=Heap.get?_push_of_some _ (Heap.get?_push_of_some _ (Heap.get?_push_of_some _ (Heap.get?_push_size _ rfl)))
  have a1:(Uc s.heap t1 l1 t2 l2).get? s.heap.objs.size=some (itR t1 l1):=Heap.get?_push_of_some _ (Heap.get?_push_of_some _ (Heap.get?_push_of_some _ (Heap.get?_push_of_some _ (Heap.get?_push_size _ rfl))))
  show _∧_
  rw[z2,z3,z4] at a5
  rw[z1,z2] at a3
  rw[z3] at a4
  rw[z1] at a2
  rw[z4]
  exact⟨⟨_,a5,rfl⟩,h _ ⟨a5,a3,⟨_,_,a4⟩,.new a1,.new a2⟩ fun c o e=>Heap.get?_push_of_some _ (Heap.get?_push_of_some _ (Heap.get?_push_of_some _ (Heap.get?_push_of_some _ (Heap.get?_push_of_some _ e))))⟩
end
theorem adH:bootBuiltins "zip" =some (.type "zip"):=by decide +kernel
section
variable {X:Cx} {zA:List Expr} {kk:Nat} {pp:Pos} {a b:Expr} {p pos:Pos}
noncomputable def aeI (K:PySem.W.Frag) (ta:TA):TI:=fun σ H R=>ta σ H fun vs H1=>∃t1 l1 t2 l2,vs=[.ref l1,.ref l2]∧(∃xs,Sq t1 K H1 l1 xs)∧(∃ys,Sq t2 K H1 l2 ys)∧R (aaG K t1 l1 t2 l2) H1
theorem ab1 {ta:TA} (hg:Gl X "zip") (hm:X.mg "zip" =none) (ha:PA X [a,b] ta) (he:starEach [a,b] X.env=(false,eval a X.env)::starEach [b] X.env:=by rfl) (hpl:(backTo pos (starEach [b] X.env)).any (·.1)=false:=by rfl):
    PI X (.Tuple zA kk pp) (.Call (.Name "zip" p) [a,b] [] pos) (aeI X.K ta):=by
  intro pins s σ H R I h
  refine Call_ (ld_blt I hg hm adH (PyProof.Rows.callWith_type1 (thn (ha pos pins s σ H _ I h) fun us s1 ⟨vs,H1,I1,r1,q1⟩=>?_) he hpl))
  obtain⟨t1,l1,t2,l2,e,⟨xs,w1⟩,⟨ys,w2⟩,q⟩:=q1
  subst e
  cases r1 with
  | cons r rr=>
    cases rr with
    | cons r' rr=>
      cases rr
      cases r
      cases r'
      obtain⟨vs1,_,p1⟩:=I1.sq w1
      obtain⟨vs2,_,p2⟩:=I1.sq w2
      refine Yb p1 p2 fun h' st k=>wpAny_pyIter_zip st.z ⟨s1.heap.objs.size+4,[s1.heap.objs.size+4,s1.heap.objs.size+2,s1.heap.objs.size+3,s1.heap.objs.size,s1.heap.objs.size+1],_,_,H1,rfl,I1.kept (t':=s1.toks) k,X7 ?_ ?_ ?_ ?_ ?_ ?_ ?_ ?_ ?_ ?_,st,fun c hc=>(by
        have hle:s1.heap.objs.size≤c:=by
          simp only[List.mem_cons,List.not_mem_nil,or_false] at hc
          rcases hc with rfl |rfl |rfl |rfl |rfl <;> first |exact Nat.le_refl _ |exact Nat.le_add_right _ _
        exact I1.fpOk hle (I1.hok.fresh hle)),q⟩
      all_goals (show @Ne Nat _ _;omega)
end
noncomputable def xX (xs ys:List D):List D:=(xs.zip ys).map fun p=> .tup [p.1,p.2]
noncomputable def zip2:List D→R (List D)
  |[x,y]=>(jY x).bind fun xs=>(jY y).bind fun ys=> .ok (xX xs ys)
  |_=> .bad
section
variable {K:PySem.W.Frag} {O:Addr→Prop} {H:Hp}
structure Src (K:PySem.W.Frag) (O:Addr→Prop) (H:Hp) (t:Bool) (a:Addr) (ds:List D):Prop where
  ex:∃vs,Sq t K H a vs∧aV K O H ds vs
  no:t=false→¬O a
theorem Mz {d:D} {v:V} {ds:List D} (r:Rep K O H d v) (h:jY d= .ok ds):∃t a,v= .ref a∧Src K O H t a ds:=by
  cases d with
  |tup es=>cases h;obtain⟨a,xs,rfl,q,rs⟩:=r.tup;exact⟨true,a,rfl,⟨xs,q,rs⟩,fun z=>by cases z⟩
  |lst es=>cases h;obtain⟨a,xs,rfl,q,n,rs⟩:=r.lst;exact⟨false,a,rfl,⟨xs,q,rs⟩,fun _=>n⟩
  |_=>cases h
theorem Src.go {O':Addr→Prop} {H':Hp} {t:Bool} {a:Addr} {ds:List D} (s:Src K O H t a ds) (q:fL K O H O' H'):∃vs,Sq t K H' a vs∧aV K O' H' ds vs:=by
  obtain⟨vs,h,r⟩:=s.ex
  cases t with
  |true=>exact⟨vs,SqT.ext q.ext h,r.go q⟩
  |false=>exact⟨vs,SqL.ext q.ext (s.no rfl) h,r.go q⟩
theorem aaI {xs ys:List D} {i:Nat} {d:D} (h:(xX xs ys)[i]?=some d):∃x y,xs[i]?=some x∧ys[i]?=some y∧d= .tup [x,y]:=by
  unfold xX at h
  rw[List.getElem?_map] at h
  cases e:(xs.zip ys)[i]? with
  |none=>rw[e] at h;cases h
  |some p=>rw[e] at h;cases h;obtain⟨h1,h2⟩:=List.getElem?_zip_eq_some.mp e;exact⟨_,_,h1,h2,rfl⟩
theorem YR.zip2 {t1 t2:Bool} {a1 a2:Addr} {xs ys:List D} (s1:Src K O H t1 a1 xs) (s2:Src K O H t2 a2 ys):YR K O H (aaG K t1 a1 t2 a2) (xX xs ys):=by
  intro O' H' q i
  obtain⟨v1,q1,r1⟩:=s1.go q
  obtain⟨v2,q2,r2⟩:=s2.go q
  refine⟨fun d e=>?_,fun e=>⟨v1,v2,q1,q2,?_⟩⟩
  · obtain⟨x,y,e1,e2,rfl⟩:=aaI e
    obtain⟨u1,g1,w1⟩:=r1.get e1
    obtain⟨u2,g2,w2⟩:=r2.get e2
    refine⟨⟨v1,v2,u1,u2,q1,g1,q2,g2⟩,fun x H2 y=>?_⟩
    obtain⟨p,x1,x2,hp,rfl,rfl,k1,k2⟩:=y
    have k1:=k1 _ q1
    have k2:=k2 _ q2
    rw[g1] at k1;cases k1
    rw[g2] at k2;cases k2
    exact⟨Same.upd hp,lO (SqT.of upd_same) ((aV.cons w1 (.cons w2 .nil)).same (Same.upd hp))⟩
  · rw[←r1.length,←r2.length]
    simp only[xX,List.length_map,List.length_zip] at e
    omega
end
section
variable {X:Cx} {zA:List Expr} {kk:Nat} {pp:Pos} {a b:Expr} {p pos:Pos} {fa:aq→R (List D)}
theorem CG (hg:Gl X "zip") (hm:X.mg "zip" =none) (ha:DA X [a,b] fa) (he:starEach [a,b] X.env=(false,eval a X.env)::starEach [b] X.env:=by rfl) (hpl:(backTo pos (starEach [b] X.env)).any (·.1)=false:=by rfl):
    DI X (.Tuple zA kk pp) (.Call (.Name "zip" p) [a,b] [] pos) (fun ρ=>(fa ρ).bind zip2):=by
  refine PI.imp (ab1 hg hm ha he hpl) fun σ H Q q=>?_
  obtain⟨ρ,O,j,q⟩:=q
  refine go j q fun ds vs H1 e1 s1 r1 j1 h1=>?_
  unfold zip2 at h1
  split at h1
  · rename_i x y
    obtain⟨v1,v2,rfl,w1,w2⟩:=r1.two
    cases ex:jY x with
    |bad=>rw[ex] at h1;exact h1.elim
    |err c=>rw[ex] at h1;cases x <;> cases ex
    | ok xs=>
      cases ey:jY y with
      |bad=>rw[ex,R.bK,ey] at h1;exact h1.elim
      |err c=>cases y <;> cases ey
      | ok ys=>
        rw[ex,R.bK,ey,R.bK] at h1
        obtain⟨t1,a1,rfl,c1⟩:=Mz w1 ex
        obtain⟨t2,a2,rfl,c2⟩:=Mz w2 ey
        obtain⟨vs1,k1,_⟩:=c1.ex
        obtain⟨vs2,k2,_⟩:=c2.ex
        exact⟨t1,a1,t2,a2,rfl,⟨vs1,k1⟩,⟨vs2,k2⟩,fin h1 (YR.zip2 c1 c2)⟩
  · exact h1.elim
end
end Pu
namespace Pu
open PySem PySem.Spec L2
open PyProof.Rows hiding St
section
variable {X:Cx} {pins:List (Addr×Obj)} {σ:St} {H:Hp} {s:Shared} {A':Around} {E:Value→Shared→Prop}
end
section
variable {prog:Program} {w:World} {A:Around} {E:Value→Shared→Prop} {s:Shared}
end
section
variable {X:Cx} {zA:List Expr} {kk:Nat} {pp:Pos} {a b c:Expr} {p pos:Pos}
end
section
variable {K:PySem.W.Frag} {O:Addr→Prop} {H:Hp}
theorem aV.three {d e f:D} {xs:List V} (r:aV K O H [d,e,f] xs):∃x y z,xs=[x,y,z]∧Rep K O H d x∧Rep K O H e y∧Rep K O H f z:=by
  obtain⟨x,t,rfl,h1,h2⟩:=r.cons_inv
  obtain⟨y,z,rfl,h3,h4⟩:=h2.two
  exact⟨x,y,z,rfl,h1,h3,h4⟩
end
section
variable {X:Cx} {zA:List Expr} {kk:Nat} {pp:Pos} {a b c:Expr} {p pos:Pos} {fa:aq→R (List D)}
theorem Q8 {x:D} {c:Str} (h:jY x= .err c):False:=by cases x <;> cases h
end
end Pu
namespace Pu
open PySem PySem.Spec L2
open PyProof.Rows hiding St
noncomputable def Yc (ns:List Int):List Int:=ns.mergeSort fun a b=>decide (a≤b)
end Pu
namespace Pu
open PySem PySem.Spec L2
open PyProof.Rows hiding St
section
variable {X:Cx}
variable {pos:Pos}
theorem Yd (i k m:Nat) {x y z:Str} {px py pz:Pos} {kt} (hc:X.calm=true) (hN:X.N.Nodup) (hi:X.N[i]?=some x:=by rfl) (hk:X.N[k]?=some y:=by rfl) (hm:X.N[m]?=some z:=by rfl)
    (hx:Loc X.env.scope x:=by first |exact Or.inl rfl |exact Or.inr rfl) (hy:Loc X.env.scope y:=by first |exact Or.inl rfl |exact Or.inr rfl) (hz:Loc X.env.scope z:=by first |exact Or.inl rfl |exact Or.inr rfl)
    (hfx:X.fn x=true∨X.env.scope.names.lookup x=some .local:=by first |exact .inl rfl |exact .inr rfl) (Mf:X.fn y=true∨X.env.scope.names.lookup y=some .local:=by first |exact .inl rfl |exact .inr rfl) (hfz:X.fn z=true∨X.env.scope.names.lookup z=some .local:=by first |exact .inl rfl |exact .inr rfl):
    DGA X (.Tuple [.Name x px,.Name y py,.Name z pz] kt pos) (dG (dI 3 (bA (aG i) (bA (aG k) (bA (aG m) nilG))))):=by
  intro pins s σ H v u Q I r h
  obtain⟨H0,O0,O,ρ,d,ρ',j,rd,e,q⟩:=h
  cases d with
  | tup ds=>
    match ds,e,rd with
    |[],e,_=>cases e
    |[_],e,_=>cases e
    |[_,_],e,_=>cases e
    |_::_::_::_::_,e,_=>simp[dG,dI] at e
    | [d1,d2,d3],e,rd=>
      obtain⟨a,xs,rfl,hq,rs⟩:=rd.tup
      obtain⟨v1,v2,v3,rfl,r1,r2,r3⟩:=rs.three
      cases e
      refine pg_tup hc (pgs_cons (pg_name hN hi hx hfx) (pgs_cons (pg_name hN hk hy Mf) (pgs_cons (pg_name hN hm hz hfz) pgs_nil))) rfl rfl pins s σ H _ u Q I r ⟨a,[v1,v2,v3],rfl,hq,rfl,v1,[v2,v3],rfl,v2,[v3],rfl,v3,[],rfl,rfl,?_⟩
      exact q _ (((j.set (List.getElem?_eq_some_iff.mp hi).1 r1).set (List.getElem?_eq_some_iff.mp hk).1 r2).set (List.getElem?_eq_some_iff.mp hm).1 r3)
  |_=>cases e
end
end Pu
namespace Pu
open PySem PySem.Spec L2
open PyProof.Rows hiding St
noncomputable def Ite (K:PySem.W.Frag) (t:Bool) (l:Addr):It:=
  ⟨fun i H=>∃xs x,Sq t K H l xs∧xs[i]?=some x,
   fun i H v H'=>∃p x,H p=none∧v= .ref p∧H'=upd H p (.tup [.int (i:Int),x])∧∀xs,Sq t K H l xs→xs[i]?=some x,
   fun i H=>∃xs,Sq t K H l xs∧xs.length≤i⟩
section
variable {X:Cx} {pins:List (Addr×Obj)} {σ:St} {H:Hp} {s:Shared} {A':Around} {E:Value→Shared→Prop}
theorem Ye {e it l:Addr} {t:Bool} {k:Nat} {xs:List V} {x:V} {old:Value} {Q:Value→Shared→Prop} (I:Inv X pins σ H s) (fe:FpOk X pins H e) (fi:FpOk X pins H it) (ne:e≠it)
    (he:IsEnum s.heap e it k old) (hs:oG t s.heap it l k) (q:Sq t X.K H l xs) (ex:xs[k]?=some x)
    (hQ:∀h' u,Inv X pins σ (upd H s.heap.objs.size (.tup [.int (k:Int),x])) {s with heap:=h',toks:=s.toks+1}→IsEnumOut h' e it ((k:Int)+1) u s.heap.objs.size→oG t h' it l (k+1)→Q (.ref s.heap.objs.size) {s with heap:=h',toks:=s.toks+1}):
    wpAny (model X.prog X.w) A' (Builtin.«enumerate.__next__» ⟨[.ref e],[]⟩) (fun fin s'=>∃v,fin= .done (.ret v)∧Q v s') E s:=by
  obtain⟨us,r1,p1⟩:=I.sq q
  obtain⟨u,hu,ru⟩:=r1.get ex
  obtain⟨hp,g,d,tk,os⟩:=s
  show wpAny _ _ (field (.ref e) 2 >>=_) _ _ _;refine wpAny_bind (wpAny_field he rfl (x:= .ref it) rfl ?_)
  refine wpAny_bind (Ls hs p1 (v:=u) (by simpa using hu) fun g1 s1 b1=>?_)
  have I1:=I.fp fi b1
  replace b1:Heap.SameBut it hp g1:=b1
  have e1:IsEnum g1 e it k old:=(b1.2 e ne).trans he
  show wpAny _ _ (field (.ref e) 3 >>=_) _ _ ⟨g1,g,d,tk,os⟩;refine wpAny_bind (wpAny_field e1 rfl (x:=rawInt k) rfl ?_)
  show wpAny _ _ (field (.ref e) 4 >>=_) _ _ ⟨g1,g,d,tk,os⟩;refine wpAny_bind (wpAny_field e1 rfl (x:= .none) rfl ?_)
  show wpAny _ _ (mkInt k >>=_) _ _ ⟨g1,g,d,tk,os⟩;refine wpAny_bind (wpAny_mkInt ?_)
  have I1':Inv X pins σ H ⟨g1,g,d,tk+1,os⟩:=Inv.tok (s:=⟨g1,g,d,tk,os⟩) I1 (tk+1)
  show wpAny _ _ (setField (.ref e) 3 (rawInt ((k:Int)+1)) >>=_) _ _ ⟨g1,g,d,tk+1,os⟩
  refine wpAny_bind (wpAny_setField_rec e1 (by simp) fun g2 e2 b2=>?_)
  have I2:=I1'.fp fe b2
  replace b2:Heap.SameBut e g1 g2:=b2
  replace e2:IsEnum g2 e it ((k:Int)+1) old:=e2
  show wpAny _ _ (setField (.ref e) 4 .none >>=_) _ _ ⟨g2,g,d,tk+1,os⟩
  refine wpAny_bind (wpAny_setField_rec e2 (by simp) fun g3 e3 b3=>?_)
  have I3:=I2.fp fe b3
  replace b3:Heap.SameBut e g2 g3:=b3
  replace e3:IsEnum g3 e it ((k:Int)+1) old:=e3
  show wpAny _ _ (newTuple [.int k tk,u] >>=_) _ _ ⟨g3,g,d,tk+1,os⟩;refine wpAny_bind (wpAny_newTuple ?_)
  have sz:g3.objs.size=hp.objs.size:=by rw[b3.1,b2.1,b1.1]
  have lt:e≠g3.objs.size:=Nat.ne_of_lt (Heap.lt_size e3)
  have I4:Inv X pins σ (upd H g3.objs.size (.tup [.int (k:Int),x])) ⟨g3.push {cls:= .type "tuple",data:= .seq #[.int k tk,u]},g,d,tk+1,os⟩:=
    Inv.laid (s:=⟨g3,g,d,tk+1,os⟩) (t':=tk+1) I3 (fun b u e=>Heap.get?_push_of_some _ e) (Nat.le_refl _) ⟨X5,[.int k tk,u],.cons ⟨tk,rfl⟩ (.cons ru .nil),⟨_,Heap.get?_push_size _ rfl,rfl,_,rfl⟩⟩
  have e4:IsEnum (g3.push {cls:= .type "tuple",data:= .seq #[.int k tk,u]}) e it ((k:Int)+1) old:=Heap.get?_push_of_some _ e3
  have s4:oG t (g3.push {cls:= .type "tuple",data:= .seq #[.int k tk,u]}) it l (k+1):=s1.of fun o z=>Heap.get?_push_of_some _ (b3.extBut _ _ (Ne.symm ne) (b2.extBut _ _ (Ne.symm ne) z))
  show wpAny _ _ (Builtin.SmallTypes.ownedTupleIsFree (.ref e) >>=_) _ _ ⟨g3.push {cls:= .type "tuple",data:= .seq #[.int k tk,u]},g,d,tk+1,os⟩
  generalize g3.push {cls:= .type "tuple",data:= .seq #[.int k tk,u]}=g4 at *
  refine wpAny_bind ?_
  unfold Builtin.SmallTypes.ownedTupleIsFree
  refine wpAny_bind (wpAny_field e4 rfl (x:= .none) rfl (wpAny_pure ?_));simp only[if_true]
  refine wpAny_bind (wpAny_rule (wpAny_bind (wpAny_field e4 rfl (x:=old) rfl ?_)))
  refine wpAny_bind (wpAny_setField_rec e4 (by simp) fun g5 e5 b5=>?_)
  have I5:=I4.fp (fe.upd lt) b5
  replace b5:Heap.SameBut e g4 g5:=b5
  replace e5:IsEnum g5 e it ((k:Int)+1) u:=e5
  show wpAny _ _ (Builtin.SmallTypes.ownedTupleHandOut (.ref e) (.ref g3.objs.size) >>=_) _ _ ⟨g5,g,d,tk+1,os⟩;refine wpAny_bind ?_
  unfold Builtin.SmallTypes.ownedTupleHandOut
  refine wpAny_bind (wpAny_setField_rec e5 (by simp) fun g6 e6 b6=>?_)
  have I6:=I5.fp (fe.upd lt) b6
  replace b6:Heap.SameBut e g5 g6:=b6
  replace e6:IsEnumOut g6 e it ((k:Int)+1) u g3.objs.size:=e6
  refine wpAny_setField_rec e6 (by simp) fun g7 e7 b7=>?_
  have I7:=I6.fp (fe.upd lt) b7
  replace b7:Heap.SameBut e g6 g7:=b7
  replace e7:IsEnumOut g7 e it ((k:Int)+1) u g3.objs.size:=e7
  refine wpAny_bind (wpAny_letGo (wpAny_pure ⟨_,rfl,?_⟩))
  rw[sz] at I7 e7
  show Q (.ref g3.objs.size) _
  rw[sz]
  exact hQ g7 u I7 e7 (s4.of fun o z=>b7.extBut _ _ (Ne.symm ne) (b6.extBut _ _ (Ne.symm ne) (b5.extBut _ _ (Ne.symm ne) z)))
end
theorem Yg {P:Program} {w:World} {K:PySem.W.Frag} {zA:List Expr} {kk} {pp:Pos} {e it l:Addr} {t:Bool} (ne:e≠it):
    Turn P w K (.Tuple zA kk pp) (Ite K t l) [e,it] e (fun i h=>(∃old,IsEnum h e it i old)∧oG t h it l i) where
  mem:=by simp
  obj:=fun i h st b hb=>by
    obtain⟨⟨old,he⟩,hs⟩:=st
    simp only[List.mem_cons,List.not_mem_nil,or_false] at hb
    rcases hb with rfl |rfl
    · exact⟨_,he,fun v q=>by have q':Data.fields _=Data.cell v:=q;cases q'⟩
    · exact hs.obj
  keep:=fun i h h' st k=>by
    obtain⟨⟨old,he⟩,hs⟩:=st
    exact⟨⟨old,k _ (by simp) _ he⟩,hs.of fun o z=>k _ (by simp) o z⟩
  item :=by
    intro X hP hw hK hc i pins s σ H E I hf st hg
    subst hP hw hK
    obtain⟨⟨old,he⟩,hs⟩:=st
    obtain⟨xs,x,q,ex⟩:=hg
    have hT:s.TypeIs (.ref e) "enumerate" :=⟨_,he,rfl⟩
    have hp:H s.heap.objs.size=none:=I.hok.fresh (Nat.le_refl _)
    have nz:∀b,b∈[e,it]→b≠s.heap.objs.size:=fun b hb z=>by
      obtain⟨o,eo⟩:∃o,s.heap.get? b=some o:=by
        simp only[List.mem_cons,List.not_mem_nil,or_false] at hb
        rcases hb with rfl |rfl
        · exact⟨_,he⟩
        · obtain⟨o,eo,_⟩:=hs.obj;exact⟨o,eo⟩
      exact absurd (Heap.lt_size eo) (by rw[z];exact Nat.lt_irrefl _)
    unfold pyNext
    refine wpAny_bind (wpAny_attempt (wpAny_callSpecial?_slot (name:=Str.ofString "__next__") hT F.slot_enumerate_next (wpAny_call_entry F.slot_enumerate_next hT F.entry_enumerate_next
      (Ye I (hf e (by simp)) (hf it (by simp)) ne he hs q ex fun h' u I' e' s'=>wpAny_pure ⟨_,rfl,?_⟩) (F.args_enumerate_next_1 _))))
    refine wpAny_letOwnedTupleGo_enum e' fun h'' e'' b''=>⟨.ref s.heap.objs.size,upd H s.heap.objs.size (.tup [.int (i:Int),x]),I'.fp ((hf e (by simp)).upd (nz e (by simp))) b'',rfl,⟨_,x,hp,rfl,rfl,fun xs' q'=>by rw[I.Mx q' q];exact ex⟩,⟨⟨u,by simpa using e''⟩,s'.of fun o z=>b''.extBut _ _ (Ne.symm ne) z⟩,fun b hb=>?_⟩
    rw[upd_ne (nz b hb)];exact (hf b hb).1
  done:=by
    intro X hP hw hK hc i pins s σ H E I hf st hg
    subst hP hw hK
    obtain⟨⟨old,he⟩,hs⟩:=st
    obtain⟨xs,q,en⟩:=hg
    obtain⟨us,r1,p1⟩:=I.sq q
    have hT:s.TypeIs (.ref e) "enumerate" :=⟨_,he,rfl⟩
    unfold pyNext
    refine wpAny_bind (wpAny_attempt (wpAny_callSpecial?_slot (name:=Str.ofString "__next__") hT F.slot_enumerate_next (wpAny_call_entry F.slot_enumerate_next hT F.entry_enumerate_next ?_ (F.args_enumerate_next_1 _))))
    show wpAny _ _ (field (.ref e) 2 >>=_) _ _ _;refine wpAny_bind (wpAny_field he rfl (x:= .ref it) rfl ?_)
    refine wpAny_bind (Em (I.ok.hd hc) hs p1 (by have:=r1.length;simp;omega) fun g1 x eb bN=>?_)
    obtain⟨o,ho,ec⟩:=bN
    exact wpAny_bind (wpAny_isInstance (T:= "StopIteration") (b:=true) ⟨o,ho,ec⟩ isSubtype_stop (wpAny_pure ⟨rfl,I.fpE (hf it (by simp)) eb⟩))
  self:=fun _ _ _ _ _ st h=>by
    obtain⟨⟨old,he⟩,_⟩:=st
    exact wpAny_pyIter_enum he h
theorem Q9 (t:Bool) (l:Addr) (xs:Array Value):Meets (Builtin.«enumerate.__new__» ⟨[.type "enumerate",.ref l],[]⟩)
    (fun _ R s=>rm t s.heap l xs∧R (.ok (.ret (.ref (s.heap.push (itR t l)).objs.size))) {s with heap:=(s.heap.push (itR t l)).push {cls:= .type "enumerate",data:= .fields #[.none,.bool false,.ref s.heap.objs.size,rawInt 0,.none,.none]}}):=
  .of_wp fun prog w A R s h=>by
    obtain⟨hp,g,d,tk,os⟩:=s
    obtain⟨k1,h⟩:=h
    have hsub:=sub_enumerate
    have L1:rm t (Shared.heap ⟨hp,g,d,tk,os⟩) l xs:=k1
    wp_walk using GX L1
    refine wpAny_stack_any fun st=>wpAny_pure ?_
    split
    · rename_i c _ _ _ _ _
      cases (c ==Value.type "enumerate") <;> (wp_walk using GX L1;exact⟨_,rfl,h⟩)
    · wp_walk using GX L1
      exact⟨_,rfl,h⟩
section
variable {prog:Program} {w:World} {A:Around} {E:Value→Shared→Prop} {s:Shared}
theorem Vl {t:Bool} {l:Addr} {xs:Array Value} {Q:Value→Shared→Prop} (k1:rm t s.heap l xs)
    (h:∀h',IsEnum h' (s.heap.objs.size+1) s.heap.objs.size 0 .none→oG t h' s.heap.objs.size l 0→(∀c o,s.heap.get? c=some o→h'.get? c=some o)→Q (.ref (s.heap.objs.size+1)) {s with heap:=h'}):
    wpAny (model prog w) A (call (.type "enumerate") [.ref l]) Q E s:=by
  refine callType_new F.called_enumerate (by decide) (F.typeCall_enumerate_1 _) (F.newCall_enumerate_1 _) (fun obj=>F.args_object_init_2 obj _) F.entry_enumerate_new (Q9 t l xs) ⟨k1,?_⟩
  have z1:(s.heap.push (itR t l)).objs.size=s.heap.objs.size+1:=Heap.size_push ..
  have a2:((s.heap.push (itR t l)).push {cls:= .type "enumerate",data:= .fields #[.none,.bool false,.ref s.heap.objs.size,rawInt 0,.none,.none]}).get? (s.heap.push (itR t l)).objs.size=some _:=Heap.get?_push_size _ rfl
  show _∧_
  rw[z1] at a2 ⊢
  exact⟨⟨_,a2,rfl⟩,h _ a2 (.new (Heap.get?_push_of_some _ (Heap.get?_push_size _ rfl))) fun c o e=>Heap.get?_push_of_some _ (Heap.get?_push_of_some _ e)⟩
end
section
variable {X:Cx} {zA:List Expr} {kk:Nat} {pp:Pos} {a:Expr} {p pos:Pos} {fa:aq→R (List D)}
noncomputable def aeJ (K:PySem.W.Frag) (ta:TA):TI:=fun σ H R=>ta σ H fun vs H1=>∃t l,vs=[.ref l]∧(∃xs,Sq t K H1 l xs)∧R (Ite K t l) H1
theorem ab2 {ta:TA} (hg:Gl X "enumerate") (hm:X.mg "enumerate" =none) (ha:PA X [a] ta) (he:starEach [a] X.env=(false,eval a X.env)::starEach [] X.env:=by rfl) (hpl:(backTo pos (starEach [] X.env)).any (·.1)=false:=by rfl):
    PI X (.Tuple zA kk pp) (.Call (.Name "enumerate" p) [a] [] pos) (aeJ X.K ta):=by
  intro pins s σ H R I h
  refine Call_ (ld_blt I hg hm boot_enumerate (PyProof.Rows.callWith_type1 (thn (ha pos pins s σ H _ I h) fun us s1 ⟨vs,H1,I1,r1,q1⟩=>?_) he hpl))
  obtain⟨t,l,e,⟨xs,w1⟩,q⟩:=q1
  subst e
  cases r1 with
  | cons r rr=>
    cases rr
    cases r
    obtain⟨vs1,_,p1⟩:=I1.sq w1
    refine Vl p1 fun h' e' s' k=>wpAny_pyIter_enum e' ⟨s1.heap.objs.size+1,[s1.heap.objs.size+1,s1.heap.objs.size],_,_,H1,rfl,I1.kept (t':=s1.toks) k,Yg ?_,⟨⟨_,e'⟩,s'⟩,fun c hc=>(by
        have hle:s1.heap.objs.size≤c:=by
          simp only[List.mem_cons,List.not_mem_nil,or_false] at hc
          rcases hc with rfl |rfl <;> first |exact Nat.le_refl _ |exact Nat.le_add_right _ _
        exact I1.fpOk hle (I1.hok.fresh hle)),q⟩
    all_goals (show @Ne Nat _ _;omega)
noncomputable def oH:Nat→List D→List D
  |_,[]=>[]
  |n,d::ds=> .tup [.int (n:Int),d]::oH (n+1) ds
theorem Kd:∀{ds:List D} {n i:Nat} {d:D},(oH n ds)[i]?=some d→∃x,ds[i]?=some x∧d= .tup [.int ((n+i:Nat):Int),x]
  |[],_,_,_,h=>by simp[oH] at h
  |x::ds,n,0,d,h=>by simp[oH] at h;exact⟨x,rfl,by rw[←h];rfl⟩
  | x::ds,n,i+1,d,h=>by
    rw[oH,List.getElem?_cons_succ] at h
    obtain⟨y,e1,e2⟩:=Kd h
    exact⟨y,by rw[List.getElem?_cons_succ];exact e1,by rw[e2,show n+1+i=n+(i+1) by omega]⟩
theorem Ke:∀{ds:List D} {n:Nat},(oH n ds).length=ds.length
  |[],_=>rfl
  |_::ds,n=>by rw[oH,List.length_cons,Ke,List.length_cons]
noncomputable def jh:List D→R (List D)
  |[x]=>(jY x).bind fun xs=> .ok (oH 0 xs)
  |_=> .bad
theorem YR.enum {K:PySem.W.Frag} {O:Addr→Prop} {H:Hp} {t:Bool} {a:Addr} {xs:List D} (s1:Src K O H t a xs):YR K O H (Ite K t a) (oH 0 xs):=by
  intro O' H' q i
  obtain⟨v1,q1,r1⟩:=s1.go q
  refine⟨fun d e=>?_,fun e=>⟨v1,q1,?_⟩⟩
  · obtain⟨x,e1,rfl⟩:=Kd e
    obtain⟨u1,g1,w1⟩:=r1.get e1
    refine⟨⟨v1,u1,q1,g1⟩,fun x H2 y=>?_⟩
    obtain⟨p,x1,hp,rfl,rfl,k1⟩:=y
    have k1:=k1 _ q1
    rw[g1] at k1;cases k1
    rw[Nat.zero_add]
    exact⟨Same.upd hp,lO (SqT.of upd_same) ((aV.cons (cL _) (.cons w1 .nil)).same (Same.upd hp))⟩
  · rw[←r1.length,←Ke (n:=0)];exact e
theorem lV (hg:Gl X "enumerate") (hm:X.mg "enumerate" =none) (ha:DA X [a] fa) (he:starEach [a] X.env=(false,eval a X.env)::starEach [] X.env:=by rfl) (hpl:(backTo pos (starEach [] X.env)).any (·.1)=false:=by rfl):
    DI X (.Tuple zA kk pp) (.Call (.Name "enumerate" p) [a] [] pos) (fun ρ=>(fa ρ).bind jh):=by
  refine PI.imp (ab2 hg hm ha he hpl) fun σ H Q q=>?_
  obtain⟨ρ,O,j,q⟩:=q
  refine go j q fun ds vs H1 e1 s1 r1 j1 h1=>?_
  unfold jh at h1
  split at h1
  · rename_i x
    obtain⟨v1,rfl,w1⟩:=r1.one
    cases ex:jY x with
    |bad=>rw[ex] at h1;exact h1.elim
    |err c=>exact (Q8 ex).elim
    | ok xs=>
      rw[ex,R.bK] at h1
      obtain⟨t1,a1,rfl,c1⟩:=Mz w1 ex
      obtain⟨vs1,k1,_⟩:=c1.ex
      exact⟨t1,a1,rfl,⟨vs1,k1⟩,fin h1 (YR.enum c1)⟩
  · exact h1.elim
end
end Pu
namespace Pu
open PySem PySem.Spec L2
open PyProof.Rows hiding St
section
variable {prog:Program} {w:World} {A:Around} {E:Value→Shared→Prop} {s:Shared}
end
section
variable {X:Cx} {a:Expr} {p pos p2 pos2:Pos} {fa:aq→R (List D)}
noncomputable def adJ (K:PySem.W.Frag) (ta:TA):TE:=fun σ H Q=>ta σ H fun vs H1=>∃j:Int,vs=[.int j]∧0≤j∧j≤1000∧∀q,H1 q=none→Q (.ref q) (upd H1 q (.rng 0 j))
theorem adK {ta:TA} (hg:Gl X "range") (hm:X.mg "range" =none) (ha:PA X [a] ta) (hs:starEach [a] X.env=[(false,eval a X.env)]:=by rfl):PE X (.Call (.Name "range" p) [a] [] pos) (adJ X.K ta):=by
  intro pins s σ H Q I h
  refine Call_ (ld_blt I hg hm boot_range (PyProof.Rows.callWith_type1 (thn (ha pos pins s σ H _ I h) fun us s1 ⟨vs,H1,I1,r1,q1⟩=>?_) hs rfl))
  obtain⟨j,e,h0,h1,q⟩:=q1
  subst e
  cases r1 with
  | cons r rr=>
    cases rr
    obtain⟨t,rfl⟩:=r
    refine call_range_1 ?_
    exact⟨.ref s1.heap.objs.size,upd H1 s1.heap.objs.size (.rng 0 j),I1.laid (fun b o e=>Heap.get?_push_of_some _ e) (Nat.le_refl _) ⟨_,_,_,Heap.get?_push_size _ rfl⟩,rfl,q _ (I1.hok.fresh (Nat.le_refl _))⟩
end
end Pu
namespace Pu
open PySem PySem.Spec L2
open PyProof.Rows hiding St
section
variable {X:Cx} {e:Expr} {f:aq→R D} {pos:Pos}
end
end Pu
namespace Pu
open PySem PySem.Spec L2
open PyProof.Rows hiding St
section
variable {X:Cx}
end
end Pu
namespace Pu
open PySem PySem.Spec L2
open PyProof.Rows hiding St
section
variable {X:Cx}
inductive aaJ (XB:Cx) (K:PySem.W.Frag) (O:Addr→Prop) (H2:Hp) (Dd:Addr) (fp:List Addr) (tn:Nat→Heap→Prop) (ρ0:aq) (xs:List D) (F:D→R (Option D)) (all:List D) (n:Nat) (s':Shared):Prop
  |mk (i:Nat) (σ':St) (H':Hp) (ys:List V) (ds rest:List D) (en:n=xs.length+1 - i) (hil:i≤xs.length) (I:Inv XB [] σ' H' s') (st:tn i s'.heap) (fr:∀b∈fp,H' b=none) (j:In XB O H' ρ0 σ') (sm:Same H2 H') (hD:H' Dd=some (.lst ys)) (rp:aV K O H' ds ys) (hm:ig F (xs.drop i)= .ok rest) (hr:ds++rest=all):aaJ XB K O H2 Dd fp tn ρ0 xs F all n s'
theorem MF {tg iter elt:Expr} {ifs:List Expr} {scope:Scope} {pos pos2:Pos} {fi:aq→R (List D)} {gt:D→aq→R aq} {ft:aq→R Bool} {fe:aq→R D} (ts:List Str) (caps:List Nat)
    (hc:X.calm=true) (hb:uQ X.env.scope scope ts X.N=true) (hcap:(dJ scope).map (fun x=>kW x X.N)=caps)
    (hi:DI X tg iter fi) (hk:lB ts.length gt) (hg:∀C s H ex,(bF X scope ts C s H ex).N.Nodup→DG (bF X scope ts C s H ex) tg gt) (ht:∀C s H ex,Dn (bF X scope ts C s H ex) ifs ft) (he:∀C s H ex,DE (bF X scope ts C s H ex) elt fe)
    (hs:∀x,foldedSetIterable iter X.env x=pure x) {use:Option (Value→Sem Unit)} {Qr:Value→Shared→Prop} {pins:List (Addr×Obj)} {s:Shared} {σ:St} {H:Hp} {ρ:aq} {O:Addr→Prop} {Q:VK} (I:Inv X pins σ H s) (j:In X O H ρ σ)
    (hQ:∀(v:V) (H':Hp) (s5:Shared) (C:Addr) (m:Str→Option Value) (f:Flow) (acc:Value),Q v H'→Inv X pins σ H' s5→s5.heap.Ns C m→FpOk X pins H' C→RelV v acc→compPost (model X.prog X.w) X.A X.xe use Qr acc C (.ok f) s5)
    (h:good X (rD X) O (bB ts.length caps fi gt ft fe ρ) σ H Q):
    wpAny (model X.prog X.w) X.A (comprehension (.ListComp elt [⟨tg,iter,ifs,0⟩] scope pos) scope X.env pos2 (newList []) false (eval iter X.env) use) Qr X.xe s:=by
  have B:=abt hb
  refine wpAny_comprehension_free (cl:=gZ X.env.cells scope.names []) (use:=use) rfl hs (Gu fun x hx e=>?_) B.kind B.loc ?_
  · obtain⟨n,k⟩:=x
    have e:k= .free:=e
    subst e
    exact I.ok.has n (B.out n (pI hx))
  refine thn (hi pins s σ H (fun J H1=>∃xs,YR X.K O H1 J xs∧In X O H1 ρ σ∧good X (rD X) O ((ig (jP gt ft fe (uw ts.length caps ρ)) xs).bind (cap .lst)) σ H1 Q) I (Pu.go j h fun xs J H1 e1 s1 y1 j1 h1=>⟨xs,y1,j1,h1⟩)) fun xv s1 h1=>thn h1 fun itv s2 h2=>?_
  obtain⟨it,fp,tn,J,H2,e,I2,T,st2,f2,xs,yr,j2,g2⟩:=h2
  subst e
  rw[←Gv hcap] at g2
  generalize eρ:pull X.N (dJ scope) ts.length (ρ.map uq)=ρ0 at g2
  obtain⟨all,hall,hlen,g3⟩:∃all,ig (jP gt ft fe ρ0) xs= .ok all∧all.length≤1000000∧good X (rD X) O (.ok (.lst all)) σ H2 Q:=by
    cases e:ig (jP gt ft fe ρ0) xs with
    |bad=>rw[e] at g2;exact g2.elim
    |err c=>exact absurd e xK
    | ok all=>
      rw[e] at g2
      have g2:good X (rD X) O (if all.length≤1000000 then .ok (.lst all) else .bad) σ H2 Q:=g2
      by_cases hl:all.length≤1000000
      · rw[if_pos hl] at g2;exact⟨all,rfl,hl,g2⟩
      · rw[if_neg hl] at g2;exact g2.elim
  have hlt:∀b∈fp,b < s2.heap.objs.size:=fun b hb=>by
    obtain⟨o,e,_⟩:=T.obj 0 _ st2 b hb
    exact Heap.lt_size e
  refine wpAny_newObj_type (J4 ?_)
  generalize hC:(s2.heap.push {cls:= .type "list",dict:=none,data:= .seq ([]:List Value).toArray}).objs.size=C
  have hC':C=s2.heap.objs.size+1:=by rw[←hC];exact Heap.size_push ..
  generalize e4:pushCells ((s2.heap.push {cls:= .type "list",dict:=none,data:= .seq ([]:List Value).toArray}).push {cls:= .type "dict",data:= .dict #[]}) scope.names=h4
  show codeAny (model X.prog X.w) X.A (.compStart (.ListComp elt [⟨tg,iter,ifs,0⟩] scope pos) 0 (.ref it) (.ref s2.heap.objs.size) (eU scope X.env C)) (compPost (model X.prog X.w) X.A X.xe use Qr (.ref s2.heap.objs.size) C) {s2 with heap:=h4}
  have zW:H2 s2.heap.objs.size=none:=I2.hok.fresh (Nat.le_refl _)
  have hOn:¬O s2.heap.objs.size:=j2.pG zW
  have hDk:X.K.lookup s2.heap.objs.size=none:=by
    cases q:X.K.lookup s2.heap.objs.size with
    |none=>rfl
    |some o=>exact absurd (Heap.lt_size (I2.kIn _ _ q)) (Nat.lt_irrefl _)
  have I4:=TQ (ts:=ts) I2 B f2 hlt hC' e4.symm
  have sD:Same H2 (upd H2 s2.heap.objs.size (.lst [])):=Same.upd zW
  have lρ0:ρ0.length=(ts++dJ scope).length:=by rw[←eρ,sy,List.length_append]
  generalize eD:s2.heap.objs.size=Dd at *
  have MJ:∀{H':Hp},Same H2 H'→fL X.K O H2 (fun a=>O a∨a=Dd) H':=fun sm=>⟨(Same.eY (K:=X.K) (O:=O) sm).ext,fun a z=>z.elim .inl fun e=> .inr (by rw[e];exact⟨zW,hDk⟩),(Same.eY (K:=X.K) (O:=O) sm).dom⟩
  have Yh:∀{H':Hp} {ys:List V},Same H2 H'→H' Dd=some (.lst ys)→∀a,(O a∨a=Dd)→∃o,H' a=some o:=fun sm e a z=>z.elim (fun q=>let ⟨o,h⟩:=j2.al a q;⟨o,sm _ _ h⟩) fun q=>by rw[q];exact⟨_,e⟩
  have j4:In (bF X scope ts C s2 H2 fp) (fun a=>O a∨a=Dd) (upd H2 Dd (.lst [])) ρ0 (pull X.N (dJ scope) ts.length σ):=by
    rw[←eρ]
    exact In.go (Xy B j2.vals) ux (MJ sD) (Yh sD upd_same)
  have hv0:∀(i:Nat) e,ρ0[i]?=some (some e)→e.Ly=true:=by rw[←eρ];exact ux
  have hn0:∀i,i < ts.length→ρ0[i]?=some none:=by rw[←eρ];exact fun i h=>J6 h
  have Vm:∀b o,s2.heap.get? b=some o→h4.get? b=some o:=fun b o e=>by
    rw[←e4];exact pushCells_keeps _ _ b o (Heap.get?_push_of_some _ (Heap.get?_push_of_some _ e))
  have Yi:tn 0 h4:=T.keep _ _ _ st2 fun b _ o e=>Vm b o e
  have stat:∀{H':Hp},(∀b∈fp,H' b=none)→∀b∈fp,FpOk (bF X scope ts C s2 H2 fp) [] H' b:=fun {H'} hn b hb=>by
    have hl: @LT.lt Nat _ b Dd:=hlt b hb
    obtain⟨_,a1,a2,a3,a4,_⟩:=f2 b hb
    refine⟨hn b hb,by show @Ne Nat b C;omega,fun z=>?_,.inl hb,fun x c h=>?_,fun p hp=>absurd (show p∈([]:List (Addr×Obj)) from hp) (by simp)⟩
    · rcases List.mem_cons.mp (I2.stkSub b z) with z |z
      · exact a1 z
      · exact a2 z
    · rcases jO B I2.ok.has h with⟨_,q⟩ |⟨_,q⟩
      · show @Ne Nat c b;omega
      · exact a4 x c q
  have fr4:∀b∈fp,(upd H2 Dd (.lst [])) b=none:=fun b hb=>by
    have hl: @LT.lt Nat _ b Dd:=hlt b hb
    rw[upd_ne (show @Ne Nat b Dd by omega)];exact (f2 b hb).1
  have loop : ∀ s0:Shared,s0={s2 with heap:=h4}→codeAny (model X.prog X.w) X.A (.compLoop (.ListComp elt [⟨tg,iter,ifs,0⟩] scope pos) 0 (.ref it) (.ref Dd) (eU scope X.env C)) (compPost (model X.prog X.w) X.A X.xe use Qr (.ref Dd) C) s0:=by
    intro s0 e0
    refine codeAny_loop rfl (fun n s'=>aaJ (bF X scope ts C s2 H2 fp) X.K (fun a=>O a∨a=Dd) H2 Dd fp tn ρ0 xs (jP gt ft fe ρ0) all n s') (fun n s' hI=>?_) (xs.length+1)
      ⟨0,_,_,[],[],all,rfl,Nat.zero_le _,e0▸I4,e0▸Yi,fr4,j4,sD,upd_same,.nil,by simpa using hall,rfl⟩
    obtain⟨i,σ',H',ys,ds,rest,rfl,hil,I',st',fr',j',sm',hD',MK,hm',hr'⟩:=hI
    show wpAny (model X.prog X.w) X.A ((compTurn (.ListComp elt [⟨tg,iter,ifs,0⟩] scope pos) 0 (.ref it) (.ref Dd) (eU scope X.env C)).onRaise (fun x=>do noteFrame x (eU scope X.env C);theTreesLotGoes x)) _ _ s'
    refine wpAny_noted ?_
    rw[compTurn_list]
    have J7:=yr _ H' (MJ sm') i
    refine wpAny_bind (wpAny_standAt (wpAny_bind ?_))
    by_cases hlt':i < xs.length
    · -- a turn
      have ex:xs[i]?=some xs[i]:=by simp[hlt']
      have ed:xs.drop i=xs[i]::xs.drop (i+1):=List.drop_eq_getElem_cons hlt'
      rw[ed] at hm'
      obtain⟨o,rest',k1,k2,k3⟩:=J5 hm'
      obtain⟨Xz,jy⟩:=J7.1 _ ex
      refine wpAny_mono (T.item (bF X scope ts C s2 H2 fp) rfl rfl rfl hc i [] s' σ' H' (fun _ _=>False) I' (stat fr') st' Xz) (fun r s4 ⟨u,hr,h4'⟩=>?_) fun _ _ z=>z.elim
      subst hr
      refine wpAny_bind (wpAny_mono h4' (fun _ s5 ⟨x,H5,I5,r5,y5,st5,fr5⟩=>?_) fun _ _ z=>z.elim)
      obtain⟨qO,aaK⟩:=jy x H5 y5
      have I5':=I5.pinned (stat fr5) (T.obj _ _ st5)
      have k1:(gt xs[i] ρ0).bind (fun ρ1=>(ft ρ1).bind fun b=>if b=true then (fe ρ1).bind fun d=> .ok (some d) else .ok none)= .ok o:=k1
      cases q1:gt xs[i] ρ0 with
      |bad=>rw[q1] at k1;cases k1
      |err c=>rw[q1] at k1;cases k1
      | ok ρ1 =>
        rw[q1] at k1
        have k1:(ft ρ1).bind (fun b=>if b=true then (fe ρ1).bind fun d=> .ok (some d) else .ok none)= .ok o:=k1
        refine wpAny_bind (wpAny_mono (hg C s2 H2 fp B.nd _ s5 σ' H5 x u (fun σ6 H6=>H6=H5∧In (bF X scope ts C s2 H2 fp) (fun a=>O a∨a=Dd) H5 ρ1 σ6) I5' r5 ⟨ρ0,_,xs[i],ρ1,j'.same qO,aaK,q1,fun σ6 j6=>⟨rfl,j6⟩⟩) (fun _ s6 ⟨σ6,H6,I6,eH,j6⟩=>?_) fun _ _ z=>(show False from z).elim)
        subst eH
        cases q2:ft ρ1 with
        |bad=>rw[q2] at k1;cases k1
        |err c=>rw[q2] at k1;cases k1
        | ok bb =>
          rw[q2] at k1
          have k1:(if bb=true then (fe ρ1).bind fun d=>R.ok (some d) else .ok none)= .ok o:=k1
          have gtest:tG (bF X scope ts C s2 H2 fp) rB ft σ6 H6 (fun b H7=>b=bb∧Same H6 H7):=⟨ρ1,_,j6,by rw[q2];exact fun b H7 s7 e7=>⟨e7.symm,s7⟩⟩
          refine wpAny_bind (wpAny_mono (ht C s2 H2 fp _ s6 σ6 H6 _ I6 gtest) (fun ok s7 ⟨H7,I7,ok7,mO⟩=>?_) fun _ _ z=>(show False from z).elim)
          subst ok7
          have back:∀{H8:Hp} {s8:Shared} {ys':List V} {ds':List D},Inv (bF X scope ts C s2 H2 fp) ([]++pinsAt fp s5.heap) σ6 H8 s8→Same H2 H8→In (bF X scope ts C s2 H2 fp) (fun a=>O a∨a=Dd) H8 ρ0 σ6→H8 Dd=some (.lst ys')→aV X.K (fun a=>O a∨a=Dd) H8 ds' ys'→ds'++rest'=all→
              ∃m,m < xs.length+1 - i∧aaJ (bF X scope ts C s2 H2 fp) X.K (fun a=>O a∨a=Dd) H2 Dd fp tn ρ0 xs (jP gt ft fe ρ0) all m s8:=by
            intro H8 s8 ys' ds' I8 wF j8 GZ Ud hr8
            refine⟨xs.length+1 - (i+1),by omega,i+1,σ6,H8,ys',ds',rest',rfl,by omega,I8.unpinned,T.keep _ _ _ st5 fun b hb o e=>(I8.pin (b,o) (List.mem_append_right _ (List.mem_append_right _ (mem_pinsAt hb e)))).1,fun b hb=>?_,j8,wF,GZ,Ud,k2,hr8⟩
            obtain⟨o,e,d⟩:=T.obj _ _ st5 b hb
            exact (I8.pin (b,o) (List.mem_append_right _ (List.mem_append_right _ (mem_pinsAt hb e)))).2.1
          have Yj:In (bF X scope ts C s2 H2 fp) (fun a=>O a∨a=Dd) H6 ρ0 σ6:=In.back (n:=ts.length) j6 hn0 (fun k hk'=>hk _ _ _ q1 k hk') lρ0
          cases ok with
          | false=>
            have k1:R.ok none=R.ok o:=k1
            cases k1
            refine wpAny_pure ⟨rfl,?_⟩
            refine back I7 (sm'.trans (qO.trans mO)) (Yj.same mO) (mO _ _ (qO _ _ hD')) (MK.same (qO.trans mO)) ?_
            rw[←hr',k3];rfl
          | true =>
            have k1:(fe ρ1).bind (fun d=>R.ok (some d))= .ok o:=k1
            cases q3:fe ρ1 with
            |bad=>rw[q3] at k1;cases k1
            |err c=>rw[q3] at k1;cases k1
            | ok d =>
              rw[q3] at k1
              have k1:R.ok (some d)=R.ok o:=k1
              cases k1
              have aaL:tG (bF X scope ts C s2 H2 fp) (rD (bF X scope ts C s2 H2 fp)) fe σ6 H7 (fun v H8=>Same H7 H8∧Rep X.K (fun a=>O a∨a=Dd) H8 d v):=⟨ρ1,_,j6.same mO,by rw[q3];exact fun v H8 s8 r8=>⟨s8,r8⟩⟩
              refine wpAny_bind (wpAny_bind (wpAny_mono (he C s2 H2 fp _ s7 σ6 H7 _ I7 aaL) (fun xv s8 ⟨v8,H8,I8,r8,wF,aaM⟩=>?_) fun _ _ z=>(show False from z).elim))
              have GZ:H8 Dd=some (.lst ys):=wF _ _ (mO _ _ (qO _ _ hD'))
              have Ud:aV X.K (fun a=>O a∨a=Dd) H8 ds ys:=MK.same (qO.trans (mO.trans wF))
              have hds:ds++d::rest'=all:=by rw[←hr',k3];rfl
              have hyl:ys.length < sizeLine:=by
                have:=kI
                have e1:=Ud.length
                have e2:=congrArg List.length hds
                rw[List.length_append,List.length_cons] at e2
                omega
              refine wpAny_bind (wpAny_mono (mt_append (X:=bF X scope ts C s2 H2 fp) _ s8 σ6 H8 (.ref Dd) [v8] (.ref Dd) [xv] (fun _ H9=>H9=upd H8 Dd (.lst (ys++[v8]))) I8 rfl (.cons r8 .nil) ⟨_,ys,v8,rfl,rfl,GZ,hyl,rfl⟩) (fun _ s9 ⟨_,H9,I9,_,eH9⟩=>?_) fun _ _ z=>(show False from z).elim)
              subst eH9
              have aaN:Same H2 H8:=sm'.trans (qO.trans (mO.trans wF))
              have MN:fL X.K (fun a=>O a∨a=Dd) H8 (fun a=>O a∨a=Dd) (upd H8 Dd (.lst (ys++[v8]))):=by
                refine⟨⟨fun b zs h=>?_,fun b zs n h=>?_⟩,fun a z=> .inl z,fun a z=>?_⟩
                · have nb:b≠Dd:=fun e=>by
                    rw[e] at h
                    rcases h with h |⟨o,h⟩ <;> rw[GZ] at h <;> cases h
                  rcases h with h |⟨o,h⟩
                  · exact .inl (by rw[upd_ne nb];exact h)
                  · exact .inr ⟨o,by rw[upd_ne nb];exact h⟩
                · have nb:b≠Dd:=fun e=>n (.inr e)
                  rcases h with h |⟨o,h⟩
                  · exact .inl (by rw[upd_ne nb];exact h)
                  · exact .inr ⟨o,by rw[upd_ne nb];exact h⟩
                · by_cases ea:a=Dd
                  · rw[ea,upd_same] at z;cases z
                  · rw[upd_ne ea] at z;exact z
              have Yk:Same H2 (upd H8 Dd (.lst (ys++[v8]))):=fun b o e=>by
                rw[upd_ne (ne_of_none e zW)];exact aaN _ _ e
              refine wpAny_pure (wpAny_pure ⟨rfl,?_⟩)
              refine back I9 Yk (In.go (Yj.same (mO.trans wF)) hv0 MN (Yh Yk upd_same)) upd_same ((Ud.append (.cons aaM .nil)).go MN) ?_
              rw[List.append_assoc];exact hds
    · -- the end
      have ei:i=xs.length:=by omega
      subst ei
      have hrest:rest=[]:=by
        have hm':ig (jP gt ft fe ρ0) (xs.drop xs.length)= .ok rest:=hm'
        rw[List.drop_length] at hm'
        cases hm';rfl
      subst hrest
      rw[List.append_nil] at hr'
      subst hr'
      refine wpAny_mono (T.done (bF X scope ts C s2 H2 fp) rfl rfl rfl hc _ [] s' σ' H' (fun _ _=>False) I' (stat fr') st' (J7.2 (Nat.le_refl _))) (fun r s5 ⟨hr,I5⟩=>?_) fun _ _ z=>z.elim
      subst hr
      refine wpAny_pure ?_
      obtain⟨m,hns,_⟩:=I5.loc
      have hCn:H' C=none:=I5.free
      have I6:Inv X pins σ H' s5:=by
        refine I2.call' (s':=s5) (ch:=fp) I5.os ⟨fun b o e n hb hx=>I5.base.keep b o e n hb hx,fun b o e n hb hx=>I5.base.slot b o e n hb hx,I5.base.free,fun b o e hx=>I5.base.there b o e hx,I5.base.tups,I5.base.frzs,I5.base.tbls⟩ (fun b u e=>I5.hok b u e) I5.bare fun b hb=>⟨(f2 b hb).2.2.2.1,(f2 b hb).2.1,(f2 b hb).2.2.2.2.1,(f2 b hb).2.2.2.2.2⟩
      exact hQ (.ref Dd) H' s5 C m _ (.ref Dd) (g3 _ _ sm' (je (SqL.of hD') hOn (MK.fewer fun a z=> .inl z))) I6 hns (I2.fpOk (show @LE.le Nat _ _ C by omega) hCn) rfl
  exact codeAny_compStart_list (loop _ rfl) (T.self _ 0 _ _ _ Yi (loop _ rfl))
theorem cu {tg iter elt:Expr} {ifs:List Expr} {scope:Scope} {pos:Pos} {fi:aq→R (List D)} {gt:D→aq→R aq} {ft:aq→R Bool} {fe:aq→R D} (ts:List Str) (caps:List Nat)
    (hc:X.calm=true) (hb:uQ X.env.scope scope ts X.N=true) (hcap:(dJ scope).map (fun x=>kW x X.N)=caps)
    (hi:DI X tg iter fi) (hk:lB ts.length gt) (hg:∀C s H ex,(bF X scope ts C s H ex).N.Nodup→DG (bF X scope ts C s H ex) tg gt) (ht:∀C s H ex,Dn (bF X scope ts C s H ex) ifs ft) (he:∀C s H ex,DE (bF X scope ts C s H ex) elt fe)
    (hs:∀x,foldedSetIterable iter X.env x=pure x:=by intro _;rfl):
    DE X (.ListComp elt [⟨tg,iter,ifs,0⟩] scope pos) (bB ts.length caps fi gt ft fe):=by
  intro pins s σ H Q I h
  obtain⟨ρ,O,j,h⟩:=h
  rw[eval_ListComp]
  exact MF ts caps hc hb hcap hi hk hg ht he hs (use:=none) (Qr:=EP X pins σ Q) I j (fun v H' s5 C m f acc hv I6 hns fp rv=>⟨m,hns,fun h' sb=>⟨v,H',I6.fp fp sb,rv,hv⟩⟩) h
theorem Ue (i:Nat) {x:Str} {pos' cpos pos:Pos} {tg iter elt:Expr} {ifs:List Expr} {scope:Scope} {fi:aq→R (List D)} {gt:D→aq→R aq} {ft:aq→R Bool} {fe:aq→R D} (hN:X.N.Nodup) (ts:List Str) (caps:List Nat)
    (hc:X.calm=true) (hb:uQ X.env.scope scope ts X.N=true) (hcap:(dJ scope).map (fun x=>kW x X.N)=caps)
    (hi:DI X tg iter fi) (hk:lB ts.length gt) (hg:∀C s H ex,(bF X scope ts C s H ex).N.Nodup→DG (bF X scope ts C s H ex) tg gt) (ht:∀C s H ex,Dn (bF X scope ts C s H ex) ifs ft) (he:∀C s H ex,DE (bF X scope ts C s H ex) elt fe)
    (hix:X.N[i]?=some x:=by rfl) (hx:Loc X.env.scope x:=by first |exact Or.inl rfl |exact Or.inr rfl) (hf:X.fn x=true∨X.env.scope.names.lookup x=some .local:=by first |exact .inl rfl |exact .inr rfl)
    (hsw:swapsWith (.ListComp elt [⟨tg,iter,ifs,0⟩] scope cpos) (some (.Name x pos')) pos.line X.env=pure true:=by rfl)
    (hs:∀x,foldedSetIterable iter X.env x=pure x:=by intro _;rfl):
    DS X (.Assign [.Name x pos'] (.ListComp elt [⟨tg,iter,ifs,0⟩] scope cpos) pos) (bJ (bB ts.length caps fi gt ft fe) (aG i)):=by
  intro pins s σ H E I h
  obtain⟨H0,O0,O,ρ,j,h⟩:=h
  rw[exec_Assign_Name_used _ _ _ _ hsw]
  refine wpAny_bind (wpAny_standAt (wpAny_bind ?_))
  show wpAny _ _ (comprehension (.ListComp elt [⟨tg,iter,ifs,0⟩] scope cpos) scope X.env _ (newList []) false (eval iter X.env) (some (assign (.Name x pos') X.env)) >>=fun _=>pure ()) _ _ _
  unfold bJ jc at h
  refine wpAny_bind (MF (Q:=fun v H'=>∃d,bB ts.length caps fi gt ft fe ρ= .ok d∧Same H H'∧Rep X.K O H' d v) (Qr:=fun _ s'=>wpAny (model X.prog X.w) X.A (pure ()) (fun _ s1=>wpAny (model X.prog X.w) X.A (pure Flow.next) (SP X pins E) X.xe s1) X.xe s') ts caps hc hb hcap hi hk hg ht he hs I j.inn ?_ ?_)
  · intro v H' s5 C m f acc hq I5 hns fC rel
    obtain⟨d,ed,sm,rd⟩:=hq
    rw[ed] at h
    have h:uy X H0 O0 O H E (.nx (ρ.set i (some (.val d)))):=h
    obtain⟨o,es,ep,ho,hd,hr⟩:=hns
    have Ip:=I5.pinned (fp:=[C]) (fun b hb=>by rw[List.mem_singleton.mp hb];exact fC) (fun b hb=>by rw[List.mem_singleton.mp hb];exact⟨o,ho,fun v z=>by rw[hd] at z;cases z⟩)
    show wpAny (model X.prog X.w) X.A (assign (.Name x pos') X.env acc) _ X.xe s5
    refine wpAny_mono (pg_name hN hix hx hf _ s5 σ H' v acc (fun σ' wG=>σ'=σ.set i (some v)∧wG=H') Ip rel ⟨rfl,rfl⟩) (fun _ s6 ⟨σ',wG,I',e1,e2⟩=>?_) fun _ _ z=>z
    subst e1 e2
    have pn:=(I'.pin (C,o) (List.mem_append_right _ (List.mem_append_right _ (mem_pinsAt (List.mem_singleton.mpr rfl) ho)))).1
    refine⟨m,⟨o,es,ep,pn,hd,hr⟩,fun h' sb=>wpAny_pure (wpAny_pure ⟨_,wG,(I'.unpinned).fp fC sb,h _ wG O ((j.grow sm).set (List.getElem?_eq_some_iff.mp hix).1 rd) (Same.eY sm)⟩)⟩
  · cases e1:bB ts.length caps fi gt ft fe ρ with
    |bad=>rw[e1] at h;exact h
    |err c=>rw[e1] at h;exact h σ H O j
    |ok d=>exact fun v H' sm r=>⟨d,rfl,sm,r⟩
end
end Pu
namespace Pu
open PySem PySem.Spec L2
open PyProof.Rows hiding St
noncomputable def afb:List D→R (List D)
  |[.lst ds]=> .ok ds.reverse
  |_=> .bad
noncomputable def mulL:D→D→R D
  | .lst ds,.int k=>if ds≠[]∧1≤k∧k < 2 ^ 63∧ds.length*k.toNat≤1000000 then .ok (.lst (List.replicate k.toNat ds).flatten) else .bad
  |x,y=>xV x y
section
variable {ρ ρ1:aq} {fa:aq→R (List D)} {F:List D→R D} {ds:List D} {n:Nat} {d:D} {c:Str} {f:aq→R D} {gt:D→aq→R aq} {p:aq→R Bool} {s t:aq→So} {o:So}
end
end Pu
namespace Pu
open PySem PySem.Spec L2
open PyProof.Rows hiding St
section
variable {M:Model} {A:Around} {E:Value→Shared→Prop} {s:Shared}
end
section
variable {P:Program} {w:World} {fs fs':List Addr} {H H' H0:Hp} {s s' s0:Shared} {a C:Addr} {T:Option Addr} {h':Heap} {t':Addr}
end
end Pu
namespace Pu
open PySem PySem.Spec L2
open PyProof.Rows hiding St
section
variable {P:Program} {w:World} {K:PySem.W.Frag} {mg:Str→Option Value} {base:Heap}
end
section
variable {X:Cx} {k n m:Nat} {F:List D→R D} {x:Str} {p pos:Pos} {e:Expr} {es:List Expr} {fa:aq→R (List D)}
end
end Pu
namespace Pu
open PySem PySem.Spec L2
open PyProof.Rows hiding St
section
variable {X:Cx} {c:Str} {C:Addr} {np cpos pos:Pos} {e:Expr} {fa:aq→R (List D)}
end
section
variable {X:Cx} {pins:List (Addr×Obj)} {σ:St} {H:Hp} {s:Shared}
end
section
variable {X:Cx} {pins:List (Addr×Obj)} {σ:St} {H:Hp} {s:Shared} {E:Value→Shared→Prop}
end
section
variable {X:Cx} {t n:Str} {CT:Addr} {np hpos pos:Pos} {body suite:List Stmt} {b₀:Stmt} {g h:aq→So} {sub:Str→Str→Bool}
end
section
variable {prog:Program} {w:World} {A:Around} {E:Value→Shared→Prop} {s:Shared} {K:PySem.W.Frag} {x C:Addr} {ox:Obj} {od:Option Obj}
end
section
variable {X:Cx} {sub:Str→Str→Bool}
end
end Pu
namespace Pu
open PySem PySem.Spec L2
open PyProof.Rows hiding St
section
variable {X:Cx} {tg a:Expr} {p pos:Pos} {fa:aq→R (List D)}
end
section
variable {X:Cx}
theorem ab3:OpR X (binaryOp .Mult) (fun x y H Q=>∃a k xs,x= .ref a∧y= .int k∧SqL X.K H a xs∧1≤k∧k < 2 ^ 63∧xs.length*k.toNat≤1000000∧∀p,H p=none→Q (.ref p) (upd H p (.lst (List.replicate k.toNat xs).flatten))):=by
  intro pins s σ H x y v u Q I rx ry h
  obtain⟨a,k,xs,rfl,rfl,hq,h1,h2,hz,q⟩:=h
  cases rx
  obtain⟨t,rfl⟩:=ry
  obtain⟨its,r,p1,_⟩:=I.list hq
  obtain⟨⟨cls,dd,data,sl⟩,ho,hc,n,hd⟩:=id p1.isList
  simp only at hc hd
  subst hc hd
  have hlen:=r.length
  have hz':its.toArray.size*k.toNat≤1000000:=by rw[List.size_toArray,←hlen];exact hz
  have hz2:its.length*k.toNat≤1000000:=by rw[←hlen];exact hz
  refine wpAny_binaryOp_repeat_ref (T:= "list") (U:= "int") (by decide) ⟨_,ho,rfl⟩ (fun s'=>typeIs_int s' k t) noFill_list_mul F.fills_int_mul F.slot_int_rmul repeat_list F.slot_int_index.lookup
    (call_meets F.slot_int_rmul (typeIs_int s k t) F.entry_int_rmul (F.args_int_rmul_2 _ _) (lm_int_rmul_list_any k t a its.toArray n dd sl) ⟨ho,rfl,⟨_,ho,rfl⟩,?_⟩)
  refine call_meets F.slot_list_mul ⟨_,ho,rfl⟩ F.entry_list_mul (F.args_list_mul_2 _ _) (lm_list_mul_any a its.toArray n dd sl k t (by simp[Builtin.List.listFitsIndex];omega) (by omega) (by simp[Builtin.List.listTooLong,sizeLine];omega)) ⟨ho,?_⟩
  rw[listMul_foldl_if]
  refine⟨.ref s.heap.objs.size,_,I.laid (t':=s.toks) (o:= .lst (List.replicate k.toNat xs).flatten) (fun b ob z=>Heap.get?_push_of_some _ z) (Nat.le_refl _) ?_,rfl,q _ (I.hok.fresh (Nat.le_refl _))⟩
  exact⟨by rw[len_rep,Nat.mul_comm];exact Nat.le_trans hz eE,_,_,r.rep k.toNat,Heap.get?_push_size _ rfl⟩
theorem ab4:jC X (binaryOp .Mult) mulL:=by
  obtain⟨r0,o0,c0⟩:=pO (X:=X)
  refine⟨_,OpR.or o0 ab3,fun ρ O σ H Q x y dx dy j0 rx ry h=>?_⟩
  cases dx with
  | lst ds=>
    cases dy with
    | int k=>
      have h:good X (rD X) O (if ds≠[]∧1≤k∧k < 2 ^ 63∧ds.length*k.toNat≤1000000 then .ok (.lst (List.replicate k.toNat ds).flatten) else .bad) σ H Q:=h
      by_cases hc:ds≠[]∧1≤k∧k < 2 ^ 63∧ds.length*k.toNat≤1000000
      · rw[if_pos hc] at h
        obtain⟨a,us,rfl,ha,hn,r1⟩:=rx.lst
        obtain⟨h0,h1,h2,h3⟩:=hc
        exact .inr ⟨a,k,us,rfl,ry.int,ha,h1,h2,by rw[←r1.length];exact h3,fun l hl=>h _ _ (Same.upd hl) (Rep.nO hl (j0.pG hl) (xU r1 _))⟩
      · rw[if_neg hc] at h;exact h.elim
    |_=>exact h.elim
  |_=>exact .inl (c0 ρ O σ H Q x y _ _ j0 rx ry h)
end
end Pu
namespace Pu
open PySem PySem.Spec L2
open PyProof.Rows hiding St
noncomputable def Tb (ts:List (Addr×Str)) (H:Hp):Prop:=∀p∈ts,∃(ps:Array Value) (tq:Tok),H p.1=some (.tbl ps)∧ps[0]?=some (.str p.2 tq)
noncomputable def spT (ts:List (Addr×Str)) (K:PySem.W.Frag) (n:Nat) (F:List D→R D):Sp:=fun vs H Q E=>Tb ts H∧J9 K n F vs H Q E
section
variable {P:Program} {w:World} {K:PySem.W.Frag} {mg:Str→Option Value} {base:Heap}
end
section
variable {X:Cx} {k m n:Nat} {fd:FuncData} {ps ks:List Str} {F:List D→R D} {x:Str} {p pos:Pos} {e:Expr} {es:List Expr} {kws:List Keyword} {fa fk:aq→R (List D)} {ts:List (Addr×Str)}
end
end Pu
namespace Pu
open PySem PySem.Spec L2
open PyProof.Rows hiding St
structure Vn (base:Heap) (mg:Str→Option Value) (c P:Addr):Prop where
  code:PySem.W.CodeHd base c P
  blt:∃bm ob,mg "__builtins__" =some (.ref bm)∧bm≠builtinsNs∧base.get? bm=some ob∧ob.cls= .type "module"∧ob.dict=some builtinsNs∧ob.data= .plain
section
variable {X:Cx} {pins:List (Addr×Obj)} {σ:St} {H:Hp} {s:Shared}
end
section
variable {X:Cx} {k m n:Nat} {G:List D→R D} {x:Str} {p pos:Pos} {e:Expr} {es:List Expr} {fa:aq→R (List D)} {a:Addr}
end
section
variable {P:Program} {w:World} {K:PySem.W.Frag} {mg:Str→Option Value} {base:Heap}
end
end Pu
namespace Pu
open PySem PySem.Spec L2
open PyProof.Rows hiding St
section
variable {P:Program} {w:World} {H:Hp} {h:Heap} {c:Addr} {co:Obj} {u:Option Value}
end
section
variable {M:Model} {A:Around} {E:Value→Shared→Prop} {s:Shared}
end
section
variable (P:Program) (w:World) (K:PySem.W.Frag) (mg:Str→Option Value) (base:Heap) (N:List Str) (qual:Str) (scope:Scope) (f:Addr) (cd:Value) (A:Around) (outer:List PySem.Env) (s:Shared) (H:Hp) (y:Str) (c:Addr)
end
section
variable {P:Program} {w:World} {K:PySem.W.Frag} {mg:Str→Option Value} {base:Heap}
end
end Pu
namespace Pu
open PySem PySem.Spec L2
open PyProof.Rows hiding St
section
variable {X:Cx} {name qual:Str} {params:Arguments} {body:List Stmt} {scope:Scope} {y xS:Str} {c fS:Addr} {fdS:FuncData} {psS:List Str} {kS kG n q iy:Nat} {FS:Addr→(List D→R D)→List D→R D} {GG:Int→List D→R D} {p pos:Pos} {e:Expr} {es:List Expr} {ta:TA}
end
open Classical in
section
variable {X:Cx} {name qual:Str} {params:Arguments} {body:List Stmt} {scope:Scope} {y xS:Str} {c cc P fS:Addr} {fdS:FuncData} {psS:List Str} {kS kG q:Nat} {FS:Addr→(List D→R D)→List D→R D} {GG:Int→List D→R D} {p p4 pos pos2 aeZ:Pos} {e1 e2 e3:Expr} {f1 f2 f3:aq→R D}
end
end Pu
namespace Pu
open PySem PySem.Spec L2
open PyProof.Rows hiding St
noncomputable def nU (a:Addr) (o:Option HO) (T:Addr) (q:Str):Hp:=fun b=>if b=T then some (.tbl #[.str q 0]) else if b=a then o else none
theorem Yl {P:Program} {w:World} {K:PySem.W.Frag} {mg mb:Str→Option Value} {k:Nat} {fa a c T:Addr} {q:Str} {fd:FuncData} {x:Str} {sp:Sp} {s₁:Shared} {vs:List Value} {ns:List Int}
    (KX:K.In s₁.heap) (hns:s₁.heap.Ns mainGlobals mg) (hb:s₁.heap.Ns builtinsNs mb) (hbb:∀x:Str,x≠"__name__"→mb x=bootBuiltins x) (hlim:s₁.heap.NoLimit) (hg:s₁.gens= #[])
    (ha:s₁.heap.get? a=some {cls:= .type "list",data:= .seq vs.toArray}) (hi:IntsAre vs ns) (hl:ns.length≤sizeLine) (hr:Room k callerA)
    (hC:PySem.W.CodeHd s₁.heap c T) (hT:s₁.heap.get? T=some (PySem.W.tabObj #[])) (hnt:PySem.W.noTabs K=true)
    (hbm:∃bm ob,mg "__builtins__" =some (.ref bm)∧bm≠builtinsNs∧s₁.heap.get? bm=some ob∧ob.cls= .type "module"∧ob.dict=some builtinsNs∧ob.data= .plain)
    (F:∀base:Heap,K.In base→base.Ns mainGlobals mg→Vn base mg c T→FnOk P w K mg base CX0 k fa fd [x] sp) (hbind:∀(s:Shared) (u:Value),BindsTo s fd ⟨[u],[]⟩ [(x,u)])
    (hsp:∀H:Hp,Tb [(T,q)] H→SqL K H a (ns.map V.int)→sp [.ref a] H (fun v _=>v= .bl true) fun _ _ _=>False):
    codeAny (model P w) callerA (.call (.ref fa) ⟨[.ref a],[]⟩) (fun r s'=>r= .ok (.ret (.bool true))∧OldK s₁.heap s'.heap∧s'.os=s₁.os∧AllBare s'.gens) s₁:=by
  have rv:=vals_ints hi
  have lenV:=hi.length
  have aT:a≠T:=fun z=>by rw[z,hT] at ha;cases ha
  have core : ∀o:Option HO,(o=none∨o=some (.frz {cls:= .type "list",data:= .seq vs.toArray} (.lst (ns.map V.int))))→SqL K (nU a o T q) a (ns.map V.int)→(o≠none→K.lookup a=none)→
      codeAny (model P w) callerA (.call (.ref fa) ⟨[.ref a],[]⟩) (fun r s'=>r= .ok (.ret (.bool true))∧OldK s₁.heap s'.heap∧s'.os=s₁.os∧AllBare s'.gens) s₁:=by
    intro o ho hS hK
    have hH:∀b u,nU a o T q b=some u→(b=T∧u= .tbl #[.str q 0])∨(b=a∧u= .frz {cls:= .type "list",data:= .seq vs.toArray} (.lst (ns.map V.int))∧o≠none):=fun b u z=>by
      unfold nU at z
      by_cases h1:b=T
      · rw[if_pos h1] at z;cases z;exact .inl ⟨h1,rfl⟩
      · rw[if_neg h1] at z
        by_cases h2:b=a
        · rw[if_pos h2] at z
          rcases ho with ho |ho
          · rw[ho] at z;cases z
          · rw[ho] at z;cases z;exact .inr ⟨h2,rfl,by rw[ho];simp⟩
        · rw[if_neg h2] at z;cases z
    have hok:HOk P w (nU a o T q) s₁.heap:=fun b u z=>by
      rcases hH b u z with⟨rfl,rfl⟩ |⟨rfl,rfl,_⟩
      · exact⟨#[],hT,trivial,fun p cv y=>by cases y⟩
      · exact⟨ha,by rw[List.length_map];exact hl,vs,_,rv,ha⟩
    have tb:Tb [(T,q)] (nU a o T q):=fun p hp=>by
      have e:p=(T,q):=by simpa using hp
      subst e
      exact⟨#[.str q 0],0,if_pos rfl,rfl⟩
    have base_of:∀{b:Addr} {u:Obj},s₁.heap.get? b=some u→nU a o T q b=none→(hidT s₁.heap (nU a o T q)).get? b=some u:=fun e n=>hidT_get e n
    have free:∀{b:Addr} {u:Obj},s₁.heap.get? b=some u→u.cls≠.type "list"→u.cls≠.none→nU a o T q b=none:=fun {b u} e n1 n2=>by
      cases z:nU a o T q b with
      |none=>rfl
      | some y=>
        rcases hH b y z with⟨rfl,_⟩ |⟨rfl,_,_⟩
        · rw[hT] at e;cases e;exact absurd rfl n2
        · rw[ha] at e;cases e;exact absurd rfl n1
    have aeK:∀{b:Addr} {u:Obj} {es:Array DictEntry} {ep:Nat},s₁.heap.get? b=some u→u.data= .dict es ep→nU a o T q b=none:=fun {b u es ep} e d=>by
      cases z:nU a o T q b with
      |none=>rfl
      | some y=>
        rcases hH b y z with⟨rfl,_⟩ |⟨rfl,_,_⟩
        · rw[hT] at e;cases e;cases d
        · rw[ha] at e;cases e;cases d
    have nsK:∀{b:Addr} {m:Str→Option Value},s₁.heap.Ns b m→(hidT s₁.heap (nU a o T q)).Ns b m:=fun {b m} ⟨u,es,ep,e,d,r⟩=>⟨u,es,ep,base_of e (aeK e d),d,r⟩
    have hKb:K.In (hidT s₁.heap (nU a o T q)):=fun b u e=>base_of (KX b u e) (by
      cases z:nU a o T q b with
      |none=>rfl
      | some y=>
        rcases hH b y z with⟨rfl,_⟩ |⟨rfl,_,no⟩
        · have e1:=KX b u e
          rw[hT] at e1;cases e1
          have h2:=List.all_eq_true.mp hnt (b,PySem.W.tabObj #[]) (PySem.W.mem_of_lookupK e)
          exact absurd (show false=true from h2) Bool.false_ne_true
        · rw[hK no] at e;cases e)
    have hM:Mod K mg (hidT s₁.heap (nU a o T q)):=⟨hKb,nsK hns,⟨mb,nsK hb,hbb⟩,let ⟨mc,h1,h2⟩:=hlim;⟨mc,nsK h1,h2⟩⟩
    have nb:Vn (hidT s₁.heap (nU a o T q)) mg c T:=by
      refine⟨?_,?_⟩
      · obtain⟨oc,v,file,tf,flags,tg,inF,text,tt,e1,e2,r⟩:=hC
        exact⟨oc,v,file,tf,flags,tg,inF,text,tt,base_of e1 (free e1 (by rw[e2];nofun) (by rw[e2];nofun)),e2,r⟩
      · obtain⟨bm,ob,b1,b2,b3,b4,r⟩:=hbm
        exact⟨bm,ob,b1,b2,base_of b3 (free b3 (by rw[b4];nofun) (by rw[b4];nofun)),b4,r⟩
    have e0:Env0 P w K mg (hidT s₁.heap (nU a o T q)) callerA [] s₁ (nU a o T q):=⟨rfl,hM,fun b o e=>of_hidT e,Nat.le_of_eq (hidT_size _ _),trivial,fun b hb=>absurd (show b∈([]:List Addr) from hb) (by simp),hok,.of_eq hg⟩
    refine codeAny_mono ((F _ hKb (nsK hns) nb).run callerA [] s₁ (nU a o T q) ⟨[.ref a],[]⟩ [.ref a] [.ref a] _ _ hr e0 (hbind s₁ (.ref a)) (.cons rfl .nil) (hsp _ tb hS)) fun r s' h=>?_
    cases r with
    |error e=>exact h.elim
    | ok fl =>
      cases fl with
      |next=>exact False.elim h
      |brk=>exact False.elim h
      |cont=>exact False.elim h
      | ret u =>
        obtain⟨v,H',os,bare,un,hok',r',z⟩:=h
        have z:v= .bl true:=z
        subst z
        obtain rfl:u=Value.bool true:=r'
        have each:∀b o,s₁.heap.get? b=some o→s'.heap.get? b=some o∨(b=T∧o=PySem.W.tabObj #[]∧∃qs,s'.heap.get? b=some (PySem.W.tabObj qs)):=fun b ob e=>by
          cases z:nU a o T q b with
          |none=>exact .inl (un.keep b ob e z (by intro y;exact absurd (show b∈([]:List Addr) from y) (by simp)) (by simp))
          | some y=>
            rcases hH b y z with⟨rfl,rfl⟩ |⟨rfl,rfl,_⟩
            · obtain⟨more,z2⟩:=un.tbls _ _ z
              obtain⟨qs,e2,_⟩:=hok' _ _ z2
              rw[hT] at e;cases e
              exact .inr ⟨rfl,rfl,qs,e2⟩
            · have z2:=un.frzs _ _ _ z
              obtain⟨e1,_⟩:=hok _ _ z
              obtain⟨e2,_⟩:=hok' _ _ z2
              rw[e] at e1;cases e1
              exact .inl e2
        refine⟨rfl,⟨fun b ob e=>?_,fun b ob e=>?_⟩,os,bare⟩
        · rcases each b ob e with z |⟨rfl,rfl,qs,z⟩
          · exact .inl z
          · exact .inr (.inl ⟨(hC.tab hT).isCodeTable,rfl,#[],qs,rfl,by rw[Array.empty_append];exact z⟩)
        · rcases each b ob e with z |⟨rfl,rfl,qs,z⟩
          · exact⟨_,z⟩
          · exact⟨_,z⟩
  cases hk:K.lookup a with
  | some o=>
    have e:=KX a o hk
    rw[ha] at e
    cases e
    exact core none (.inl rfl) (.inr ⟨_,vs.toArray,_,hk,rfl,rfl,rfl,by rw[List.size_toArray,lenV];exact hl,by simpa using rv⟩) fun z=>absurd rfl z
  |none=>exact core _ (.inr rfl) (.inl (.inr ⟨_,(if_neg aT).trans (if_pos rfl)⟩)) fun _=>hk
noncomputable def Ym (K:PySem.W.Frag) (mg:Str→Option Value) (x:Str) (c:Addr):Prop:=∀f oc od fd osl,mg x=some (.ref f)→K.lookup f=some ⟨oc,od,.func fd,osl⟩→fd.code= .ref c
theorem ae5 {l:PySem.W.OpenLaw} {n k:Nat} {p:Program} {loose:List Str} {XP:(Str→Option Value)→Heap→Prop} {YP:World→Heap→Prop} {d:DefRec} {K:Params→PySem.W.Frag} {x y q:Str} {FL:List D→R D}
    (hn:l.most=some n) (hn2:n≤sizeLine) (hdf:d.params.defaults=[]) (hr:Room k callerA)
    (hY:∀(w:World) (h:Heap),YP w h→(K w.params).In h) (hnt:∀w:World,PySem.W.noTabs (K w.params)=true) (hrec:∃dy∈recsOf p,dy.name=y)
    (F:∀(w:World) (mg:Str→Option Value) (fa:Addr) (h:Heap),(K w.params).In h→h.Ns mainGlobals mg→mg d.name=some (.ref fa)→
      ∃ fd:FuncData,(∀(s:Shared) (u:Value),BindsTo s fd ⟨[u],[]⟩ [(x,u)])∧
        ∀(base:Heap) (c T:Addr),(K w.params).In base→base.Ns mainGlobals mg→Vn base mg c T→Ym (K w.params) mg y c→FnOk l.prog w (K w.params) mg base CX0 k fa fd [x] (spT [(T,q)] (K w.params) 1 FL))
    (hL:∀ns:List Int,ns.length≤n→FL [.lst (ns.map D.int)]= .ok (.bl true)):
    PySem.W.WalkO p loose XP YP l.row.toRowW d [] (fun f vs=>PySem.call f vs):=by
  refine Att.attach_call hn hdf fun w s₀ s₁ mg mb fa o pm cd doc a vs ns G Y ho hd hcd hmg hobj hints hlen hg=>?_
  have KX:=hY w _ Y
  obtain⟨fd,hb,hF⟩:=F w mg fa _ KX G.T.g hmg
  obtain⟨dy,XH,rfl⟩:=hrec
  obtain⟨f',o',fd',c,T,t1,t2,t3,t4,t5,t6⟩:=G.T.tab dy XH
  have hci:Ym (K w.params) mg dy.name c:=fun f oc od fd2 osl e1 e2=>by
    rw[t1] at e1;cases e1
    have e3:=KX _ _ e2
    rw[t2] at e3;cases e3
    cases t3
    exact t4
  exact Yl (q:=q) KX G.T.g G.T.b G.T.builtins G.T.nolimit hg hobj hints (Nat.le_trans hlen hn2) hr (PySem.W.CodeHd.of t5 t6) t6.2 (hnt w) G.T.bmain (fun base h1 h2 h3=>hF base c T h1 h2 h3 hci) hb fun H tb hS=>⟨tb,sp_law hS (hL ns hlen)⟩
end Pu
namespace Pu
open PySem PySem.Spec L2
open PyProof.Rows hiding St
section
variable {X:Cx} {e lo hi:Expr} {f g:aq→R D} {fl fu:aq→R (Option Int)} {pos p2 p3 p4:Pos}
noncomputable def ab5 (d:D) (lo hi:Option Int):R D:=match d with
  | .lst ds=> .ok (.lst (mC ds lo hi))
  |_=> .bad
noncomputable def wH (f:aq→R D) (fl fu:aq→R (Option Int)):aq→R D:=fun ρ=>(f ρ).bind fun d=>(fl ρ).bind fun l=>(fu ρ).bind fun u=>ab5 d l u
theorem Kf {lo hi:Option Expr} (he:DE X e f) (hl:T8 X lo fl) (hu:T8 X hi fu):DE X (.Subscript e (.Slice lo hi none p2) pos) (wH f fl fu):=by
  refine PE.imp (pe_slice sl_list he hl hu) fun σ H Q h=>?_
  obtain⟨ρ,O,j,h⟩:=h
  refine go j h fun d v H1 e1 s1 r1 j1 h1=>?_
  refine go j1 h1 fun l l' H2 e2 s2 r2 j2 h2=>?_
  refine go j2 h2 fun u u' H3 e3 s3 r3 j3 h3=>?_
  have r2:l=l':=r2
  have r3:u=u':=r3
  subst r2 r3
  cases d with
  | lst ds=>
    have r1':=(r1.same s2).same s3
    obtain⟨a,xs,rfl,hq,hn,rs⟩:=r1'.lst
    have hlen:=rs.length
    refine⟨a,xs,rfl,hq,fun p hp=>?_⟩
    refine h3 _ _ (Same.upd hp) (Rep.nO hp (j3.pG hp) ?_)
    unfold mC cutV
    rw[hlen]
    exact (rs.drop _).take _
  |_=>exact h3.elim
noncomputable def Ug (i:Nat) (f:aq→R D):aq→R D:=fun ρ=>match ρ[i]? with
  |some (some (.lst ds))=>(f ρ).bind fun d=>bQ (.lst ds) d
  |_=> .bad
theorem Yn (i:Nat) {x:Str} {px:Pos} (hb:DE X e f) (hs:PlainIx e:=by exact fun _ _=>rfl) (hN:X.N[i]?=some x:=by rfl) (hv:Vis X.env.scope x:=by first |exact Or.inl rfl |exact Or.inr (Or.inl rfl) |exact Or.inr (Or.inr rfl))
    (hd:(x ==("__debug__" :Str))=false:=by decide) (hcd:(x ==("__classdict__" :Str))=false:=by decide):DE X (.Subscript (.Name x px) e pos) (Ug i f):=by
  refine PE.imp (pe_ix ix_seq (pe_var hN hv hd hcd) hb hs) fun σ H Q h=>?_
  obtain⟨ρ,O,j,h⟩:=h
  unfold Ug at h
  split at h
  · rename_i ds q
    obtain⟨v,hv1,a,xs,rfl,hO,hH,rs⟩:=j.env.get i _ q
    refine⟨.ref a,hv1,?_⟩
    refine go j h fun d y H1 e1 s1 r1 j1 h1=>?_
    cases d with
    | int k=>
      have h':good X (rD X) O (match L2.atI ds k with |some d=>R.ok d |none=>R.bad) σ H1 Q:=h1
      cases e2:L2.atI ds k with
      |none=>rw[e2] at h';exact h'.elim
      | some d=>
        rw[e2] at h'
        obtain⟨v,e3,rv⟩:=(rs.same s1).atI e2
        exact .inl ⟨a,xs,k,v,rfl,r1.int,SqL.of (s1 _ _ hH),e3,fin h' rv⟩
    |_=>exact h1.elim
  · exact h.elim
end
section
variable {X:Cx} {pos:Pos}
end
section
open PySem
theorem Vo (l b:Addr) (items:Array Value) (n:Nat) (items2:Array Value) (n2:Nat) (dd:Option Addr) (sl:Array (Option Value)) (hs0:¬(!items.isEmpty && Builtin.List.listTooLong (items.size+items2.size))=true) (hs1:items.size≤sizeLine) (hs2:items.size+items2.size≤sizeLine+1):
    Meets (Builtin.«list.__iadd__» ⟨[.ref l,.ref b],[]⟩) (fun _ R s=>s.heap.get? l=some {cls:= .type "list",dict:=none,data:= .seq items n,slots:= #[]}∧s.heap.get? b=some {cls:= .type "list",dict:=dd,data:= .seq items2 n2,slots:=sl}∧R (.ok (.ret (Value.ref l))) {s with heap:=s.heap.update l (Obj.mapSeq fun x=>x++items2),toks:=s.toks}):=
  .of_wp fun prog w A R s h=>by
    obtain⟨hp,g,d,tk,os⟩:=s;obtain⟨hl,hb,h⟩:=h;have f1:=AutoSeq1.idx_int;have f2:=AutoSeq1.sub_tuple_tuple;have f3:=AutoSeq1.sub_list_list;have f4:=AutoSeq1.sub_tuple_list;have f5:=AutoSeq1.sub_list_tuple;
    have hz':(items++items2).size≤sizeLine+1:=by rw[Array.size_append];exact hs2
    wp_walk using (wpAny_updateSeq hl rfl (hz:=hs1) (_hz':=hz')),wpAny_loadPart' hl,wpAny_loadPart' hb;exact⟨_,rfl,h⟩
end
section
variable {X:Cx} {e:Expr} {f:aq→R D} {pos:Pos}
theorem ab6:PIp X .Add (fun x y H Q=>∃a b xs ys,x= .ref a∧y= .ref b∧H a=some (.lst xs)∧SqL X.K H b ys∧xs.length+ys.length≤1000000∧Q (.ref a) (upd H a (.lst (xs++ys)))):=by
  intro pins s σ H x y v u Q I rx ry h
  obtain⟨a,b,xs,ys,rfl,rfl,ha,hb,hz,q⟩:=h
  cases rx
  cases ry
  obtain⟨its,n,r,ho,hzl⟩:=I.lst ha
  obtain⟨its2,r2,p2,hz2⟩:=I.list hb
  obtain⟨⟨cls2,dd2,data2,sl2⟩,ho2,hc2,n2,hd2⟩:=id p2.isList
  simp only at hc2 hd2
  subst hc2 hd2
  have l1:=r.length
  have l2:=r2.length
  have hsl:=kI
  have hT:s.TypeIs (.ref a) "list" :=⟨_,ho,rfl⟩
  have hT2:s.TypeIs (.ref b) "list" :=⟨_,ho2,rfl⟩
  unfold inplaceOp
  refine wpAny_holding ?_
  have hfi:fillsInplaceSlot (.type "list") "add" (Operator.Add == .Add)=pure false:=by
    unfold fillsInplaceSlot
    show (typeLookup (.type "list") (dunderI "add") >>=fun fi=>pure (fi.isSome && !isSeqSlot fi))=pure false
    rw[PySem.F.slot_list_iadd.lookup,pure_bind,show isSeqSlot (some (.builtin "list.__iadd__"))=true from by decide +kernel];rfl
  refine wpAny_bind (wpAny_typeOf hT (wpAny_bind (wpAny_of_eq hfi ?_)))
  show wpAny _ _ (if false=true then _ else _) _ _ s
  rw[if_neg Bool.false_ne_true]
  refine wpAny_bind (binaryOp1_none (nm:= "add") hT hT2 PySem.noFill_list_add ?_)
  refine wpAny_bind (wpAny_of_eq (PySem.seqSlot_of (T:= "list") (name:=dunderI "add") (id:= "list.__iadd__") PySem.F.slot_list_iadd.lookup (by decide +kernel)) ?_)
  refine wpAny_bind (wpAny_rule ?_)
  refine call_meets PySem.F.slot_list_iadd hT PySem.F.entry_list_iadd (PySem.F.args_list_iadd_2 _ _) (Vo a b its.toArray n its2.toArray n2 dd2 sl2 ?_ (by rw[List.size_toArray];omega) (by rw[List.size_toArray,List.size_toArray];omega)) ⟨ho,ho2,?_⟩
  · rw[List.size_toArray,List.size_toArray]
    have:Builtin.List.listTooLong (its.length+its2.length)=false:=by unfold Builtin.List.listTooLong;exact decide_eq_false (by omega)
    rw[this];simp
  · refine⟨.ref a,upd H a (.lst (xs++ys)),I.lset (its':=its++its2) ha ho (by simp) (r.append r2) (by rw[List.length_append];omega),rfl,q⟩
noncomputable def Jz (i:Nat) (f:aq→R D):aq→So:=fun ρ=>match ρ[i]? with
  | some (some (.lst ds))=>jc (Dm (f ρ)) ρ fun d=>match d with
    | .lst es=>if ds.length+es.length≤1000000 then .nx (ρ.set i (some (.lst (ds++es)))) else .bad
    |_=> .bad
  |_=> .bad
theorem Uh (i:Nat) {x:Str} {pos':Pos} (hN:X.N.Nodup) (he:DE X e f) (hi:X.N[i]?=some x:=by rfl) (hx:Loc X.env.scope x:=by first |exact Or.inl rfl |exact Or.inr rfl)
    (hf:X.fn x=true∨X.env.scope.names.lookup x=some .local:=by first |exact .inl rfl |exact .inr rfl):DS X (.AugAssign (.Name x pos') .Add e pos) (Jz i f):=by
  refine PS.imp (ps_aug hN hi hx he ab6 hf) fun σ H E h=>?_
  obtain⟨H0,O0,O,ρ,j,h⟩:=h
  unfold Jz at h
  split at h
  · rename_i ds q
    obtain⟨v,hv1,a,xs,rfl,hO,hH,rs⟩:=j.inn.env.get i _ q
    refine⟨.ref a,hv1,ρ,O,j.inn,?_⟩
    unfold jc at h
    cases e1:f ρ with
    |bad=>rw[e1] at h;exact h.elim
    |err c=>rw[e1] at h;exact h.elim
    | ok d =>
      rw[e1] at h
      intro w H1 s1 rw1
      cases d with
      | lst es=>
        have h:uy X H0 O0 O H E (if ds.length+es.length≤1000000 then .nx (ρ.set i (some (.lst (ds++es)))) else .bad):=h
        by_cases hl:ds.length+es.length≤1000000
        · rw[if_pos hl] at h
          have j1:=j.grow s1
          obtain⟨b,ys,rfl,hb,hnb,J8⟩:=rw1.lst
          have rs1:=rs.same s1
          have hH1:=s1 _ _ hH
          refine⟨a,b,xs,ys,rfl,rfl,hH1,hb,by rw[←rs1.length,←J8.length];exact hl,?_⟩
          obtain⟨j2,r2⟩:=j1.chg (o:= .lst (xs++ys)) (en:= .lst (ds++es)) q rfl hv1 hO hH1 trivial rfl fun r=>⟨a,xs++ys,rfl,hO,upd_same,(rs1.append J8).go r⟩
          have eσ:σ.set i (some (V.ref a))=σ:=by
            apply List.ext_getElem?
            intro m
            by_cases hm:m=i
            · subst hm;rw[List.getElem?_set_self (List.getElem?_eq_some_iff.mp hv1).1,hv1]
            · rw[List.getElem?_set_ne (Ne.symm hm)]
          rw[eσ]
          exact h _ _ _ j2 ((Same.eY s1).trans r2)
        · rw[if_neg hl] at h;exact h.elim
      |_=>exact h.elim
  · exact h.elim
end
end Pu
namespace Pu
open PySem PySem.Spec L2
open PyProof.Rows hiding St
noncomputable def Its (lo:Int) (n:Nat) (c:Int):It:=⟨fun i _=>i < n,fun i H x H'=>H'=H∧x= .int (lo+i*c),fun i _=>n≤i⟩
theorem Yo {P:Program} {w:World} {K:PySem.W.Frag} {tg:Expr} (it:Addr) (lo:Int) (n:Nat) (c:Int):Turn P w K tg (Its lo n c) [it] it (fun i h=>IsRangeIter h it (lo+(i:Nat)*c) ((n:Int) - (i:Nat)) c) where
  mem:=by simp
  obj :=fun i h st b hb=>by
    have e:b=it:=by simpa using hb
    subst e
    exact⟨_,st,fun v z=>by
      have z':Data.fields _=Data.cell v:=z
      cases z'⟩
  keep:=fun i h h' st k=>k it (by simp) _ st
  item:=by
    intro X hP hw hK hc i pins s σ H E I hf st hg
    subst hP hw hK
    obtain⟨f0,f1,f2,f3,f4,f5⟩:=hf it (by simp)
    have W:=Walks.range (prog:=X.prog) (w:=X.w) (I.ok.hd hc) it lo c n
    refine W.item i s _ _ hg st fun v h' tk hv st' kk=>?_
    obtain⟨t,rfl⟩:=hv
    have I1:Inv X pins σ H {s with heap:=h',toks:=tk}:=I.turned (fun b o hb e=>kk b o (by simpa using hb) e) f0 f1 f3 f4 f5
    exact⟨_,rfl,go_of (s:={s with heap:=h',toks:=tk}) (n:= "range_iterator") st' rfl rfl (by decide) ⟨.int (lo+i*c),H,I1,⟨t,rfl⟩,⟨rfl,rfl⟩,st',fun b hb=>(hf b hb).1⟩⟩
  done:=by
    intro X hP hw hK hc i pins s σ H E I hf st hg
    subst hP hw hK
    obtain⟨f0,f1,f2,f3,f4,f5⟩:=hf it (by simp)
    exact wpAny_pyNext_range_end (I.ok.hd hc) st (by have:n≤i:=hg;omega) fun h' eb=>⟨rfl,I.turned (t':=s.toks) (fun b o hb e=>eb b o hb e) f0 f1 f3 f4 f5⟩
  self:=fun _ _ _ _ _ st h=>wpAny_pyIter_rangeiter st h
noncomputable def qP (hi:Int) (n:Nat):List D:=(List.range n).map fun (i:Nat)=>D.int (hi - (i:Int))
theorem YR.step {K:PySem.W.Frag} {O:Addr→Prop} {H:Hp} (hi:Int) (n:Nat):YR K O H (Its hi n (-1)) (qP hi n):=by
  intro O' H' _
  intro i
  refine⟨fun d e=>?_,fun e=>?_⟩
  · unfold qP at e
    rw[List.getElem?_map] at e
    cases q:(List.range n)[i]? with
    |none=>rw[q] at e;cases e
    | some k=>
      rw[q] at e
      have hk:i < n∧i=k:=by simpa[List.getElem?_range] using (List.getElem?_eq_some_iff.mp q)
      obtain⟨h1,rfl⟩:=hk
      cases e
      refine⟨h1,fun x H2 y=>?_⟩
      obtain⟨rfl,rfl⟩:=y
      exact⟨Same.refl _,by rw[show hi+(i:Int)*(-1)=hi - (i:Int) by omega];exact cL _⟩
  · show n≤i
    unfold qP at e
    simpa using e
section
variable {X:Cx} {tg a b c:Expr} {p pos p2 pos2:Pos} {fa:aq→R (List D)} {ta:TA}
noncomputable def ae4:List D→R (List D)
  |[.int i,.int j,.int k]=>if k= -1∧-(2 ^ 62)≤i∧i < 2 ^ 62∧-(2 ^ 62)≤j∧j < 2 ^ 62 then .ok (qP i (i - j).toNat) else .bad
  |_=> .bad
end
section
variable {prog:Program} {w:World} {A:Around} {E:Value→Shared→Prop} {s:Shared}
theorem G3 (r:Addr) (j:Int) (t u v:Tok) (h0:0≤j) (h1:j≤1000):Meets (Builtin.«range.__reversed__» ⟨[.ref r],[]⟩) (fun _ R s=>IsRange s.heap r 0 j 1 t u v∧R (.ok (.ret (.ref s.heap.objs.size))) {s with heap:=s.heap.push {cls:= .type "range_iterator",data:= .fields #[rawInt (j - 1),rawInt j,rawInt (-1)]}}):=
  .of_wp fun prog w A R s h=>by
    obtain⟨hp,g,d,tk,os⟩:=s
    obtain⟨hr,h⟩:=h
    have e1:Builtin.Range.rangeSize 0 j 1=j:=by rw[rangeSize_one];split <;> omega
    have e2:(Builtin.Range.rangeFitsLong 0 && Builtin.Range.rangeFitsLong j && Builtin.Range.rangeFitsLong 1 && Builtin.Range.rangeFitsLong (-1) && Builtin.Range.rangeFitsLong (0 - 1) && Builtin.Range.rangeFitsLong j)=true:=by
      simp only[Builtin.Range.rangeFitsLong,Bool.and_eq_true,decide_eq_true_eq];omega
    have e3:(0:Int)+(j - 1)*1=j - 1:=by omega
    unfold Builtin.«range.__reversed__» Builtin.Range.rangeFields
    wp_walk using wpAny_loadPart' hr
    rw[e1]
    simp only[e2,e3,Bool.not_true,Bool.false_eq_true,if_false,if_true]
    unfold newFields
    refine wpAny_bind (wpAny_newObj_type (wpAny_pure ⟨_,rfl,h⟩) (by size_fits))
theorem G5:isSubtype (.type "range_iterator") (.type "reversed")=pure false:=by rw[isSubtype_type];kernel_rfl
theorem JB {r:Addr} {j:Int} {t u v:Tok} {Q₁:Value→Shared→Prop} (h0:0≤j) (h1:j≤1000) (hr:IsRange s.heap r 0 j 1 t u v)
    (h:Q₁ (.ref s.heap.objs.size) {s with heap:=s.heap.push {cls:= .type "range_iterator",data:= .fields #[rawInt (j - 1),rawInt j,rawInt (-1)]}}):
    codeAny (model prog w) A (.call (.builtin "reversed.__new__") ⟨[.type "reversed",.ref r],[]⟩) (wants Q₁ E) s:=by
  have hT:s.TypeIs (.ref r) "range" :=⟨_,hr,rfl⟩
  refine codeAny_of_tree ?_
  show wpAny _ A.in1 (do checkBuiltinCall "reversed.__new__" ⟨[.type "reversed",.ref r],[]⟩;again (.builtin "reversed.__new__" ⟨[.type "reversed",.ref r],[]⟩)) _ _ s
  refine wpAny_bind (wpAny_of_eq (PySem.F.newCall_reversed_1 _) (wpAny_pure ⟨plainId_quiet PySem.F.plain_reversed_new _,codeAny_builtin PySem.F.entry_reversed_new ?_⟩))
  rw[Around.under_plainId PySem.F.plain_reversed_new _]
  unfold Builtin.«reversed.__new__»
  refine wpAny_bind (wpAny_of_eq (newClass_reversed _) ?_)
  try dsimp only
  refine wpAny_bind (wpAny_of_eq (a:=()) (by first |rfl |kernel_rfl) ?_)
  refine wpAny_bind (wpAny_of_eq (a:=()) (by first |rfl |kernel_rfl) ?_)
  try dsimp only
  refine wpAny_bind (wpAny_specialOf hT PySem.F.slot_range_reversed.lookup ?_)
  try dsimp only
  refine wpAny_bind (wpAny_of_eq (PySem.F.slot_range_reversed.bind _) ?_)
  try dsimp only
  first
  |rw [if_neg (show ¬((Value.builtin "range.__reversed__" ==Value.none)=true) from Bool.false_ne_true)]
  |(show wpAny _ _ (if (Value.builtin "range.__reversed__" ==Value.none)=true then _ else _) _ _ _;rw[if_neg (show ¬((Value.builtin "range.__reversed__" ==Value.none)=true) from Bool.false_ne_true)])
  refine wpAny_bind (wpAny_rule ?_)
  refine wpAny_bind (m:=runValue (.call (.builtin "range.__reversed__") ⟨[.ref r],[]⟩)) (show wpAny _ _ (call (.builtin "range.__reversed__") [.ref r]) _ _ _ from call_meets PySem.F.slot_range_reversed hT PySem.F.entry_range_reversed (PySem.F.args_range_reversed_1 _) (G3 r j t u v h0 h1) ⟨hr,?_⟩)
  first
  |exact wpAny_pure h
  |exact wpAny_bind (wpAny_pure (wpAny_pure h))
theorem JC {r:Addr} {j:Int} {t u v:Tok} {Q:Value→Shared→Prop} (h0:0≤j) (h1:j≤1000) (hr:IsRange s.heap r 0 j 1 t u v)
    (h:Q (.ref s.heap.objs.size) {s with heap:=s.heap.push {cls:= .type "range_iterator",data:= .fields #[rawInt (j - 1),rawInt j,rawInt (-1)]}}):wpAny (model prog w) A (call (.type "reversed") [.ref r]) Q E s:=by
  refine callType_other (U:= "range_iterator") (Q₁:=fun obj s₁=>obj= .ref s.heap.objs.size∧s₁={s with heap:=s.heap.push {cls:= .type "range_iterator",data:= .fields #[rawInt (j - 1),rawInt j,rawInt (-1)]}}) (by decide +kernel) PySem.F.create_reversed ⟨_,_,PySem.F.mro_reversed⟩ PySem.F.made_reversed G5 (PySem.F.typeCall_reversed_1 _) (JB h0 h1 hr ⟨rfl,rfl⟩) ?_
  rintro obj s₁ ⟨rfl,rfl⟩
  exact⟨⟨_,Heap.get?_push_size _ rfl,rfl⟩,h⟩
end
section
variable {X:Cx} {tg a:Expr} {p pos p2 pos2:Pos} {fa:aq→R (List D)}
noncomputable def MP:List D→R (List D)
  |[.int j]=>if 0≤j∧j≤1000 then .ok (qP (j - 1) j.toNat) else .bad
  |_=> .bad
theorem ab7 (hg:Gl X "reversed") (hm:X.mg "reversed" =none) (hg2:Gl X "range") (hm2:X.mg "range" =none) (ha:DA X [a] fa) (hs:starEach [a] X.env=[(false,eval a X.env)]:=by rfl)
    (he:starEach [.Call (.Name "range" p2) [a] [] pos2] X.env=(false,eval (.Call (.Name "range" p2) [a] [] pos2) X.env)::starEach [] X.env:=by rfl) (hpl:(backTo pos (starEach [] X.env)).any (·.1)=false:=by rfl):
    DI X tg (.Call (.Name "reversed" p) [.Call (.Name "range" p2) [a] [] pos2] [] pos) (fun ρ=>(fa ρ).bind MP):=by
  intro pins s σ H R I h
  have A:=pa_cons (adK (p:=p2) (pos:=pos2) hg2 hm2 ha hs) pa_nil he
  obtain⟨ρ,O,jn,h⟩:=h
  have key:tCons (adJ X.K (tG X (rDs X) fa)) tNil σ H (fun vs H1=>∃q j,vs=[.ref q]∧H1 q=some (.rng 0 j)∧0≤j∧j≤1000∧R (Its (j - 1) j.toNat (-1)) H1):=by
    refine go jn h fun ds vs H1 e1 s1 r1 j1 h1=>?_
    unfold MP at h1
    split at h1
    · rename_i j
      by_cases hh:0≤j∧j≤1000
      · rw[if_pos hh] at h1
        obtain⟨v,rfl,w⟩:=r1.one
        exact⟨j,by rw[w.int],hh.1,hh.2,fun q hq=>⟨q,j,rfl,upd_same,hh.1,hh.2,h1 _ _ (Same.upd hq) (YR.step _ _)⟩⟩
      · rw[if_neg hh] at h1;exact h1.elim
    · exact h1.elim
  refine Call_ (ld_blt I hg hm boot_reversed (PyProof.Rows.callWith_type1 (thn (A pos pins s σ H _ I key) fun us s1 ⟨vs,H1,I1,r1,q1⟩=>?_) he hpl))
  obtain⟨q,j,e,hq,h0,h1,q⟩:=q1
  subst e
  cases r1 with
  | cons r rr=>
    cases rr
    cases r
    obtain⟨t,u,v,hr⟩:=I1.hok _ _ hq
    refine JC h0 h1 hr ?_
    have hit:IsRangeIter (s1.heap.push {cls:= .type "range_iterator",data:= .fields #[rawInt (j - 1),rawInt j,rawInt (-1)]}) s1.heap.objs.size (j - 1) j (-1):=Heap.get?_push_size _ rfl
    refine wpAny_pyIter_rangeiter (s:={s1 with heap:=s1.heap.push {cls:= .type "range_iterator",data:= .fields #[rawInt (j - 1),rawInt j,rawInt (-1)]}}) hit ?_
    refine⟨s1.heap.objs.size,[s1.heap.objs.size],_,_,H1,rfl,I1.kept (t':=s1.toks) fun b o e=>Heap.get?_push_of_some _ e,Yo _ (j - 1) j.toNat (-1),?_,fun b hb=>?_,q⟩
    · show IsRangeIter _ _ (j - 1+((0:Nat):Int)*(-1)) (((j.toNat:Nat):Int) - ((0:Nat):Int)) (-1)
      rw[show j - 1+((0:Nat):Int)*(-1)=j - 1 by simp,show ((j.toNat:Nat):Int) - ((0:Nat):Int)=j by omega]
      exact hit
    · have e:b=s1.heap.objs.size:=by simpa using hb
      subst e
      exact I1.fpOk (Nat.le_refl _) (I1.hok.fresh (Nat.le_refl _))
end
end Pu
namespace Pu
open PySem PySem.Spec PySem.W L2
open PyProof.Rows hiding St
section
variable {prog:Program} {w:World} {A:Around} {E:Value→Shared→Prop} {s:Shared}
end
section
variable {X:Cx}
end
end Pu
namespace Pu
open PySem PySem.Spec PySem.W L2
open PyProof.Rows hiding St
section
variable {prog:Program} {w:World} {A:Around} {E:Value→Shared→Prop} {s:Shared}
end
section
variable {X:Cx}
end
end Pu
namespace Pu
open PySem PySem.Spec L2
open PyProof.Rows hiding St
section
variable {K:PySem.W.Frag} {O:Addr→Prop} {H:Hp}
end
section
variable {X:Cx}
end
section
variable {X:Cx} {e:Expr} {f:aq→R D} {pos:Pos}
end
section
variable {X:Cx} {e:Expr} {f:aq→R D}
end
end Pu
namespace Pu
open PySem PySem.Spec L2
open PyProof.Rows hiding St
theorem Dq:∀{xs:List V} {us:List Value},xs.length=us.length→(∀(i:Nat) x u,xs[i]?=some x→us[i]?=some u→RelV x u)→Vals xs us
  |[],[],_,_=> .nil
  |[],_::_,h,_=>by simp at h
  |_::_,[],h,_=>by simp at h
  |x::xs,u::us,h,p=> .cons (p 0 x u rfl rfl) (Dq (by simpa using h) fun i d' v' e1 e2=>p (i+1) d' v' (by simpa using e1) (by simpa using e2))
theorem Yp {lo:Int} {acc:Array Value} {n:Nat} (h:ItemsOf (fun i v=>∃t,v= .int (lo+i*1) t) acc n):Vals ((List.range n).map fun (i:Nat)=>V.int (lo+(i:Int))) acc.toList:=by
  refine Dq (by simp[h.1]) fun i x u e1 e2=>?_
  rw[Array.getElem?_toList] at e2
  obtain⟨t,rfl⟩:=h.2 i u e2
  rw[List.getElem?_map] at e1
  cases q:(List.range n)[i]? with
  |none=>rw[q] at e1;cases e1
  | some k=>
    rw[q] at e1
    have hk:i < n∧i=k:=by simpa[List.getElem?_range] using (List.getElem?_eq_some_iff.mp q)
    obtain⟨_,rfl⟩:=hk
    cases e1
    exact⟨t,by rw[Int.mul_one]⟩
section
variable {X:Cx} {a b:Expr} {p pos p2 pos2:Pos} {fa:aq→R (List D)} {ta:TA}
noncomputable def aeL (ta:TA):TE:=fun σ H Q=>ta σ H fun vs H1=>∃i j:Int,vs=[.int i,.int j]∧∀q,H1 q=none→Q (.ref q) (upd H1 q (.rng i j))
theorem ab8 (hg:Gl X "range") (hm:X.mg "range" =none) (ha:PA X [a,b] ta) (hs:starEach [a,b] X.env=[(false,eval a X.env),(false,eval b X.env)]:=by rfl) (hs2:starEach [b] X.env=[(false,eval b X.env)]:=by rfl):PE X (.Call (.Name "range" p) [a,b] [] pos) (aeL ta):=by
  intro pins s σ H Q I h
  refine Call_ (ld_blt I hg hm boot_range (PyProof.Rows.callWith_type1 (thn (ha pos pins s σ H _ I h) fun us s1 ⟨vs,H1,I1,r1,q1⟩=>?_) (by rw[hs,hs2]) (by rw[hs2];rfl)))
  obtain⟨i,j,e,q⟩:=q1
  subst e
  cases r1 with
  | cons r rr=>
    cases rr with
    | cons r' rr=>
      cases rr
      obtain⟨t,rfl⟩:=r
      obtain⟨t',rfl⟩:=r'
      refine call_range_2 ?_
      exact⟨.ref s1.heap.objs.size,upd H1 s1.heap.objs.size (.rng i j),I1.laid (fun b o e=>Heap.get?_push_of_some _ e) (Nat.le_refl _) ⟨_,_,_,Heap.get?_push_size _ rfl⟩,rfl,q _ (I1.hok.fresh (Nat.le_refl _))⟩
theorem Yq (hc:X.calm=true):CallR X (.type "list") (fun xs H Q=>∃(b:Addr) (i j:Int),xs=[.ref b]∧H b=some (.rng i j)∧-1000≤i∧i≤1000∧-1000≤j∧j≤1000∧∀B,H B=none→Q (.ref B) (upd H B (.lst ((List.range (j - i).toNat).map fun (k:Nat)=>V.int (i+(k:Int)))))):=by
  intro pins s σ H xs us Q I r h
  obtain⟨b,i,j,rfl,hb,h0,h1,h2,h3,q⟩:=h
  obtain⟨u,rfl,rx⟩:=vals1 r
  cases rx
  obtain⟨t,u,v,hr⟩:=(show ObjOk X.prog X.w H s.heap b (.rng i j) from I.hok b _ hb)
  have hn:Builtin.Range.rangeSize i j 1=(((j - i).toNat:Nat):Int):=by rw[rangeSize_one];split <;> omega
  refine call_list_range (I.ok.hd hc) hr (small_one (by omega) (by omega) (by omega) (by omega)) hn (by omega) fun h' tk acc c' hk he hacc=>?_
  have hf:H s.heap.objs.size=none:=I.hok.fresh (Nat.le_refl _)
  refine⟨.ref s.heap.objs.size,_,I.laid (t':=tk) (o:= .lst ((List.range (j - i).toNat).map fun (k:Nat)=>V.int (i+(k:Int)))) hk (Nat.le_refl _) ⟨?_,acc.toList,c',Yp hacc,by simpa using he⟩,rfl,q _ hf⟩
  rw[List.length_map,List.length_range]
  exact Nat.le_trans (by omega) (Nat.le_of_lt kI)
theorem Vp {K:PySem.W.Frag} {O:Addr→Prop} {H:Hp} {lo:Int} {n:Nat}:aV K O H (upto lo n) ((List.range n).map fun (i:Nat)=>V.int (lo+(i:Int))):=by
  unfold upto
  generalize List.range n=l
  induction l with
  |nil=>exact .nil
  |cons x l ih=>exact .cons (cL _) ih
noncomputable def ae6:List D→R D
  |[.int j]=>if 0≤j∧j≤1000 then .ok (.lst (upto 0 j.toNat)) else .bad
  |_=> .bad
noncomputable def Vq:List D→R D
  |[.int i,.int j]=>if -1000≤i∧i≤1000∧-1000≤j∧j≤1000 then .ok (.lst (upto i (j - i).toNat)) else .bad
  |_=> .bad
theorem aaO (hc:X.calm=true) (hg:Gl X "list") (hm:X.mg "list" =none) (hg2:Gl X "range") (hm2:X.mg "range" =none) (ha:DA X [a,b] fa) (hs2:starEach [a,b] X.env=[(false,eval a X.env),(false,eval b X.env)]:=by rfl) (hs3:starEach [b] X.env=[(false,eval b X.env)]:=by rfl)
    (he:starEach [.Call (.Name "range" p) [a,b] [] pos] X.env=(false,eval (.Call (.Name "range" p) [a,b] [] pos) X.env)::starEach [] X.env:=by rfl) (hpl:(backTo pos2 (starEach [] X.env)).any (·.1)=false:=by rfl):
    DE X (.Call (.Name "list" p2) [.Call (.Name "range" p) [a,b] [] pos] [] pos2) (aD Vq fa):=by
  refine PE.imp (pe_callTy (Yq hc) hg hm boot_list (pa_cons (ab8 hg2 hm2 ha hs2 hs3) pa_nil he) (by decide) (by decide) he hpl) fun σ H Q q=>?_
  obtain⟨ρ,O,j,q⟩:=q
  refine go j q fun ds vs H1 e1 s1 r1 j1 h1=>?_
  unfold Vq at h1
  split at h1
  · rename_i i k
    obtain⟨x,y,rfl,rx,ry⟩:=r1.two
    by_cases hi: -1000≤i∧i≤1000∧-1000≤k∧k≤1000
    · rw[if_pos hi] at h1
      refine⟨i,k,by rw[rx.int,ry.int],fun q hq=>⟨q,i,k,rfl,upd_same,hi.1,hi.2.1,hi.2.2.1,hi.2.2.2,fun B hB=>?_⟩⟩
      have s2:Same H1 (upd H1 q (.rng i k)):=Same.upd hq
      exact h1 _ _ (s2.trans (Same.upd hB)) (Rep.nO hB ((j1.same s2).pG hB) Vp)
    · rw[if_neg hi] at h1;exact h1.elim
  · exact h1.elim
end
end Pu
namespace Pu
open PySem PySem.Spec PySem.W L2
open PyProof.Rows hiding St
section
variable {prog:Program} {w:World} {A:Around} {s:Shared}
end
section
variable {X:Cx}
end
end Pu
namespace Pu
open PySem PySem.Spec L2
open PyProof.Rows hiding St
section
variable {X:Cx} {pins:List (Addr×Obj)} {σ:St} {H:Hp} {s:Shared}
end
section
variable {X:Cx} {qual:Str} {params:Arguments} {body:Expr} {scope:Scope} {xS:Str} {cc P fS:Addr} {fdS:FuncData} {psS:List Str} {kS kG q:Nat} {FS:Addr→(List D→R D)→List D→R D} {GG:List D→R D} {p p4 pos2 aeZ:Pos} {e1 e2 e3:Expr} {f1 f2 f3:aq→R D}
end
end Pu
namespace Pu
open PySem PySem.Spec PySem.W L2
open PyProof.Rows hiding St
section
variable {prog:Program} {w:World} {A:Around} {R:Result→Shared→Prop} {I l S:Addr} {its:Array Value} {h0:Heap} {bt:Nat→Nat→Bool}
end
section
variable {prog:Program} {w:World} {A:Around} {E:Value→Shared→Prop} {s:Shared} {l:Addr} {its:Array Value} {bt:Nat→Nat→Bool} {Q:Value→Shared→Prop}
end
end Pu
namespace Pu
open PySem PySem.Spec PySem.W L2
open PyProof.Rows hiding St
section
variable {X:Cx}
end
end Pu
namespace Pu
open PySem PySem.Spec PySem.W L2
open PyProof.Rows hiding St
open PySem.SeqAt
section
variable {X:Cx} {e1 e2:Expr} {f g:aq→R D}
end
end Pu
namespace Pu
open PySem PySem.Spec L2
open PyProof.Rows hiding St
section
variable {X:Cx}
end
section
variable {X:Cx} {e:Expr} {f:aq→R D} {pos:Pos}
end
end Pu
namespace Pu
open PySem PySem.Spec PySem.W L2
open PyProof.Rows hiding St
section
variable {prog:Program} {w:World} {A:Around} {E:Value→Shared→Prop} {s:Shared}
end
section
variable {X:Cx}
end
end Pu
namespace Pu
open PySem PySem.Spec L2
open PyProof.Rows hiding St
section
variable {P:Program} {w:World} {K:PySem.W.Frag} {mg:Str→Option Value} {base:Heap}
end
section
variable {X:Cx} {k m n:Nat} {f:Addr} {fd:FuncData} {ps ks:List Str} {F:List D→R D} {x:Str} {p pos:Pos} {e:Expr} {es:List Expr} {kws:List Keyword} {fa fk:aq→R (List D)} {ts:List (Addr×Str)}
end
end Pu
namespace Pu
open PySem PySem.Spec L2
open PyProof.Rows hiding St
section
variable {X:Cx} {tg a b c:Expr} {p pos p2 pos2:Pos} {fa:aq→R (List D)} {ta:TA}
end
end Pu
namespace Pu
open PySem PySem.Spec PySem.W L2
open PyProof.Rows hiding St
open PySem.SeqAt
section
variable {X:Cx} {e1 e2:Expr} {f g:aq→R D}
end
end Pu
namespace Pu
open PySem PySem.Spec L2
open PyProof.Rows hiding St
section
variable {X:Cx}
end
end Pu
namespace Pu
open PySem PySem.Spec PySem.W L2
open PyProof.Rows hiding St
section
variable {prog:Program} {w:World} {A:Around} {s:Shared}
end
section
variable {X:Cx}
end
end Pu
namespace Pu
open PySem PySem.Spec PySem.W L2
open PyProof.Rows hiding St
section
variable {X:Cx}
end
end Pu
namespace Pu
open PySem PySem.Spec L2
open PyProof.Rows hiding St
noncomputable def tGr (X:Cx) (Re:Hp→(Addr→Prop)→Hp→D→V→Prop) (f:aq→R D):TE:=fun σ H Q=>∃ρ O,In X O H ρ σ∧good X (Re H) O (f ρ) σ H Q
noncomputable def Yr (X:Cx) (Re:Hp→(Addr→Prop)→Hp→D→V→Prop) (e:Expr) (f:aq→R D):Prop:=PE X e (tGr X Re f)
noncomputable def Ui (X:Cx) (H:Hp) (Ac:Hp→Addr→(Addr→Prop)→Hp→List D→List V→Prop):(Addr→Prop)→Hp→D→V→Prop:=fun O H' d v=>
  ∃Hs a ys ds,d= .lst ds∧v= .ref a∧Same H Hs∧Hs a=none∧X.K.lookup a=none∧Same Hs H'∧H' a=some (.lst ys)∧Ac Hs a O H' ds ys
structure AcR (K:PySem.W.Frag) (Re:Hp→(Addr→Prop)→Hp→D→V→Prop) (Ac:Hp→Addr→(Addr→Prop)→Hp→List D→List V→Prop):Prop where
  nil:∀{H2 a O H'},Ac H2 a O H' [] []
  same:∀{H2 a O H' wG ds ys},Ac H2 a O H' ds ys→H' a=some (.lst ys)→Same H' wG→Ac H2 a O wG ds ys
  len:∀{H2 a O H' ds ys},Ac H2 a O H' ds ys→ds.length=ys.length
  app:∀{H2 a O H7 H8 ds ys d v},Ac H2 a O H7 ds ys→H2 a=none→H7 a=some (.lst ys)→Same H2 H7→Same H7 H8→Re H7 (fun b=>O b∨b=a) H8 d v→
    fL K (fun b=>O b∨b=a) H8 (fun b=>O b∨b=a) (upd H8 a (.lst (ys++[v])))→Ac H2 a O (upd H8 a (.lst (ys++[v]))) (ds++[d]) (ys++[v])
section
variable {X:Cx}
theorem Kg {Re:Hp→(Addr→Prop)→Hp→D→V→Prop} {Ac:Hp→Addr→(Addr→Prop)→Hp→List D→List V→Prop} (AC:AcR X.K Re Ac) {tg iter elt:Expr} {ifs:List Expr} {scope:Scope} {pos pos2:Pos} {fi:aq→R (List D)} {gt:D→aq→R aq} {ft:aq→R Bool} {fe:aq→R D} (ts:List Str) (caps:List Nat)
    (hc:X.calm=true) (hb:uQ X.env.scope scope ts X.N=true) (hcap:(dJ scope).map (fun x=>kW x X.N)=caps)
    (hi:DI X tg iter fi) (hk:lB ts.length gt) (hg:∀C s H ex,(bF X scope ts C s H ex).N.Nodup→DG (bF X scope ts C s H ex) tg gt) (ht:∀C s H ex,Dn (bF X scope ts C s H ex) ifs ft) (he:∀C s H ex,Yr (bF X scope ts C s H ex) Re elt fe)
    (hs:∀x,foldedSetIterable iter X.env x=pure x) {use:Option (Value→Sem Unit)} {Qr:Value→Shared→Prop} {pins:List (Addr×Obj)} {s:Shared} {σ:St} {H:Hp} {ρ:aq} {O:Addr→Prop} {Q:VK} (I:Inv X pins σ H s) (j:In X O H ρ σ)
    (hQ:∀(v:V) (H':Hp) (s5:Shared) (C:Addr) (m:Str→Option Value) (f:Flow) (acc:Value),Q v H'→Inv X pins σ H' s5→s5.heap.Ns C m→FpOk X pins H' C→RelV v acc→compPost (model X.prog X.w) X.A X.xe use Qr acc C (.ok f) s5)
    (h:good X (Ui X H Ac) O (bB ts.length caps fi gt ft fe ρ) σ H Q):
    wpAny (model X.prog X.w) X.A (comprehension (.ListComp elt [⟨tg,iter,ifs,0⟩] scope pos) scope X.env pos2 (newList []) false (eval iter X.env) use) Qr X.xe s:=by
  have B:=abt hb
  refine wpAny_comprehension_free (cl:=gZ X.env.cells scope.names []) (use:=use) rfl hs (Gu fun x hx e=>?_) B.kind B.loc ?_
  · obtain⟨n,k⟩:=x
    have e:k= .free:=e
    subst e
    exact I.ok.has n (B.out n (pI hx))
  refine thn (hi pins s σ H (fun J H1=>∃xs,YR X.K O H1 J xs∧In X O H1 ρ σ∧Same H H1∧good X (Ui X H Ac) O ((ig (jP gt ft fe (uw ts.length caps ρ)) xs).bind (cap .lst)) σ H1 Q) I (Pu.go j h fun xs J H1 e1 s1 y1 j1 h1=>⟨xs,y1,j1,s1,h1⟩)) fun xv s1 h1=>thn h1 fun itv s2 h2=>?_
  obtain⟨it,fp,tn,J,H2,e,I2,T,st2,f2,xs,yr,j2,smH,g2⟩:=h2
  subst e
  rw[←Gv hcap] at g2
  generalize eρ:pull X.N (dJ scope) ts.length (ρ.map uq)=ρ0 at g2
  obtain⟨all,hall,hlen,g3⟩:∃all,ig (jP gt ft fe ρ0) xs= .ok all∧all.length≤1000000∧good X (Ui X H Ac) O (.ok (.lst all)) σ H2 Q:=by
    cases e:ig (jP gt ft fe ρ0) xs with
    |bad=>rw[e] at g2;exact g2.elim
    |err c=>exact absurd e xK
    | ok all=>
      rw[e] at g2
      have g2:good X (Ui X H Ac) O (if all.length≤1000000 then .ok (.lst all) else .bad) σ H2 Q:=g2
      by_cases hl:all.length≤1000000
      · rw[if_pos hl] at g2;exact⟨all,rfl,hl,g2⟩
      · rw[if_neg hl] at g2;exact g2.elim
  have hlt:∀b∈fp,b < s2.heap.objs.size:=fun b hb=>by
    obtain⟨o,e,_⟩:=T.obj 0 _ st2 b hb
    exact Heap.lt_size e
  refine wpAny_newObj_type (J4 ?_)
  generalize hC:(s2.heap.push {cls:= .type "list",dict:=none,data:= .seq ([]:List Value).toArray}).objs.size=C
  have hC':C=s2.heap.objs.size+1:=by rw[←hC];exact Heap.size_push ..
  generalize e4:pushCells ((s2.heap.push {cls:= .type "list",dict:=none,data:= .seq ([]:List Value).toArray}).push {cls:= .type "dict",data:= .dict #[]}) scope.names=h4
  show codeAny (model X.prog X.w) X.A (.compStart (.ListComp elt [⟨tg,iter,ifs,0⟩] scope pos) 0 (.ref it) (.ref s2.heap.objs.size) (eU scope X.env C)) (compPost (model X.prog X.w) X.A X.xe use Qr (.ref s2.heap.objs.size) C) {s2 with heap:=h4}
  have zW:H2 s2.heap.objs.size=none:=I2.hok.fresh (Nat.le_refl _)
  have hOn:¬O s2.heap.objs.size:=j2.pG zW
  have hDk:X.K.lookup s2.heap.objs.size=none:=by
    cases q:X.K.lookup s2.heap.objs.size with
    |none=>rfl
    |some o=>exact absurd (Heap.lt_size (I2.kIn _ _ q)) (Nat.lt_irrefl _)
  have I4:=TQ (ts:=ts) I2 B f2 hlt hC' e4.symm
  have sD:Same H2 (upd H2 s2.heap.objs.size (.lst [])):=Same.upd zW
  have lρ0:ρ0.length=(ts++dJ scope).length:=by rw[←eρ,sy,List.length_append]
  generalize eD:s2.heap.objs.size=Dd at *
  have MJ:∀{H':Hp},Same H2 H'→fL X.K O H2 (fun a=>O a∨a=Dd) H':=fun sm=>⟨(Same.eY (K:=X.K) (O:=O) sm).ext,fun a z=>z.elim .inl fun e=> .inr (by rw[e];exact⟨zW,hDk⟩),(Same.eY (K:=X.K) (O:=O) sm).dom⟩
  have Yh:∀{H':Hp} {ys:List V},Same H2 H'→H' Dd=some (.lst ys)→∀a,(O a∨a=Dd)→∃o,H' a=some o:=fun sm e a z=>z.elim (fun q=>let ⟨o,h⟩:=j2.al a q;⟨o,sm _ _ h⟩) fun q=>by rw[q];exact⟨_,e⟩
  have j4:In (bF X scope ts C s2 H2 fp) (fun a=>O a∨a=Dd) (upd H2 Dd (.lst [])) ρ0 (pull X.N (dJ scope) ts.length σ):=by
    rw[←eρ]
    exact In.go (Xy B j2.vals) ux (MJ sD) (Yh sD upd_same)
  have hv0:∀(i:Nat) e,ρ0[i]?=some (some e)→e.Ly=true:=by rw[←eρ];exact ux
  have hn0:∀i,i < ts.length→ρ0[i]?=some none:=by rw[←eρ];exact fun i h=>J6 h
  have Vm:∀b o,s2.heap.get? b=some o→h4.get? b=some o:=fun b o e=>by
    rw[←e4];exact pushCells_keeps _ _ b o (Heap.get?_push_of_some _ (Heap.get?_push_of_some _ e))
  have Yi:tn 0 h4:=T.keep _ _ _ st2 fun b _ o e=>Vm b o e
  have stat:∀{H':Hp},(∀b∈fp,H' b=none)→∀b∈fp,FpOk (bF X scope ts C s2 H2 fp) [] H' b:=fun {H'} hn b hb=>by
    have hl: @LT.lt Nat _ b Dd:=hlt b hb
    obtain⟨_,a1,a2,a3,a4,_⟩:=f2 b hb
    refine⟨hn b hb,by show @Ne Nat b C;omega,fun z=>?_,.inl hb,fun x c h=>?_,fun p hp=>absurd (show p∈([]:List (Addr×Obj)) from hp) (by simp)⟩
    · rcases List.mem_cons.mp (I2.stkSub b z) with z |z
      · exact a1 z
      · exact a2 z
    · rcases jO B I2.ok.has h with⟨_,q⟩ |⟨_,q⟩
      · show @Ne Nat c b;omega
      · exact a4 x c q
  have fr4:∀b∈fp,(upd H2 Dd (.lst [])) b=none:=fun b hb=>by
    have hl: @LT.lt Nat _ b Dd:=hlt b hb
    rw[upd_ne (show @Ne Nat b Dd by omega)];exact (f2 b hb).1
  have loop : ∀ s0:Shared,s0={s2 with heap:=h4}→codeAny (model X.prog X.w) X.A (.compLoop (.ListComp elt [⟨tg,iter,ifs,0⟩] scope pos) 0 (.ref it) (.ref Dd) (eU scope X.env C)) (compPost (model X.prog X.w) X.A X.xe use Qr (.ref Dd) C) s0:=by
    intro s0 e0
    refine codeAny_loop rfl (fun n s'=>∃i σ' H' ys ds rest,n=xs.length+1 - i∧i≤xs.length∧Inv (bF X scope ts C s2 H2 fp) [] σ' H' s'∧tn i s'.heap∧(∀b∈fp,H' b=none)∧
      In (bF X scope ts C s2 H2 fp) (fun a=>O a∨a=Dd) H' ρ0 σ'∧Same H2 H'∧H' Dd=some (.lst ys)∧Ac H2 Dd O H' ds ys∧ig (jP gt ft fe ρ0) (xs.drop i)= .ok rest∧ds++rest=all) (fun n s' hI=>?_) (xs.length+1)
      ⟨0,_,_,[],[],all,rfl,Nat.zero_le _,e0▸I4,e0▸Yi,fr4,j4,sD,upd_same,AC.nil,by simpa using hall,rfl⟩
    obtain⟨i,σ',H',ys,ds,rest,rfl,hil,I',st',fr',j',sm',hD',MK,hm',hr'⟩:=hI
    show wpAny (model X.prog X.w) X.A ((compTurn (.ListComp elt [⟨tg,iter,ifs,0⟩] scope pos) 0 (.ref it) (.ref Dd) (eU scope X.env C)).onRaise (fun x=>do noteFrame x (eU scope X.env C);theTreesLotGoes x)) _ _ s'
    refine wpAny_noted ?_
    rw[compTurn_list]
    have J7:=yr _ H' (MJ sm') i
    refine wpAny_bind (wpAny_standAt (wpAny_bind ?_))
    by_cases hlt':i < xs.length
    · -- a turn
      have ex:xs[i]?=some xs[i]:=by simp[hlt']
      have ed:xs.drop i=xs[i]::xs.drop (i+1):=List.drop_eq_getElem_cons hlt'
      rw[ed] at hm'
      obtain⟨o,rest',k1,k2,k3⟩:=J5 hm'
      obtain⟨Xz,jy⟩:=J7.1 _ ex
      refine wpAny_mono (T.item (bF X scope ts C s2 H2 fp) rfl rfl rfl hc i [] s' σ' H' (fun _ _=>False) I' (stat fr') st' Xz) (fun r s4 ⟨u,hr,h4'⟩=>?_) fun _ _ z=>z.elim
      subst hr
      refine wpAny_bind (wpAny_mono h4' (fun _ s5 ⟨x,H5,I5,r5,y5,st5,fr5⟩=>?_) fun _ _ z=>z.elim)
      obtain⟨qO,aaK⟩:=jy x H5 y5
      have I5':=I5.pinned (stat fr5) (T.obj _ _ st5)
      have k1:(gt xs[i] ρ0).bind (fun ρ1=>(ft ρ1).bind fun b=>if b=true then (fe ρ1).bind fun d=> .ok (some d) else .ok none)= .ok o:=k1
      cases q1:gt xs[i] ρ0 with
      |bad=>rw[q1] at k1;cases k1
      |err c=>rw[q1] at k1;cases k1
      | ok ρ1 =>
        rw[q1] at k1
        have k1:(ft ρ1).bind (fun b=>if b=true then (fe ρ1).bind fun d=> .ok (some d) else .ok none)= .ok o:=k1
        refine wpAny_bind (wpAny_mono (hg C s2 H2 fp B.nd _ s5 σ' H5 x u (fun σ6 H6=>H6=H5∧In (bF X scope ts C s2 H2 fp) (fun a=>O a∨a=Dd) H5 ρ1 σ6) I5' r5 ⟨ρ0,_,xs[i],ρ1,j'.same qO,aaK,q1,fun σ6 j6=>⟨rfl,j6⟩⟩) (fun _ s6 ⟨σ6,H6,I6,eH,j6⟩=>?_) fun _ _ z=>(show False from z).elim)
        subst eH
        cases q2:ft ρ1 with
        |bad=>rw[q2] at k1;cases k1
        |err c=>rw[q2] at k1;cases k1
        | ok bb =>
          rw[q2] at k1
          have k1:(if bb=true then (fe ρ1).bind fun d=>R.ok (some d) else .ok none)= .ok o:=k1
          have gtest:tG (bF X scope ts C s2 H2 fp) rB ft σ6 H6 (fun b H7=>b=bb∧Same H6 H7):=⟨ρ1,_,j6,by rw[q2];exact fun b H7 s7 e7=>⟨e7.symm,s7⟩⟩
          refine wpAny_bind (wpAny_mono (ht C s2 H2 fp _ s6 σ6 H6 _ I6 gtest) (fun ok s7 ⟨H7,I7,ok7,mO⟩=>?_) fun _ _ z=>(show False from z).elim)
          subst ok7
          have back:∀{H8:Hp} {s8:Shared} {ys':List V} {ds':List D},Inv (bF X scope ts C s2 H2 fp) ([]++pinsAt fp s5.heap) σ6 H8 s8→Same H2 H8→In (bF X scope ts C s2 H2 fp) (fun a=>O a∨a=Dd) H8 ρ0 σ6→H8 Dd=some (.lst ys')→Ac H2 Dd O H8 ds' ys'→ds'++rest'=all→
              ∃ m,m < xs.length+1 - i∧∃i σ' H' ys ds rest,m=xs.length+1 - i∧i≤xs.length∧Inv (bF X scope ts C s2 H2 fp) [] σ' H' s8∧tn i s8.heap∧(∀b∈fp,H' b=none)∧
                In (bF X scope ts C s2 H2 fp) (fun a=>O a∨a=Dd) H' ρ0 σ'∧Same H2 H'∧H' Dd=some (.lst ys)∧Ac H2 Dd O H' ds ys∧ig (jP gt ft fe ρ0) (xs.drop i)= .ok rest∧ds++rest=all:=by
            intro H8 s8 ys' ds' I8 wF j8 GZ Ud hr8
            refine⟨xs.length+1 - (i+1),by omega,i+1,σ6,H8,ys',ds',rest',rfl,by omega,I8.unpinned,T.keep _ _ _ st5 fun b hb o e=>(I8.pin (b,o) (List.mem_append_right _ (List.mem_append_right _ (mem_pinsAt hb e)))).1,fun b hb=>?_,j8,wF,GZ,Ud,k2,hr8⟩
            obtain⟨o,e,d⟩:=T.obj _ _ st5 b hb
            exact (I8.pin (b,o) (List.mem_append_right _ (List.mem_append_right _ (mem_pinsAt hb e)))).2.1
          have Yj:In (bF X scope ts C s2 H2 fp) (fun a=>O a∨a=Dd) H6 ρ0 σ6:=In.back (n:=ts.length) j6 hn0 (fun k hk'=>hk _ _ _ q1 k hk') lρ0
          cases ok with
          | false=>
            have k1:R.ok none=R.ok o:=k1
            cases k1
            refine wpAny_pure ⟨rfl,?_⟩
            refine back I7 (sm'.trans (qO.trans mO)) (Yj.same mO) (mO _ _ (qO _ _ hD')) (AC.same MK hD' (qO.trans mO)) ?_
            rw[←hr',k3];rfl
          | true =>
            have k1:(fe ρ1).bind (fun d=>R.ok (some d))= .ok o:=k1
            cases q3:fe ρ1 with
            |bad=>rw[q3] at k1;cases k1
            |err c=>rw[q3] at k1;cases k1
            | ok d =>
              rw[q3] at k1
              have k1:R.ok (some d)=R.ok o:=k1
              cases k1
              have aaL:tGr (bF X scope ts C s2 H2 fp) Re fe σ6 H7 (fun v H8=>Same H7 H8∧Re H7 (fun a=>O a∨a=Dd) H8 d v):=⟨ρ1,_,j6.same mO,by rw[q3];exact fun v H8 s8 r8=>⟨s8,r8⟩⟩
              refine wpAny_bind (wpAny_bind (wpAny_mono (he C s2 H2 fp _ s7 σ6 H7 _ I7 aaL) (fun xv s8 ⟨v8,H8,I8,r8,wF,aaM⟩=>?_) fun _ _ z=>(show False from z).elim))
              have GZ:H8 Dd=some (.lst ys):=wF _ _ (mO _ _ (qO _ _ hD'))
              have rp7:Ac H2 Dd O H7 ds ys:=AC.same MK hD' (qO.trans mO)
              have hD7:H7 Dd=some (.lst ys):=mO _ _ (qO _ _ hD')
              have hds:ds++d::rest'=all:=by rw[←hr',k3];rfl
              have hyl:ys.length < sizeLine:=by
                have:=kI
                have e1:=AC.len rp7
                have e2:=congrArg List.length hds
                rw[List.length_append,List.length_cons] at e2
                omega
              refine wpAny_bind (wpAny_mono (mt_append (X:=bF X scope ts C s2 H2 fp) _ s8 σ6 H8 (.ref Dd) [v8] (.ref Dd) [xv] (fun _ H9=>H9=upd H8 Dd (.lst (ys++[v8]))) I8 rfl (.cons r8 .nil) ⟨_,ys,v8,rfl,rfl,GZ,hyl,rfl⟩) (fun _ s9 ⟨_,H9,I9,_,eH9⟩=>?_) fun _ _ z=>(show False from z).elim)
              subst eH9
              have aaN:Same H2 H8:=sm'.trans (qO.trans (mO.trans wF))
              have MN:fL X.K (fun a=>O a∨a=Dd) H8 (fun a=>O a∨a=Dd) (upd H8 Dd (.lst (ys++[v8]))):=by
                refine⟨⟨fun b zs h=>?_,fun b zs n h=>?_⟩,fun a z=> .inl z,fun a z=>?_⟩
                · have nb:b≠Dd:=fun e=>by
                    rw[e] at h
                    rcases h with h |⟨o,h⟩ <;> rw[GZ] at h <;> cases h
                  rcases h with h |⟨o,h⟩
                  · exact .inl (by rw[upd_ne nb];exact h)
                  · exact .inr ⟨o,by rw[upd_ne nb];exact h⟩
                · have nb:b≠Dd:=fun e=>n (.inr e)
                  rcases h with h |⟨o,h⟩
                  · exact .inl (by rw[upd_ne nb];exact h)
                  · exact .inr ⟨o,by rw[upd_ne nb];exact h⟩
                · by_cases ea:a=Dd
                  · rw[ea,upd_same] at z;cases z
                  · rw[upd_ne ea] at z;exact z
              have Yk:Same H2 (upd H8 Dd (.lst (ys++[v8]))):=fun b o e=>by
                rw[upd_ne (ne_of_none e zW)];exact aaN _ _ e
              refine wpAny_pure (wpAny_pure ⟨rfl,?_⟩)
              refine back I9 Yk (In.go (Yj.same (mO.trans wF)) hv0 MN (Yh Yk upd_same)) upd_same (AC.app rp7 zW hD7 (sm'.trans (qO.trans mO)) wF aaM MN) ?_
              rw[List.append_assoc];exact hds
    · -- the end
      have ei:i=xs.length:=by omega
      subst ei
      have hrest:rest=[]:=by
        have hm':ig (jP gt ft fe ρ0) (xs.drop xs.length)= .ok rest:=hm'
        rw[List.drop_length] at hm'
        cases hm';rfl
      subst hrest
      rw[List.append_nil] at hr'
      subst hr'
      refine wpAny_mono (T.done (bF X scope ts C s2 H2 fp) rfl rfl rfl hc _ [] s' σ' H' (fun _ _=>False) I' (stat fr') st' (J7.2 (Nat.le_refl _))) (fun r s5 ⟨hr,I5⟩=>?_) fun _ _ z=>z.elim
      subst hr
      refine wpAny_pure ?_
      obtain⟨m,hns,_⟩:=I5.loc
      have hCn:H' C=none:=I5.free
      have I6:Inv X pins σ H' s5:=by
        refine I2.call' (s':=s5) (ch:=fp) I5.os ⟨fun b o e n hb hx=>I5.base.keep b o e n hb hx,fun b o e n hb hx=>I5.base.slot b o e n hb hx,I5.base.free,fun b o e hx=>I5.base.there b o e hx,I5.base.tups,I5.base.frzs,I5.base.tbls⟩ (fun b u e=>I5.hok b u e) I5.bare fun b hb=>⟨(f2 b hb).2.2.2.1,(f2 b hb).2.1,(f2 b hb).2.2.2.2.1,(f2 b hb).2.2.2.2.2⟩
      exact hQ (.ref Dd) H' s5 C m _ (.ref Dd) (g3 _ _ sm' ⟨H2,Dd,_,_,rfl,rfl,smH,zW,hDk,sm',hD',MK⟩) I6 hns (I2.fpOk (show @LE.le Nat _ _ C by omega) hCn) rfl
  exact codeAny_compStart_list (loop _ rfl) (T.self _ 0 _ _ _ Yi (loop _ rfl))
noncomputable def reP (K:PySem.W.Frag):Hp→(Addr→Prop)→Hp→D→V→Prop:=fun _ O H d v=>Rep K O H d v
noncomputable def acP (K:PySem.W.Frag):Hp→Addr→(Addr→Prop)→Hp→List D→List V→Prop:=fun _ a O H ds ys=>aV K (fun b=>O b∨b=a) H ds ys
theorem DE.toP {e:Expr} {f:aq→R D} (h:DE X e f):Yr X (reP X.K) e f:=PE.imp h fun σ H Q q=>by
  obtain⟨ρ,O,j,q⟩:=q
  exact⟨ρ,O,j,q⟩
theorem Ys {K:PySem.W.Frag}:AcR K (reP K) (acP K) where
  nil:=aV.nil
  same:=fun h _ s=>aV.same s h
  len:=fun h=>aV.length h
  app:=fun h _ _ _ s r rc=>((aV.same s h).append (.cons r .nil)).go rc
noncomputable def reF (K:PySem.W.Frag):Hp→(Addr→Prop)→Hp→D→V→Prop:=fun H0 O H' d v=>∃a ys ds,d= .lst ds∧v= .ref a∧H0 a=none∧K.lookup a=none∧H' a=some (.lst ys)∧aV K (fun b=>O b∨b=a) H' ds ys
noncomputable abbrev DEF (X:Cx) (e:Expr) (f:aq→R D):Prop:=Yr X (reF X.K) e f
theorem good.rel {α β:Type} {Rl Rm:(Addr→Prop)→Hp→α→β→Prop} {O:Addr→Prop} {r:R α} {σ:St} {H:Hp} {Q:β→Hp→Prop} (w:∀a b H',Same H H'→Rm O H' a b→Rl O H' a b) (h:good X Rl O r σ H Q):good X Rm O r σ H Q:=by
  cases r with
  |ok a=>exact fun b H' s q=>h b H' s (w a b H' s q)
  |err c=>exact h
  |bad=>exact h
theorem M4 {Re:Hp→(Addr→Prop)→Hp→D→V→Prop} {Ac:Hp→Addr→(Addr→Prop)→Hp→List D→List V→Prop} (AC:AcR X.K Re Ac) {tg iter elt:Expr} {ifs:List Expr} {scope:Scope} {pos:Pos} {fi:aq→R (List D)} {gt:D→aq→R aq} {ft:aq→R Bool} {fe:aq→R D} (ts:List Str) (caps:List Nat)
    (hc:X.calm=true) (hb:uQ X.env.scope scope ts X.N=true) (hcap:(dJ scope).map (fun x=>kW x X.N)=caps)
    (hi:DI X tg iter fi) (hk:lB ts.length gt) (hg:∀C s H ex,(bF X scope ts C s H ex).N.Nodup→DG (bF X scope ts C s H ex) tg gt) (ht:∀C s H ex,Dn (bF X scope ts C s H ex) ifs ft) (he:∀C s H ex,Yr (bF X scope ts C s H ex) Re elt fe)
    (hs:∀x,foldedSetIterable iter X.env x=pure x:=by intro _;rfl):
    PE X (.ListComp elt [⟨tg,iter,ifs,0⟩] scope pos) (fun σ H Q=>∃ρ O,In X O H ρ σ∧good X (Ui X H Ac) O (bB ts.length caps fi gt ft fe ρ) σ H Q):=by
  intro pins s σ H Q I h
  obtain⟨ρ,O,j,h⟩:=h
  rw[eval_ListComp]
  refine Kg (Q:=Q) (Qr:=EP X pins σ Q) AC ts caps hc hb hcap hi hk hg ht he hs I j ?_ h
  intro v H' s5 C m f acc hq I5 hns fC rel
  exact⟨m,hns,fun h' sb=>⟨v,H',I5.fp fC sb,rel,hq⟩⟩
theorem aaP {tg iter elt:Expr} {ifs:List Expr} {scope:Scope} {pos:Pos} {fi:aq→R (List D)} {gt:D→aq→R aq} {ft:aq→R Bool} {fe:aq→R D} (ts:List Str) (caps:List Nat)
    (hc:X.calm=true) (hb:uQ X.env.scope scope ts X.N=true) (hcap:(dJ scope).map (fun x=>kW x X.N)=caps)
    (hi:DI X tg iter fi) (hk:lB ts.length gt) (hg:∀C s H ex,(bF X scope ts C s H ex).N.Nodup→DG (bF X scope ts C s H ex) tg gt) (ht:∀C s H ex,Dn (bF X scope ts C s H ex) ifs ft) (he:∀C s H ex,DE (bF X scope ts C s H ex) elt fe)
    (hs:∀x,foldedSetIterable iter X.env x=pure x:=by intro _;rfl):DEF X (.ListComp elt [⟨tg,iter,ifs,0⟩] scope pos) (bB ts.length caps fi gt ft fe):=by
  refine PE.imp (M4 Ys ts caps hc hb hcap hi hk hg ht (fun C s H ex=>(he C s H ex).toP) hs) fun σ H Q h=>?_
  obtain⟨ρ,O,j,h⟩:=h
  exact⟨ρ,O,j,good.rel (fun d v H' sm ⟨Hs,a,ys,ds,e1,e2,s1,n1,k1,s2,e3,r⟩=>⟨a,ys,ds,e1,e2,Same.free s1 n1,k1,e3,r⟩) h⟩
theorem At.adL {H0 H H':Hp} {O0 O:Addr→Prop} {ρ:aq} {σ:St} (j:At X H0 O0 O H ρ σ) {i:Nat} (hi:i < X.N.length) {a:Addr} {ys:List V} {ds:List D} (sm:Same H H') (hp:H a=none) (hk:X.K.lookup a=none) (e:H' a=some (.lst ys)) (r:aV X.K (fun b=>O b∨b=a) H' ds ys):
    At X H0 O0 (fun b=>O b∨b=a) H' (ρ.set i (some (.lst ds))) (σ.set i (some (.ref a)))∧fL X.K O H (fun b=>O b∨b=a) H':=by
  have s1:Same H (fun b=>if b=a then none else H' b):=fun b o q=>by
    show (if b=a then none else H' b)=_
    rw[if_neg (ne_of_none q hp)];exact sm _ _ q
  have eu:upd (fun b=>if b=a then none else H' b) a (.lst ys)=H':=funext fun b=>by
    by_cases z:b=a
    · rw[z,upd_same,e]
    · rw[upd_ne z];exact if_neg z
  have h:=(j.grow s1).own hi (p:=a) (o:= .lst ys) (en:= .lst ds) (if_pos rfl) hk rfl (by rw[eu];exact⟨a,ys,rfl,.inr rfl,e,r⟩)
  rw[eu] at h
  exact⟨h.1,(Same.eY s1).trans h.2⟩
noncomputable def xY (f:aq→R D) (i:Nat):aq→So:=fun ρ=>jc (f ρ) ρ fun d=>match d with
  | .lst ds=> .nx (ρ.set i (some (.lst ds)))
  |_=> .bad
theorem Yt (i:Nat) {x:Str} {e:Expr} {f:aq→R D} {pos pos':Pos} (hN:X.N.Nodup) (he:DEF X e f) (hi:X.N[i]?=some x:=by rfl) (hx:Loc X.env.scope x:=by first |exact Or.inl rfl |exact Or.inr rfl) (hs:swapsWith e (some (.Name x pos')) pos.line X.env=pure false:=by rfl)
    (hf:X.fn x=true∨X.env.scope.names.lookup x=some .local:=by first |exact .inl rfl |exact .inr rfl):DS X (.Assign [.Name x pos'] e pos) (xY f i):=by
  refine PS.imp (ps_set hN hi hx he hs hf) fun σ H E h=>?_
  obtain⟨H0,O0,O,ρ,j,h⟩:=h
  refine⟨ρ,O,j.inn,?_⟩
  unfold xY jc at h
  cases e1:f ρ with
  |bad=>rw[e1] at h;exact h
  |err c=>rw[e1] at h;exact h σ H O j
  | ok d=>
    rw[e1] at h
    rintro v H' sm ⟨a,ys,ds,rfl,rfl,n1,k1,e3,r⟩
    obtain⟨j2,r2⟩:=j.adL (List.getElem?_eq_some_iff.mp hi).1 sm n1 k1 e3 r
    exact h _ _ _ j2 r2
theorem aaQ (i:Nat) {x:Str} {pos' cpos pos:Pos} {tg iter elt:Expr} {ifs:List Expr} {scope:Scope} {fi:aq→R (List D)} {gt:D→aq→R aq} {ft:aq→R Bool} {fe:aq→R D} (hN:X.N.Nodup) (ts:List Str) (caps:List Nat)
    (hc:X.calm=true) (hb:uQ X.env.scope scope ts X.N=true) (hcap:(dJ scope).map (fun x=>kW x X.N)=caps)
    (hi:DI X tg iter fi) (hk:lB ts.length gt) (hg:∀C s H ex,(bF X scope ts C s H ex).N.Nodup→DG (bF X scope ts C s H ex) tg gt) (ht:∀C s H ex,Dn (bF X scope ts C s H ex) ifs ft) (he:∀C s H ex,DE (bF X scope ts C s H ex) elt fe)
    (hix:X.N[i]?=some x:=by rfl) (hx:Loc X.env.scope x:=by first |exact Or.inl rfl |exact Or.inr rfl) (hf:X.fn x=true∨X.env.scope.names.lookup x=some .local:=by first |exact .inl rfl |exact .inr rfl)
    (hsw:swapsWith (.ListComp elt [⟨tg,iter,ifs,0⟩] scope cpos) (some (.Name x pos')) pos.line X.env=pure true:=by rfl)
    (hs:∀x,foldedSetIterable iter X.env x=pure x:=by intro _;rfl):
    DS X (.Assign [.Name x pos'] (.ListComp elt [⟨tg,iter,ifs,0⟩] scope cpos) pos) (xY (bB ts.length caps fi gt ft fe) i):=by
  intro pins s σ H E I h
  obtain⟨H0,O0,O,ρ,j,h⟩:=h
  rw[exec_Assign_Name_used _ _ _ _ hsw]
  refine wpAny_bind (wpAny_standAt (wpAny_bind ?_))
  show wpAny _ _ (comprehension (.ListComp elt [⟨tg,iter,ifs,0⟩] scope cpos) scope X.env _ (newList []) false (eval iter X.env) (some (assign (.Name x pos') X.env)) >>=fun _=>pure ()) _ _ _
  unfold xY jc at h
  refine wpAny_bind (Kg (Q:=fun v H'=>∃d,bB ts.length caps fi gt ft fe ρ= .ok d∧Same H H'∧Ui X H (acP X.K) O H' d v) (Qr:=fun _ s'=>wpAny (model X.prog X.w) X.A (pure ()) (fun _ s1=>wpAny (model X.prog X.w) X.A (pure Flow.next) (SP X pins E) X.xe s1) X.xe s') Ys ts caps hc hb hcap hi hk hg ht (fun C s H ex=>(he C s H ex).toP) hs I j.inn ?_ ?_)
  · intro v H' s5 C m f acc hq I5 hns fC rel
    obtain⟨d,ed,sm,Hs,a,ys,ds,rfl,rfl,s1,n1,k1,s2,e3,r⟩:=hq
    rw[ed] at h
    have h:uy X H0 O0 O H E (.nx (ρ.set i (some (.lst ds)))):=h
    obtain⟨o,es,ep,ho,hd,hr⟩:=hns
    have Ip:=I5.pinned (fp:=[C]) (fun b hb=>by rw[List.mem_singleton.mp hb];exact fC) (fun b hb=>by rw[List.mem_singleton.mp hb];exact⟨o,ho,fun v z=>by rw[hd] at z;cases z⟩)
    show wpAny (model X.prog X.w) X.A (assign (.Name x pos') X.env acc) _ X.xe s5
    refine wpAny_mono (pg_name hN hix hx hf _ s5 σ H' (.ref a) acc (fun σ' wG=>σ'=σ.set i (some (.ref a))∧wG=H') Ip rel ⟨rfl,rfl⟩) (fun _ s6 ⟨σ',wG,I',e1,e2⟩=>?_) fun _ _ z=>z
    subst e1 e2
    have pn:=(I'.pin (C,o) (List.mem_append_right _ (List.mem_append_right _ (mem_pinsAt (List.mem_singleton.mpr rfl) ho)))).1
    obtain⟨j2,r2⟩:=j.adL (List.getElem?_eq_some_iff.mp hix).1 sm (Same.free s1 n1) k1 e3 r
    refine⟨m,⟨o,es,ep,pn,hd,hr⟩,fun h' sb=>wpAny_pure (wpAny_pure ⟨_,wG,(I'.unpinned).fp fC sb,h _ _ _ j2 r2⟩)⟩
  · cases e1:bB ts.length caps fi gt ft fe ρ with
    |bad=>rw[e1] at h;exact h
    |err c=>rw[e1] at h;exact h σ H O j
    |ok d=>exact fun v H' sm r=>⟨d,rfl,sm,r⟩
theorem aaR:OpR X (binaryOp .Add) (fun x y H Q=>∃a b xs ys,x= .ref a∧y= .ref b∧SqL X.K H a xs∧SqL X.K H b ys∧xs.length+ys.length≤sizeLine∧∀p,H p=none→X.K.lookup p=none→Q (.ref p) (upd H p (.lst (xs++ys)))):=by
  intro pins s σ H x y v u Q I rx ry h
  obtain⟨a,b,xs,ys,rfl,rfl,ha,hb,hz,q⟩:=h
  cases rx
  cases ry
  obtain⟨its,r1,p1,_⟩:=I.list ha
  obtain⟨its2,r2,p2,_⟩:=I.list hb
  obtain⟨⟨cls,dd,data,sl⟩,n,ho,hc,hdd,hd⟩:=id p1
  obtain⟨⟨cls2,dd2,data2,sl2⟩,n2,ho2,hc2,aeW,hd2⟩:=id p2
  simp only at hc hd hc2 hd2
  subst hc hd hc2 hd2
  refine concat_meets ⟨_,ho,rfl⟩ ⟨_,ho2,rfl⟩ noFill_list_add seq_list_add PySem.F.slot_list_add PySem.F.entry_list_add (PySem.F.args_list_add_2 _ _)
      (list_addW a b _ _ n n2 dd dd2 sl sl2 (by rw[List.size_toArray,List.size_toArray,←r1.length,←r2.length];exact hz)) ⟨ho,ho2,?_⟩
  have ea:its.toArray++its2.toArray=(its++its2).toArray:=by simp
  rw[ea]
  exact⟨.ref _,_,I.lnew (t':=s.toks) (r1.append r2) (by rw[List.length_append];omega),rfl,q _ I.fresh (Inv.aax I)⟩
theorem aaS:OpR X (binaryOp .Mult) (fun x y H Q=>∃a k xs,x= .ref a∧y= .int k∧SqL X.K H a xs∧1≤k∧k < 2 ^ 63∧xs.length*k.toNat≤1000000∧∀p,H p=none→X.K.lookup p=none→Q (.ref p) (upd H p (.lst (List.replicate k.toNat xs).flatten))):=by
  intro pins s σ H x y v u Q I rx ry h
  obtain⟨a,k,xs,rfl,rfl,hq,h1,h2,hz,q⟩:=h
  cases rx
  obtain⟨t,rfl⟩:=ry
  obtain⟨its,r,p1,_⟩:=I.list hq
  obtain⟨⟨cls,dd,data,sl⟩,ho,hc,n,hd⟩:=id p1.isList
  simp only at hc hd
  subst hc hd
  have hlen:=r.length
  have hz':its.toArray.size*k.toNat≤1000000:=by rw[List.size_toArray,←hlen];exact hz
  have hz2:its.length*k.toNat≤1000000:=by rw[←hlen];exact hz
  refine wpAny_binaryOp_repeat_ref (T:= "list") (U:= "int") (by decide) ⟨_,ho,rfl⟩ (fun s'=>typeIs_int s' k t) noFill_list_mul F.fills_int_mul F.slot_int_rmul repeat_list F.slot_int_index.lookup
    (call_meets F.slot_int_rmul (typeIs_int s k t) F.entry_int_rmul (F.args_int_rmul_2 _ _) (lm_int_rmul_list_any k t a its.toArray n dd sl) ⟨ho,rfl,⟨_,ho,rfl⟩,?_⟩)
  refine call_meets F.slot_list_mul ⟨_,ho,rfl⟩ F.entry_list_mul (F.args_list_mul_2 _ _) (lm_list_mul_any a its.toArray n dd sl k t (by simp[Builtin.List.listFitsIndex];omega) (by omega) (by simp[Builtin.List.listTooLong,sizeLine];omega)) ⟨ho,?_⟩
  rw[listMul_foldl_if]
  refine⟨.ref s.heap.objs.size,_,I.laid (t':=s.toks) (o:= .lst (List.replicate k.toNat xs).flatten) (fun b ob z=>Heap.get?_push_of_some _ z) (Nat.le_refl _) ?_,rfl,q _ (I.hok.fresh (Nat.le_refl _)) (Inv.aax I)⟩
  exact⟨by rw[len_rep,Nat.mul_comm];exact Nat.le_trans hz eE,_,_,r.rep k.toNat,Heap.get?_push_size _ rfl⟩
theorem aV.adM {K:PySem.W.Frag} {O:Addr→Prop} {H:Hp} {p:Addr} {o:HO} {ds:List D} {vs:List V} (h:aV K O H ds vs) (hp:H p=none) (hk:K.lookup p=none):aV K (fun b=>O b∨b=p) (upd H p o) ds vs:=
  h.go ⟨(Same.eY (K:=K) (O:=O) (Same.upd hp)).ext,fun a z=>z.elim .inl fun e=> .inr (by rw[e];exact⟨hp,hk⟩),(Same.eY (K:=K) (O:=O) (Same.upd hp)).dom⟩
noncomputable def aaT:D→D→R D
  | .lst xs,.lst ys=>if xs.length+ys.length≤1000000 then .ok (.lst (xs++ys)) else .bad
  |_,_=> .bad
noncomputable def aaU:D→D→R D
  | .lst ds,.int k=>if ds≠[]∧1≤k∧k < 2 ^ 63∧ds.length*k.toNat≤1000000 then .ok (.lst (List.replicate k.toNat ds).flatten) else .bad
  |_,_=> .bad
theorem ab9 {a b:Expr} {f g:aq→R D} {pos:Pos} (ha:DE X a f) (hb:DE X b g):DEF X (.BinOp a .Add b pos) (bin f g aaT):=by
  refine PE.imp (pe_op aaR ha hb) fun σ H Q h=>?_
  obtain⟨ρ,O,j,h⟩:=h
  refine go j h fun dx x H1 e1 s1 r1 j1 h1=>go j1 h1 fun dy y H2 e2 s2 r2 j2 h2=>?_
  unfold aaT at h2
  split at h2
  · rename_i xs ys
    by_cases hc:xs.length+ys.length≤1000000
    · rw[if_pos hc] at h2
      obtain⟨a,us,rfl,ha,_,q1⟩:=(r1.same s2).lst
      obtain⟨b,ws,rfl,hb,_,q2⟩:=r2.lst
      exact⟨a,b,us,ws,rfl,rfl,ha,hb,by rw[←q1.length,←q2.length];exact Nat.le_trans hc eE,fun p hp hk=>h2 _ _ (Same.upd hp) ⟨p,_,_,rfl,rfl,Same.free (s1.trans s2) hp,hk,upd_same,(q1.append q2).adM hp hk⟩⟩
    · rw[if_neg hc] at h2;exact h2.elim
  · exact h2.elim
theorem acd {a b:Expr} {f g:aq→R D} {pos:Pos} (ha:DE X a f) (hb:DE X b g):DEF X (.BinOp a .Mult b pos) (bin f g aaU):=by
  refine PE.imp (pe_op aaS ha hb) fun σ H Q h=>?_
  obtain⟨ρ,O,j,h⟩:=h
  refine go j h fun dx x H1 e1 s1 r1 j1 h1=>go j1 h1 fun dy y H2 e2 s2 r2 j2 h2=>?_
  unfold aaU at h2
  split at h2
  · rename_i ds k
    by_cases hc:ds≠[]∧1≤k∧k < 2 ^ 63∧ds.length*k.toNat≤1000000
    · rw[if_pos hc] at h2
      obtain⟨a,us,rfl,ha,_,q1⟩:=(r1.same s2).lst
      obtain⟨h0,h1',h2',h3⟩:=hc
      exact⟨a,k,us,rfl,r2.int,ha,h1',h2',by rw[←q1.length];exact h3,fun p hp hk=>h2 _ _ (Same.upd hp) ⟨p,_,_,rfl,rfl,Same.free (s1.trans s2) hp,hk,upd_same,(xU q1 _).adM hp hk⟩⟩
    · rw[if_neg hc] at h2;exact h2.elim
  · exact h2.elim
noncomputable def JD (i:Nat) (fk fv:aq→R D):aq→So:=fun ρ=>jc (Dm (fv ρ)) ρ fun d=>match ρ[i]? with
  | some (some (.lst ds))=>jc (Dm (fk ρ)) ρ fun k=>match k with
    | .int k=>if 0≤k∧k < ds.length then .nx (ρ.set i (some (.lst (ds.set k.toNat d)))) else .bad
    |_=> .bad
  |_=> .bad
theorem aV.set {K:PySem.W.Frag} {O:Addr→Prop} {H:Hp} {d:D} {v:V} (rv:Rep K O H d v):∀{ds:List D} {vs:List V} (k:Nat),aV K O H ds vs→aV K O H (ds.set k d) (vs.set k v)
  |[],vs,_,h=>by rw[h.nil_inv];exact .nil
  | x::ds,vs,k,h=>by
    obtain⟨w,r,rfl,h1,h2⟩:=h.cons_inv
    cases k with
    |zero=>exact .cons rv h2
    |succ k=>exact .cons h1 (aV.set rv k h2)
theorem Uj (i:Nat) {x:Str} {ek ev:Expr} {fk fv:aq→R D} {px pos' pos:Pos} (hk:DE X ek fk) (hv:DE X ev fv) (hN:X.N[i]?=some x:=by rfl) (hvs:Vis X.env.scope x:=by first |exact Or.inl rfl |exact Or.inr (Or.inl rfl) |exact Or.inr (Or.inr rfl))
    (hd:(x ==("__debug__" :Str))=false:=by decide) (hcd:(x ==("__classdict__" :Str))=false:=by decide)
    (ha:∀v,assign (.Subscript (.Name x px) ek pos') X.env v=(do
      let ov ←holding [v] (eval (.Name x px) X.env)
      let iv ←holding [v,ov] (eval ek X.env)
      standAt pos'
      holding [v,ov,iv] (setItem ov iv v)
      release [v,ov,iv] []):=by intro _;rfl)
    (hs:swapsWithSole [.Subscript (.Name x px) ek pos'] ev pos.line X.env=pure false:=by rfl) (hw:swappedStores [.Subscript (.Name x px) ek pos'] ev X.env=pure none:=by rfl)
    (h1:(assignEach [.Subscript (.Name x px) ek pos'] X.env).map (·.2)=[assign (.Subscript (.Name x px) ek pos') X.env]:=by rfl):
    DS X (.Assign [.Subscript (.Name x px) ek pos'] ev pos) (JD i fk fv):=by
  refine PS.imp (ps_asg hv (pg_sub (pe_var hN hvs hd hcd) hk set_list ha) hs hw h1) fun σ H E h=>?_
  obtain⟨H0,O0,O,ρ,j,h⟩:=h
  unfold JD at h
  refine⟨ρ,O,j.inn,?_⟩
  cases q2:fv ρ with
  |bad=>rw[q2] at h;exact h.elim
  |err c=>rw[q2] at h;exact h.elim
  | ok d =>
    rw[q2] at h
    intro v H1 s1 rv
    have h:uy X H0 O0 O H E (match ρ[i]? with
      | some (some (.lst ds))=>jc (Dm (fk ρ)) ρ fun k=>match k with
        | .int k=>if 0≤k∧k < ds.length then .nx (ρ.set i (some (.lst (ds.set k.toNat d)))) else .bad
        |_=> .bad
      |_=> .bad):=h
    split at h
    · rename_i ds q
      obtain⟨w,hw1,a,xs,rfl,hO,hH,rs⟩:=j.inn.env.get i _ q
      refine⟨.ref a,hw1,?_⟩
      have j1:=j.grow s1
      refine⟨ρ,O,j1.inn,?_⟩
      cases q1:fk ρ with
      |bad=>rw[q1] at h;exact h.elim
      |err c=>rw[q1] at h;exact h.elim
      | ok k=>
        rw[q1] at h
        intro y H2 s2 ry
        cases k with
        | int k=>
          have h:uy X H0 O0 O H E (if 0≤k∧k < ds.length then .nx (ρ.set i (some (.lst (ds.set k.toNat d)))) else .bad):=h
          by_cases hc:0≤k∧k < ds.length
          · rw[if_pos hc] at h
            have j2:=j1.grow s2
            have hH2:=s2 _ _ (s1 _ _ hH)
            have J8:=(rs.same s1).same s2
            have hlen:=J8.length
            refine⟨a,xs,k,k.toNat,rfl,ry.int,hH2,by unfold ixN;rw[if_pos hc.1,if_pos (by omega)],?_⟩
            obtain⟨j3,r3⟩:=j2.chg (o:= .lst (xs.set k.toNat v)) (en:= .lst (ds.set k.toNat d)) q rfl hw1 hO hH2 trivial rfl fun r=>⟨a,_,rfl,hO,upd_same,(aV.set (rv.same s2) k.toNat J8).go r⟩
            exact h _ _ _ j3 ((Same.eY (s1.trans s2)).trans r3)
          · rw[if_neg hc] at h;exact h.elim
        |_=>exact h.elim
    · exact h.elim
end
end Pu
namespace Pu
open PySem PySem.Spec L2
open PyProof.Rows hiding St
inductive d8 (K:PySem.W.Frag) (O:Addr→Prop) (H:Hp):List Addr→List D→Prop
  |nil:d8 K O H [] []
  |cons {r:Addr} {zs:List V} {es:List D} {rs:List Addr} {ds:List D}:H r=some (.lst zs)→aV K O H es zs→d8 K O H rs ds→d8 K O H (r::rs) (.lst es::ds)
section
variable {K:PySem.W.Frag} {O O':Addr→Prop} {H H':Hp} {rs:List Addr} {ds:List D}
theorem d8.same (s:Same H H') (h:d8 K O H rs ds):d8 K O H' rs ds:=by
  induction h with
  |nil=>exact .nil
  |cons e r _ ih=>exact .cons (s _ _ e) (r.same s) ih
theorem d8.fewer (w:∀a,O' a→O a) (h:d8 K O H rs ds):d8 K O' H rs ds:=by
  induction h with
  |nil=>exact .nil
  |cons e r _ ih=>exact .cons e (r.fewer w) ih
theorem d8.app {r:Addr} {zs:List V} {es:List D} (e:H r=some (.lst zs)) (q:aV K O H es zs) (h:d8 K O H rs ds):d8 K O H (rs++[r]) (ds++[.lst es]):=by
  induction h with
  |nil=>exact .cons e q .nil
  |cons e' r' _ ih=>exact .cons e' r' ih
theorem d8.len (h:d8 K O H rs ds):rs.length=ds.length:=by
  induction h with
  |nil=>rfl
  |cons _ _ _ ih=>rw[List.length_cons,List.length_cons,ih]
theorem d8.go (rc:fL K O H O' H') (st:∀r∈rs,∀zs,H r=some (.lst zs)→H' r=some (.lst zs)) (h:d8 K O H rs ds):d8 K O' H' rs ds:=by
  induction h with
  |nil=>exact .nil
  |cons e q _ ih=>exact .cons (st _ (List.mem_cons_self ..) _ e) (q.go rc) (ih fun r hr=>st r (List.mem_cons_of_mem _ hr))
theorem d8.there (h:d8 K O H rs ds):∀r∈rs,∃zs,H r=some (.lst zs):=by
  induction h with
  |nil=>exact fun r hr=>absurd hr (by simp)
  | cons e q _ ih=>
    intro r hr
    rcases List.mem_cons.mp hr with z |z
    · rw[z];exact⟨_,e⟩
    · exact ih r z
theorem d8.reps (h:d8 K O H rs ds) (n:∀r∈rs,¬O r):aV K O H ds (rs.map V.ref):=by
  induction h with
  |nil=>exact .nil
  |cons e q _ ih=>exact .cons (je (SqL.of e) (n _ (List.mem_cons_self ..)) q) (ih fun r hr=>n r (List.mem_cons_of_mem _ hr))
end
noncomputable def acN (K:PySem.W.Frag):Hp→Addr→(Addr→Prop)→Hp→List D→List V→Prop:=fun H2 a O H' ds ys=>
  ∃rs:List Addr,ys=rs.map V.ref∧rs.Nodup∧(∀r∈rs,H2 r=none∧K.lookup r=none∧r≠a)∧d8 K (fun b=>O b∨b=a) H' rs ds
theorem adN {K:PySem.W.Frag}:AcR K (reF K) (acN K) where
  nil:=⟨[],rfl,.nil,fun _ h=>absurd h (by simp),.nil⟩
  same:=fun ⟨rs,e,nd,al,rr⟩ _ s=>⟨rs,e,nd,al,rr.same s⟩
  len:=fun ⟨rs,e,_,_,rr⟩=>by rw[e,List.length_map,rr.len]
  app :=by
    rintro H2 a O H7 H8 ds ys d v ⟨rs,e,nd,al,rr⟩ ha h7 s1 s2 ⟨r,zs,es,rfl,rfl,n7,nk,e8,q⟩ rc
    have hra:r≠a:=fun z=>by rw[z,h7] at n7;cases n7
    have hnr:r∉rs:=fun z=>by
      obtain⟨zs',e'⟩:=rr.there r z
      rw[n7] at e';cases e'
    subst e
    refine⟨rs++[r],by rw[List.map_append];rfl,?_,fun x hx=>?_,?_⟩
    · refine List.nodup_append.mpr ⟨nd,List.nodup_cons.mpr ⟨by simp,.nil⟩,fun x hx y hy z=>?_⟩
      rw[List.mem_singleton] at hy
      subst hy;subst z
      exact hnr hx
    · rcases List.mem_append.mp hx with z |z
      · exact al x z
      · rw[List.mem_singleton.mp z];exact⟨Same.free s1 n7,nk,hra⟩
    · refine ((rr.same s2).go rc fun x hx zs e=>?_).app ?_ ((q.fewer fun b z=> .inl z).go rc)
      · rw[upd_ne (al x hx).2.2];exact e
      · rw[upd_ne hra];exact e8
noncomputable def reN (K:PySem.W.Frag):Hp→(Addr→Prop)→Hp→D→V→Prop:=fun H0 O H' d v=>
  ∃(a:Addr) (rs:List Addr) (ds:List D),d= .lst ds∧v= .ref a∧H0 a=none∧K.lookup a=none∧H' a=some (.lst (rs.map V.ref))∧rs.Nodup∧(∀r∈rs,H0 r=none∧K.lookup r=none∧r≠a)∧d8 K O H' rs ds
section
variable {X:Cx}
theorem aaV {tg iter elt:Expr} {ifs:List Expr} {scope:Scope} {pos:Pos} {fi:aq→R (List D)} {gt:D→aq→R aq} {ft:aq→R Bool} {fe:aq→R D} (ts:List Str) (caps:List Nat)
    (hc:X.calm=true) (hb:uQ X.env.scope scope ts X.N=true) (hcap:(dJ scope).map (fun x=>kW x X.N)=caps)
    (hi:DI X tg iter fi) (hk:lB ts.length gt) (hg:∀C s H ex,(bF X scope ts C s H ex).N.Nodup→DG (bF X scope ts C s H ex) tg gt) (ht:∀C s H ex,Dn (bF X scope ts C s H ex) ifs ft) (he:∀C s H ex,DEF (bF X scope ts C s H ex) elt fe)
    (hs:∀x,foldedSetIterable iter X.env x=pure x:=by intro _;rfl):Yr X (reN X.K) (.ListComp elt [⟨tg,iter,ifs,0⟩] scope pos) (bB ts.length caps fi gt ft fe):=by
  refine PE.imp (M4 adN ts caps hc hb hcap hi hk hg ht he hs) fun σ H Q h=>?_
  obtain⟨ρ,O,j,h⟩:=h
  exact⟨ρ,O,j,good.rel (fun d v H' sm ⟨Hs,a,ys,ds,e1,e2,s1,n1,k1,s2,e3,rs,e4,nd,al,rr⟩=>⟨a,rs,ds,e1,e2,Same.free s1 n1,k1,by rw[e3,e4],nd,fun r hr=>⟨Same.free s1 (al r hr).1,(al r hr).2⟩,rr.fewer fun _ z=> .inl z⟩) h⟩
noncomputable def spN (K:PySem.W.Frag) (n:Nat) (F:List D→R D):Sp:=fun vs H Q _=>∃O ds,aV K O H ds vs∧ds.length=n∧(∀a,O a→∃o,H a=some o)∧match F ds with
  | .ok d=>∀v H',Same H H'→reN K H O H' d v→Q v H'
  |_=>False
theorem M5 {X:Cx} {N:List Str} {O:Addr→Prop} {H:Hp} {ds:List D} {vs:List V} {m:Nat} (hN:X.N=N) (r:aV X.K O H ds vs) (al:∀a,O a→∃o,H a=some o) (hm:N.length=ds.length+m):
    At X H O O H (ds.map (fun d=>some (.val d))++List.replicate m none) (L2.start N vs):=by
  have hst:L2.start N vs=vs.map some++List.replicate m none:=by
    unfold L2.start
    rw[show N.length - vs.length=m by rw[←r.length];omega]
  refine⟨Same.refl _,.refl,fun _ z=>z,⟨⟨fun i e q=>?_,fun i k e e' v _ hi _ oi=>?_⟩,al,?_,?_⟩,fun i e a q ho=>?_⟩
  · obtain⟨v,h1,h2,_⟩:=rN r m i e q
    exact⟨v,by rw[hst];exact h1,h2⟩
  · obtain⟨_,_,_,h3⟩:=rN r m i e hi
    rw[h3] at oi;cases oi
  · rw[hst,List.length_append,List.length_map,List.length_replicate,←r.length,hN];omega
  · rw[List.length_append,List.length_map,List.length_replicate,hN];omega
  · obtain⟨_,_,_,h3⟩:=rN r m i e q
    rw[h3] at ho;cases ho
end
section
variable {P:Program} {w:World} {K:PySem.W.Frag} {mg:Str→Option Value} {base:Heap}
theorem fnN {x qual:Str} {st:Stmt} {f:Addr} {fd:FuncData} {N ps:List Str} {k n m:Nat} {g1:aq→So} {fe:aq→R D} (Fn:Fun K x qual st f fd) (S:FnScope N ps (defScope st)) (hn:ps.length=n) (hm:N.length=n+m)
    (hb:∀(cdv:Value) (A:Around) (outer:List PySem.Env) (s:Shared) (H:Hp) (E:XK),Room k (A.deeper (envOfC qual (defScope st) s.heap.objs.size f cdv))→PSs (cxOf CX0 P w K mg base N qual (defScope st) f cdv A outer s H E).nox (defBody st) (tSeq (tS (cxOf CX0 P w K mg base N qual (defScope st) f cdv A outer s H E).nox g1) (tRet (tGr (cxOf CX0 P w K mg base N qual (defScope st) f cdv A outer s H E).nox (reN K) fe))))
    (hg1:∀ρ d,g1 ρ≠.rt d):FnOk P w K mg base CX0 (k+1) f fd ps (spN K n (cO m (aZ g1 (retS fe)))):=by
  refine Fn.ok S (fun vs H Q E h=>?_) (fun cdv A outer s H vs Q E hr h=>?_)
  · obtain⟨O,ds,r,hl,_⟩:=h
    rw[hn,←hl,r.length]
  · obtain⟨O,ds,r,hl,al,h⟩:=h
    refine⟨_,hb cdv A outer s H E hr,H,O,O,ds.map (fun d=>some (.val d))++List.replicate m none,M5 (X:=(cxOf CX0 P w K mg base N qual (defScope st) f cdv A outer s H E).nox) (N:=N) rfl r al (by omega),?_⟩
    cases e:cO m (aZ g1 (retS fe)) ds with
    |bad=>rw[e] at h;exact h.elim
    |err c=>rw[e] at h;exact h.elim
    | ok d=>
      rw[e] at h
      unfold cO aZ at e
      cases e2:g1 (ds.map (fun d=>some (.val d))++List.replicate m none) with
      |bad=>rw[e2] at e;cases e
      |rt d'=>exact absurd e2 (hg1 _ _)
      |bk _=>rw[e2] at e;cases e
      |ct _=>rw[e2] at e;cases e
      |ex _ _=>rw[e2] at e;cases e
      | nx ρ1=>
        rw[e2] at e
        intro σ' H' O' j' _
        refine⟨cG ρ1,LR ρ1 σ' O',j'.inn.cG,?_⟩
        have e:(match jc (fe (cG ρ1)) ρ1 .rt with
          | .rt d=>R.ok d
          | .nx _=> .ok .non
          | .ex c _=> .err c
          |_=> .bad)= .ok d:=e
        cases e3:fe (cG ρ1) with
        |bad=>rw[e3] at e;cases e
        |err c=>rw[e3] at e;cases e
        | ok d'=>
          rw[e3] at e
          cases e
          rintro v wG sm ⟨a,rs,es,e4,e5,n1,k1,e6,nd,al',rr⟩
          exact h v wG (j'.same.trans sm) ⟨a,rs,es,e4,e5,Same.free j'.same n1,k1,e6,nd,fun r hr=>⟨Same.free j'.same (al' r hr).1,(al' r hr).2⟩,rr.fewer j'.adz⟩
noncomputable def M6 (P:Program) (w:World) (K:PySem.W.Frag) (mg:Str→Option Value) (base:Heap) (k:Nat) (x:Str) (n:Nat) (F:List D→R D):Prop:=
  ∃f fd ps,FnOk P w K mg base CX0 k f fd ps (spN K n F)∧mg x=some (.ref f)∧PySem.W.keepIn K (.ref f)=true∧Binds K fd ps []
end
end Pu
namespace Pu
open PySem PySem.Spec L2
open PyProof.Rows hiding St
noncomputable def tk (rows:List (List Bool)):D:= .lst (rows.map fun r=> .lst (r.map D.bl))
noncomputable def il (zs:List Int):D:= .lst (zs.map D.int)
structure m5 (H:Hp) (rs:List Addr) (rows:List (List Bool)):Prop where
  len:rs.length=rows.length
  at_:∀(i:Nat) r row,rs[i]?=some r→rows[i]?=some row→H r=some (.lst (row.map V.bl))
noncomputable def But (rs:List Addr) (H H':Hp):Prop:=∀b u,b∉rs→H b=some u→H' b=some u
theorem But.trans {rs:List Addr} {H H1 H2:Hp} (h:But rs H H1) (k:But rs H1 H2):But rs H H2:=fun b u n e=>k b u n (h b u n e)
theorem But.of {rs:List Addr} {H H1:Hp} (h:Same H H1):But rs H H1:=fun b u _ e=>h b u e
theorem m5.same {H H':Hp} {rs:List Addr} {rows:List (List Bool)} (h:m5 H rs rows) (s:Same H H'):m5 H' rs rows:=⟨h.len,fun i r row e1 e2=>s _ _ (h.at_ i r row e1 e2)⟩
theorem Uk {K:PySem.W.Frag} {O:Addr→Prop} {H:Hp}:∀(row:List Bool),aV K O H (row.map D.bl) (row.map V.bl)
  |[]=> .nil
  |b::row=> .cons (gW b) (Uk row)
theorem Dr {K:PySem.W.Frag} {O:Addr→Prop} {H:Hp}:∀{row:List Bool} {vs:List V},aV K O H (row.map D.bl) vs→vs=row.map V.bl
  |[],vs,h=>h.nil_inv
  | b::row,vs,h=>by
    obtain⟨x,r,rfl,h1,h2⟩:=h.cons_inv
    rw[h1.bl,Dr h2];rfl
theorem uT {K:PySem.W.Frag} {O:Addr→Prop} {H:Hp}:∀{zs:List Int} {vs:List V},aV K O H (zs.map D.int) vs→vs=zs.map V.int
  |[],vs,h=>h.nil_inv
  | b::row,vs,h=>by
    obtain⟨x,r,rfl,h1,h2⟩:=h.cons_inv
    rw[h1.int,uT h2];rfl
theorem JF {K:PySem.W.Frag} {O:Addr→Prop} {H:Hp}:∀(zs:List Int),aV K O H (zs.map D.int) (zs.map V.int)
  |[]=> .nil
  |b::row=> .cons (cL b) (JF row)
theorem m5.reps {K:PySem.W.Frag} {O:Addr→Prop} {H:Hp}:∀{rs:List Addr} {rows:List (List Bool)},m5 H rs rows→(∀r∈rs,¬O r)→aV K O H (rows.map fun r=>D.lst (r.map D.bl)) (rs.map V.ref)
  |[],[],_,_=> .nil
  |[],_::_,h,_=>by cases h.len
  |_::_,[],h,_=>by cases h.len
  | r ::rs,row::rows,h,n=> .cons (je (SqL.of (h.at_ 0 r row rfl rfl)) (n r (List.mem_cons_self ..)) (Uk row))
      (m5.reps ⟨by simpa using h.len,fun i r row e1 e2=>h.at_ (i+1) r row e1 e2⟩ fun r hr=>n r (List.mem_cons_of_mem _ hr))
structure wI (X:Cx) (a:Addr) (rs:List Addr) (rows:List (List Bool)) (H:Hp) (ρ:aq) (σ:St):Prop where
  inn:In X (fun _=>False) H ρ σ
  s0:σ[0]?=some (some (.ref a))
  r0:ρ[0]?=some (some (.val (tk rows)))
  r1:∃zs:List Int,zs≠[]∧ρ[1]?=some (some (.val (il zs)))
  rk:∀(k:Nat) e,2≤k→ρ[k]?=some (some e)→∃i,e= .val (.int i)
  ha:H a=some (.lst (rs.map V.ref))
  hr:m5 H rs rows
  nd:rs.Nodup
  off:∀r∈rs,X.K.lookup r=none∧r≠a
  ne:∀row∈rows,row≠[]
noncomputable def rC (X:Cx) (a:Addr) (rs:List Addr) (g:aq→So):TS:=fun E σ H=>∃rows ρ ρ',wI X a rs rows H ρ σ∧g ρ= .nx ρ'∧∀rows' σ' H',wI X a rs rows' H' ρ' σ'→But rs H H'→E.nx σ' H'
section
variable {X:Cx} {a:Addr} {rs:List Addr} {rows:List (List Bool)} {H H':Hp} {ρ:aq} {σ:St} {st:Stmt} {rest:List Stmt} {g k:aq→So} {e:Expr} {f:aq→R D} {pos:Pos}
theorem wI.same (c:wI X a rs rows H ρ σ) (s:Same H H'):wI X a rs rows H' ρ σ:=⟨c.inn.same s,c.s0,c.r0,c.r1,c.rk,s _ _ c.ha,c.hr.same s,c.nd,c.off,c.ne⟩
theorem wI.aaW (c:wI X a rs rows H ρ σ) {i:Nat} (h2:2≤i) (hi:i < X.N.length) (n:Int):wI X a rs rows H (ρ.set i (some (.val (.int n)))) (σ.set i (some (.int n))):=by
  refine⟨c.inn.set hi (cL n),?_,?_,?_,fun k e hk h=>?_,c.ha,c.hr,c.nd,c.off,c.ne⟩
  · rw[List.getElem?_set_ne (by omega)];exact c.s0
  · rw[List.getElem?_set_ne (by omega)];exact c.r0
  · obtain⟨zs,z1,z2⟩:=c.r1
    exact⟨zs,z1,by rw[List.getElem?_set_ne (by omega)];exact z2⟩
  · by_cases z:k=i
    · subst z
      rw[List.getElem?_set_self (by rw[c.inn.pF];exact hi)] at h
      cases h;exact⟨n,rfl⟩
    · rw[List.getElem?_set_ne (Ne.symm z)] at h;exact c.rk k e hk h
theorem adP:PSs X [] (rC X a rs So.nx):=PSs.imp pss_nil fun σ H E h=>by
  obtain⟨rows,ρ,ρ',c,e,fin⟩:=h
  cases e
  exact fin rows σ H c fun _ _ _ z=>z
theorem M7 (h:PS X st (rC X a rs g)):PSs X [st] (rC X a rs g):=pss_one h
theorem rQ (h1:PS X st (rC X a rs g)) (h2:PSs X rest (rC X a rs k)):PSs X (st::rest) (rC X a rs (aZ g k)):=by
  refine PSs.imp (pss_cons h1 h2) fun σ H E h=>?_
  obtain⟨rows,ρ,ρ',c,e,fin⟩:=h
  unfold aZ at e
  cases e1:g ρ with
  | nx ρ1=>
    rw[e1] at e
    exact⟨rows,ρ,ρ1,c,e1,fun CJ σ1 H1 c1 b1=>⟨CJ,ρ1,ρ',c1,e,fun rows' σ' H' c' b'=>fin rows' σ' H' c' (b1.trans b')⟩⟩
  |_=>rw[e1] at e;cases e
noncomputable def xZ (f:aq→R D) (i:Nat):aq→So:=fun ρ=>match f ρ with
  | .ok (.int n)=> .nx (ρ.set i (some (.val (.int n))))
  |_=> .bad
theorem zX (i:Nat) {x:Str} {pos':Pos} (h2:2≤i) (hN:X.N.Nodup) (he:DE X e f) (hi:X.N[i]?=some x:=by rfl) (hx:Loc X.env.scope x:=by first |exact Or.inl rfl |exact Or.inr rfl) (hs:swapsWith e (some (.Name x pos')) pos.line X.env=pure false:=by rfl)
    (hf:X.fn x=true∨X.env.scope.names.lookup x=some .local:=by first |exact .inl rfl |exact .inr rfl):PS X (.Assign [.Name x pos'] e pos) (rC X a rs (xZ f i)):=by
  refine PS.imp (ps_set hN hi hx he hs hf) fun σ H E h=>?_
  obtain⟨rows,ρ,ρ',c,q,fin⟩:=h
  refine⟨ρ,_,c.inn,?_⟩
  unfold xZ at q
  split at q
  · rename_i n e1
    cases q
    rw[e1]
    intro v H' s r
    rw[r.int]
    exact fin rows _ H' ((c.same s).aaW h2 (List.getElem?_eq_some_iff.mp hi).1 n) (But.of s)
  · cases q
noncomputable def M8 (i k:Nat) (f g:aq→R D):aq→So:=fun ρ=>match f ρ,g ρ with
  | .ok (.int n),.ok (.int m)=> .nx ((ρ.set i (some (.val (.int n)))).set k (some (.val (.int m))))
  |_,_=> .bad
theorem adQ (i k:Nat) {x y:Str} {b1 b2:Expr} {f g:aq→R D} {px py pt:Pos} {kt k2 pt2} (hi2:2≤i) (hk2:2≤k) (hc:X.calm=true) (hN:X.N.Nodup) (ha:DE X b1 f) (hb:DE X b2 g) (hi:X.N[i]?=some x:=by rfl) (hk:X.N[k]?=some y:=by rfl) (hik:i≠k:=by decide)
    (hx:X.env.scope.names.lookup x=some .local:=by rfl) (hy:X.env.scope.names.lookup y=some .local:=by rfl)
    (h1:starEach [b1,b2] X.env=(false,eval b1 X.env)::starEach [b2] X.env:=by rfl) (h2:starEach [b2] X.env=(false,eval b2 X.env)::starEach [] X.env:=by rfl)
    (hw:swappedStores [.Tuple [.Name x px,.Name y py] kt pt] (.Tuple [b1,b2] k2 pt2) X.env=pure (some [x,y]):=by rfl)
    (hs:swapsWithSole [.Tuple [.Name x px,.Name y py] kt pt] (.Tuple [b1,b2] k2 pt2) pos.line X.env=pure false:=by rfl):
    PS X (.Assign [.Tuple [.Name x px,.Name y py] kt pt] (.Tuple [b1,b2] k2 pt2) pos) (rC X a rs (M8 i k f g)):=by
  refine PS.imp (ps_par hc hN hi hk hik hx hy (pa_cons ha (pa_cons hb pa_nil h2) h1) hw hs) fun σ H E h=>?_
  obtain⟨rows,ρ,ρ',c,q,fin⟩:=h
  refine⟨ρ,_,c.inn,?_⟩
  unfold M8 at q
  split at q
  · rename_i n m e1 e2
    cases q
    rw[e1]
    intro v H1 s1 r1
    rw[r1.int]
    refine⟨ρ,_,c.inn.same s1,?_⟩
    rw[e2]
    intro w H2 s2 r2
    rw[r2.int]
    refine⟨.int n,.int m,rfl,?_⟩
    exact fin rows _ H2 ((((c.same s1).same s2).aaW hi2 (List.getElem?_eq_some_iff.mp hi).1 n).aaW hk2 (List.getElem?_eq_some_iff.mp hk).1 m) (But.of (s1.trans s2))
  · cases q
noncomputable def M9 (p:aq→R Bool) (g k:aq→So):aq→So:=fun ρ=>match p ρ with
  | .ok true=>g ρ
  | .ok false=>k ρ
  |_=> .bad
theorem aeM {c:Expr} {p:aq→R Bool} {b1 b2:List Stmt} (hc:DT X c p) (ha:PSs X b1 (rC X a rs g)) (hb:PSs X b2 (rC X a rs k)):PS X (.If c b1 b2 pos) (rC X a rs (M9 p g k)):=by
  refine PS.imp (ps_if hc ha hb) fun σ H E h=>?_
  obtain⟨rows,ρ,ρ',cc,q,fin⟩:=h
  refine⟨ρ,_,cc.inn,?_⟩
  unfold M9 at q
  split at q
  · rename_i e1
    rw[e1]
    intro b H1 s1 e2
    have e2:true=b:=e2
    subst e2
    rw[if_pos rfl]
    exact⟨rows,ρ,ρ',cc.same s1,q,fun rows' σ' H' c' b'=>fin rows' σ' H' c' ((But.of s1).trans b')⟩
  · rename_i e1
    rw[e1]
    intro b H1 s1 e2
    have e2:false=b:=e2
    subst e2
    rw[if_neg Bool.false_ne_true]
    exact⟨rows,ρ,ρ',cc.same s1,q,fun rows' σ' H' c' b'=>fin rows' σ' H' c' ((But.of s1).trans b')⟩
  · cases q
noncomputable def Ds (p:aq→R Bool) (b:aq→So):Nat→aq→So
  |0,_=> .bad
  | n +1,ρ=>match p ρ with
    | .ok true=>match b ρ with
      | .nx ρ'=>Ds p b n ρ'
      |_=> .bad
    | .ok false=> .nx ρ
    |_=> .bad
theorem aaX (n:Nat) {c:Expr} {p:aq→R Bool} {body:List Stmt} (hp:PassesOwn (model X.prog X.w) X.A X.env X.xe) (hc:DT X c p) (hb:PSs X body (rC X a rs g)):PS X (.While c body [] pos) (rC X a rs (Ds p g n)):=by
  refine PS.imp (ps_while hp hc hb) fun σ H E h=>?_
  obtain⟨rows,ρ,ρ',cc,q,fin⟩:=h
  refine⟨fun m σ1 H1=>∃CJ ρ1,wI X a rs CJ H1 ρ1 σ1∧But rs H H1∧Ds p g m ρ1= .nx ρ',⟨n,rows,ρ,cc,fun _ _ _ z=>z,q⟩,?_⟩
  rintro m σ1 H1 ⟨CJ,ρ1,c1,b1,q1⟩
  refine⟨ρ1,_,c1.inn,?_⟩
  cases m with
  |zero=>cases q1
  | succ m=>
    have q1:(match p ρ1 with
      | .ok true=>match g ρ1 with
        | .nx ρ'=>Ds p g m ρ'
        |_=> .bad
      | .ok false=> .nx ρ1
      |_=> .bad)= .nx ρ':=q1
    cases e1:p ρ1 with
    |bad=>rw[e1] at q1;cases q1
    |err c=>rw[e1] at q1;cases q1
    | ok t=>
      rw[e1] at q1
      intro b H2 s2 e2
      have e2:t=b:=e2
      subst e2
      cases t with
      | false=>
        cases q1
        rw[if_neg Bool.false_ne_true]
        exact fin CJ σ1 H2 (c1.same s2) (b1.trans (But.of s2))
      | true=>
        rw[if_pos rfl]
        have q1:(match g ρ1 with
          | .nx ρ'=>Ds p g m ρ'
          |_=> .bad)= .nx ρ':=q1
        cases e3:g ρ1 with
        | nx ρ2=>
          rw[e3] at q1
          refine⟨fun σ3 H3=>∃Vr,wI X a rs Vr H3 ρ2 σ3∧But rs H H3,fun σ3 H3 ⟨Vr,c3,b3⟩=>⟨m,Nat.lt_succ_self m,Vr,ρ2,c3,b3,q1⟩,?_⟩
          exact⟨CJ,ρ1,ρ2,c1.same s2,e3,fun rows' σ' H' c' b'=>⟨rows',c',(b1.trans (But.of s2)).trans b'⟩⟩
        |_=>rw[e3] at q1;cases q1
noncomputable def G6 (iy ix:Nat) (fv:aq→R D):aq→So:=fun ρ=>match fv ρ,aj ρ 0,aj ρ iy,aj ρ ix with
  | .ok (.bl b),.ok (.lst rows),.ok (.int y),.ok (.int x)=>match rows[y.toNat]? with
    |some (.lst cs)=>if 0≤y∧0≤x∧x < cs.length then .nx (ρ.set 0 (some (.val (.lst (rows.set y.toNat (.lst (cs.set x.toNat (.bl b)))))))) else .bad
    |_=> .bad
  |_,_,_,_=> .bad
theorem Yu {α:Type} {l:List α} (h:l.Nodup) {i j:Nat} {x:α} (hi:l[i]?=some x) (hj:l[j]?=some x):i=j:=by
  obtain⟨h1,e1⟩:=List.getElem?_eq_some_iff.mp hi
  obtain⟨h2,e2⟩:=List.getElem?_eq_some_iff.mp hj
  rcases Nat.lt_trichotomy i j with z |z |z
  · exact absurd (e1.trans e2.symm) (List.pairwise_iff_getElem.mp h i j h1 h2 z)
  · exact z
  · exact absurd (e2.trans e1.symm) (List.pairwise_iff_getElem.mp h j i h2 h1 z)
theorem wI.put (c:wI X a rs rows H ρ σ) {y x:Nat} {row:List Bool} {r:Addr} {b:Bool} (hr:rs[y]?=some r) (hy:rows[y]?=some row):
    wI X a rs (rows.set y (row.set x b)) (upd H r (.lst ((row.map V.bl).set x (.bl b)))) (ρ.set 0 (some (.val (tk (rows.set y (row.set x b)))))) σ∧But rs H (upd H r (.lst ((row.map V.bl).set x (.bl b)))):=by
  have hmr:r∈rs:=List.mem_of_getElem? hr
  have hH:=c.hr.at_ y r row hr hy
  have hne:row≠[]:=c.ne row (List.mem_of_getElem? hy)
  obtain⟨hk,hra⟩:=c.off r hmr
  have hyl:y < rows.length:=(List.getElem?_eq_some_iff.mp hy).1
  have h0l:0 < ρ.length:=(List.getElem?_eq_some_iff.mp c.r0).1
  have bt:But rs H (upd H r (.lst ((row.map V.bl).set x (.bl b)))):=fun p u n e=>by
    rw[upd_ne fun z=>n (by rw[z];exact hmr)];exact e
  have hr':m5 (upd H r (.lst ((row.map V.bl).set x (.bl b)))) rs (rows.set y (row.set x b)):=by
    refine⟨by rw[List.length_set];exact c.hr.len,fun i r' Nb e1 e2=>?_⟩
    by_cases z:i=y
    · subst z
      rw[hr] at e1;cases e1
      rw[List.getElem?_set_self hyl] at e2;cases e2
      rw[upd_same,List.map_set]
    · rw[List.getElem?_set_ne (Ne.symm z)] at e2
      rw[upd_ne (fun w=>z (Yu c.nd e1 (by rw[w];exact hr)))]
      exact c.hr.at_ i r' Nb e1 e2
  have ha':(upd H r (.lst ((row.map V.bl).set x (.bl b)))) a=some (.lst (rs.map V.ref)):=by rw[upd_ne (Ne.symm hra)];exact c.ha
  refine⟨⟨⟨⟨fun k e h=>?_,fun i k e e' v hik hi hk' oi=>?_⟩,fun _ z=>z.elim,c.inn.len,by rw[List.length_set];exact c.inn.pF⟩,c.s0,List.getElem?_set_self h0l,?_,fun k e hk2 h=>?_,ha',hr',c.nd,c.off,fun Nb h=>?_⟩,bt⟩
  · by_cases z:k=0
    · subst z
      rw[List.getElem?_set_self h0l] at h;cases h
      exact⟨_,c.s0,je (SqL.of ha') (fun z=>z) (hr'.reps fun _ _ z=>z)⟩
    · rw [List.getElem?_set_ne (Ne.symm z)] at h
      by_cases z1:k=1
      · subst z1
        obtain⟨zs,zne,e1⟩:=c.r1
        rw[e1] at h;cases h
        obtain⟨v,h1,h2⟩:=c.inn.env.get 1 _ e1
        refine⟨v,h1,?_⟩
        obtain⟨p,us,rfl,hq,_,rr⟩:=Rep.lst h2
        have eu:=uT rr
        subst eu
        have hpr:p≠r:=fun z=>by
          subst z
          rcases hq with hq |⟨o,_,_,hq,_⟩
          · rcases hq with hq |⟨o,hq⟩ <;> rw[hH] at hq
            · have e2:=Option.some.inj hq
              have e2:row.map V.bl=zs.map V.int:=by injection e2
              cases row with
              |nil=>exact hne rfl
              | cons b row=>
                cases zs with
                |nil=>cases e2
                |cons z zs=>cases e2
            · cases hq
          · rw[hk] at hq;cases hq
        refine je ?_ (fun z=>z) (JF zs)
        rcases hq with hq |hq
        · rcases hq with hq |⟨o,hq⟩
          · exact .inl (.inl (by rw[upd_ne hpr];exact hq))
          · exact .inl (.inr ⟨o,by rw[upd_ne hpr];exact hq⟩)
        · exact .inr hq
      · obtain⟨i,rfl⟩:=c.rk k e (by omega) h
        obtain⟨v,h1,h2⟩:=c.inn.env.get k _ h
        have h2:Rep X.K (fun _=>False) H (.int i) v:=h2
        refine⟨v,h1,?_⟩
        show Rep X.K (fun _=>False) (upd H r (.lst ((row.map V.bl).set x (.bl b)))) (.int i) v
        rw[h2.int];exact cL i
  · have vo:∀{m:Nat} {x:Ent},(ρ.set 0 (some (.val (tk (rows.set y (row.set ‹Nat› b))))))[m]?=some (some x)→True:=fun _=>trivial
    by_cases z:i=0
    · subst z
      rw[List.getElem?_set_self h0l] at hi;cases hi;cases oi
    · rw[List.getElem?_set_ne (Ne.symm z)] at hi
      by_cases z1:i=1
      · subst z1
        obtain⟨zs,_,e1⟩:=c.r1
        rw[e1] at hi;cases hi;cases oi
      · obtain⟨n,rfl⟩:=c.rk i e (by omega) hi
        cases oi
  · obtain⟨zs,z1,z2⟩:=c.r1
    exact⟨zs,z1,by rw[List.getElem?_set_ne (by omega)];exact z2⟩
  · rw[List.getElem?_set_ne (by omega)] at h;exact c.rk k e hk2 h
  · rcases List.mem_or_eq_of_mem_set h with z |z
    · exact c.ne Nb z
    · rw[z]
      intro e
      have:=congrArg List.length e
      rw[List.length_set] at this
      exact hne (List.eq_nil_of_length_eq_zero this)
theorem CK {ρ:aq} {i:Nat} {d:D} (h:aj ρ i= .ok d):ρ[i]?=some (some (.val d)):=by
  unfold aj at h
  split at h
  · rename_i d' e
    cases h;exact e
  · cases h
theorem aaY {α:Type} {xs:List α} {y:Int} {v:α} (h0:0≤y) (h:xs[y.toNat]?=some v):L2.atI xs y=some v:=by
  have hl:=(List.getElem?_eq_some_iff.mp h).1
  unfold L2.atI ixN
  rw[if_pos h0,if_pos (by omega)]
  exact h
theorem ace (iy ix:Nat) {t y x:Str} {ev:Expr} {fv:aq→R D} {pt py px ps pos':Pos} (hv:DE X ev fv) (hN:X.N[0]?=some t:=by rfl) (hNy:X.N[iy]?=some y:=by rfl) (hNx:X.N[ix]?=some x:=by rfl)
    (hvt:Vis X.env.scope t:=by first |exact Or.inl rfl |exact Or.inr (Or.inl rfl) |exact Or.inr (Or.inr rfl)) (hvy:Vis X.env.scope y:=by first |exact Or.inl rfl |exact Or.inr (Or.inl rfl) |exact Or.inr (Or.inr rfl)) (hvx:Vis X.env.scope x:=by first |exact Or.inl rfl |exact Or.inr (Or.inl rfl) |exact Or.inr (Or.inr rfl))
    (hd:(t ==("__debug__" :Str))=false:=by decide) (hcd:(t ==("__classdict__" :Str))=false:=by decide) (XH:(y ==("__debug__" :Str))=false:=by decide) (ae0:(y ==("__classdict__" :Str))=false:=by decide) (hdx:(x ==("__debug__" :Str))=false:=by decide) (ae1:(x ==("__classdict__" :Str))=false:=by decide)
    (hp:PlainIx (.Name y py):=by exact fun _ _=>rfl)
    (ha:∀v,assign (.Subscript (.Subscript (.Name t pt) (.Name y py) ps) (.Name x px) pos') X.env v=(do
      let ov ←holding [v] (eval (.Subscript (.Name t pt) (.Name y py) ps) X.env)
      let iv ←holding [v,ov] (eval (.Name x px) X.env)
      standAt pos'
      holding [v,ov,iv] (setItem ov iv v)
      release [v,ov,iv] []):=by intro _;rfl)
    (hs:swapsWithSole [.Subscript (.Subscript (.Name t pt) (.Name y py) ps) (.Name x px) pos'] ev pos.line X.env=pure false:=by rfl) (hw:swappedStores [.Subscript (.Subscript (.Name t pt) (.Name y py) ps) (.Name x px) pos'] ev X.env=pure none:=by rfl)
    (h1:(assignEach [.Subscript (.Subscript (.Name t pt) (.Name y py) ps) (.Name x px) pos'] X.env).map (·.2)=[assign (.Subscript (.Subscript (.Name t pt) (.Name y py) ps) (.Name x px) pos') X.env]:=by rfl):
    PS X (.Assign [.Subscript (.Subscript (.Name t pt) (.Name y py) ps) (.Name x px) pos'] ev pos) (rC X a rs (G6 iy ix fv)):=by
  refine PS.imp (ps_asg hv (pg_sub (pe_ix ix_seq (pe_var hN hvt hd hcd) (pe_var hNy hvy XH ae0) hp) (pe_var hNx hvx hdx ae1) set_list ha) hs hw h1) fun σ H E h=>?_
  obtain⟨rows,ρ,ρ',c,q,fin⟩:=h
  refine⟨ρ,_,c.inn,?_⟩
  unfold G6 at q
  split at q
  · rename_i b aeN yi xi e1 e2 e3 e4
    rw[e1]
    intro v H1 s1 rv
    rw[rv.bl]
    have c1:=c.same s1
    have e2':=CK e2
    rw[c1.r0] at e2'
    have e2':aeN=rows.map fun r=>D.lst (r.map D.bl):=by
      have z:=Option.some.inj (Option.some.inj e2')
      injection z with z
      injection z with z
      exact z.symm
    subst e2'
    split at q
    · rename_i cs e5
      by_cases hc:0≤yi∧0≤xi∧xi < cs.length
      · rw [if_pos hc] at q
        rw[List.getElem?_map] at e5
        cases e6:rows[yi.toNat]? with
        |none=>rw[e6] at e5;cases e5
        | some row=>
          rw[e6] at e5
          have e5:D.lst (row.map D.bl)=D.lst cs:=Option.some.inj e5
          injection e5 with e5
          subst e5
          obtain⟨vy,hy1,hy2⟩:=c1.inn.env.get iy _ (CK e3)
          obtain⟨vx,hx1,hx2⟩:=c1.inn.env.get ix _ (CK e4)
          have hy2:vy= .int yi:=Rep.int (K:=X.K) (O:=fun _=>False) (H:=H1) hy2
          have hx2:vx= .int xi:=Rep.int (K:=X.K) (O:=fun _=>False) (H:=H1) hx2
          subst hy2 hx2
          have hyr:yi.toNat < rs.length:=by rw[c1.hr.len];exact (List.getElem?_eq_some_iff.mp e6).1
          obtain⟨r,er⟩:∃r,rs[yi.toNat]?=some r:=⟨_,List.getElem?_eq_getElem hyr⟩
          refine⟨.ref a,c1.s0,.int yi,hy1,.inl ⟨a,rs.map V.ref,yi,.ref r,rfl,rfl,SqL.of c1.ha,aaY hc.1 (by rw[List.getElem?_map,er];rfl),.int xi,hx1,?_⟩⟩
          have hH:=c1.hr.at_ _ r row er e6
          have hxl:xi < (row.map V.bl).length:=by rw[List.length_map];have:=hc.2.2;rw[List.length_map] at this;exact this
          refine⟨r,row.map V.bl,xi,xi.toNat,rfl,rfl,hH,by unfold ixN;rw[if_pos hc.2.1,if_pos hxl],?_⟩
          obtain⟨c2,b2⟩:=c1.put (x:=xi.toNat) (b:=b) er e6
          cases q
          have et:(rows.map fun r=>D.lst (r.map D.bl)).set yi.toNat (.lst ((row.map D.bl).set xi.toNat (.bl b)))=(rows.set yi.toNat (row.set xi.toNat b)).map fun r=>D.lst (r.map D.bl):=by
            rw[List.map_set,List.map_set]
          refine fin (rows.set yi.toNat (row.set xi.toNat b)) _ _ ?_ ((But.of s1).trans b2)
          rw[et];exact c2
      · rw[if_neg hc] at q;cases q
    · cases q
  · cases q
end
noncomputable def spC (K:PySem.W.Frag) (g:aq→So) (m:Nat):Sp:=fun vs H Q _=>∃(a:Addr) (rs:List Addr) (rows rows':List (List Bool)) (zs:List Int) (v:V) (ρ':aq),vs=[.ref a,v]∧H a=some (.lst (rs.map V.ref))∧m5 H rs rows∧rs.Nodup∧(∀r∈rs,K.lookup r=none∧r≠a)∧(∀row∈rows,row≠[])∧
  Rep K (fun _=>False) H (il zs) v∧zs≠[]∧g (some (.val (tk rows))::some (.val (il zs))::List.replicate m none)= .nx ρ'∧ρ'[0]?=some (some (.val (tk rows')))∧∀H',But rs H H'→m5 H' rs rows'→Q .non H'
theorem adR:∀{r s:List (List Bool)},tk r=tk s→r=s:=by
  have b:∀{x y:List Bool},x.map D.bl=y.map D.bl→x=y:=by
    intro x
    induction x with
    | nil=>intro y h;cases y with
      |nil=>rfl
      |cons _ _=>cases h
    | cons p x ih=>intro y h;cases y with
      |nil=>cases h
      | cons q y=>
        rw[List.map_cons,List.map_cons] at h
        injection h with h1 h2
        injection h1 with h1
        rw[h1,ih h2]
  intro r
  induction r with
  | nil=>intro s h;cases s with
    |nil=>rfl
    |cons _ _=>cases h
  | cons p r ih=>intro s h;cases s with
    |nil=>cases h
    | cons q s=>
      unfold tk at h
      injection h with h
      rw[List.map_cons,List.map_cons] at h
      injection h with h1 h2
      injection h1 with h1
      rw[b h1,ih (congrArg D.lst h2)]
section
variable {P:Program} {w:World} {K:PySem.W.Frag} {mg:Str→Option Value} {base:Heap}
theorem fnC {x qual:Str} {st:Stmt} {f:Addr} {fd:FuncData} {N ps:List Str} {k m:Nat} {g:aq→So} (Fn:Fun K x qual st f fd) (S:FnScope N ps (defScope st)) (hn:ps.length=2) (hm:N.length=2+m)
    (hb:∀(cdv:Value) (A:Around) (outer:List PySem.Env) (s:Shared) (H:Hp) (E:XK) (a:Addr) (rs:List Addr),Room k (A.deeper (envOfC qual (defScope st) s.heap.objs.size f cdv))→PSs (cxOf CX0 P w K mg base N qual (defScope st) f cdv A outer s H E).nox (defBody st) (rC (cxOf CX0 P w K mg base N qual (defScope st) f cdv A outer s H E).nox a rs g)):
    FnOk P w K mg base CX0 (k+1) f fd ps (spC K g m):=by
  refine Fn.ok S (fun vs H Q E h=>?_) (fun cdv A outer s H vs Q E hr h=>?_)
  · obtain⟨a,rs,rows,rows',zs,v,ρ',rfl,_⟩:=h
    rw[hn];rfl
  · obtain⟨a,rs,rows,rows',zs,v,ρ',rfl,h1,h2,h3,h4,h5,h6,h7,h8,h9,fin⟩:=h
    refine⟨_,hb cdv A outer s H E a rs hr,rows,_,ρ',⟨?_,?_,rfl,⟨zs,h7,rfl⟩,fun i e hi hh=>?_,h1,h2,h3,h4,h5⟩,h8,fun ae7 σ' H' c' b'=>?_⟩
    · have al:∀b,(fun _:Addr=>False) b→∃o,H b=some o:=fun _ z=>z.elim
      have rr:aV K (fun _=>False) H [tk rows,il zs] [.ref a,v]:= .cons (je (SqL.of h1) (fun z=>z) (h2.reps fun _ _ z=>z)) (.cons h6 .nil)
      exact (M5 (X:=(cxOf CX0 P w K mg base N qual (defScope st) f cdv A outer s H E).nox) (N:=N) rfl rr al (by show N.length=2+m;exact hm)).inn
    · rfl
    · rw[List.getElem?_cons,if_neg (by omega),List.getElem?_cons,if_neg (by omega),List.getElem?_replicate] at hh
      split at hh <;> cases hh
    · have e:=c'.r0
      rw[h9] at e
      have e:=Option.some.inj (Option.some.inj e)
      injection e with e
      rw[←adR e] at c'
      exact fin H' b' c'.hr
noncomputable def Nf (P:Program) (w:World) (K:PySem.W.Frag) (mg:Str→Option Value) (base:Heap) (k:Nat) (x:Str) (g:aq→So) (m:Nat):Prop:=
  ∃f fd ps,FnOk P w K mg base CX0 k f fd ps (spC K g m)∧mg x=some (.ref f)∧PySem.W.keepIn K (.ref f)=true∧Binds K fd ps []
end
end Pu
namespace Pu
open PySem PySem.Spec L2
open PyProof.Rows hiding St
noncomputable def aby:D→Option (List Bool)
  | .lst ds=>boolsOf ds
  |_=>none
noncomputable def rowsOf:List D→Option (List (List Bool))
  |[]=>some []
  | d::ds=>match aby d,rowsOf ds with
    |some r,some l=>some (r::l)
    |_,_=>none
noncomputable def JG:D→Option (List (List Bool))
  | .lst ds=>rowsOf ds
  |_=>none
noncomputable def JH:D→Option (List Int)
  | .lst ds=>intsOf ds
  |_=>none
theorem G7:∀{ds:List D} {bs:List Bool},boolsOf ds=some bs→ds=bs.map D.bl
  |[],bs,h=>by cases h;rfl
  | d ::ds,bs,h=>by
    cases d with
    | bl b=>
      have h:(boolsOf ds).map (b:: ·)=some bs:=h
      cases e:boolsOf ds with
      |none=>rw[e] at h;cases h
      |some l=>rw[e] at h;cases h;rw[G7 e];rfl
    |_=>cases h
theorem Kh:∀{ds:List D} {bs:List Int},intsOf ds=some bs→ds=bs.map D.int
  |[],bs,h=>by cases h;rfl
  | d ::ds,bs,h=>by
    cases d with
    | int b=>
      have h:(intsOf ds).map (b:: ·)=some bs:=h
      cases e:intsOf ds with
      |none=>rw[e] at h;cases h
      |some l=>rw[e] at h;cases h;rw[Kh e];rfl
    |_=>cases h
theorem Kl:∀{ds:List D} {rows:List (List Bool)},rowsOf ds=some rows→ds=rows.map fun r=>D.lst (r.map D.bl)
  |[],rows,h=>by cases h;rfl
  | d ::ds,rows,h=>by
    have h:(match aby d,rowsOf ds with
      |some r,some l=>some (r::l)
      |_,_=>none)=some rows:=h
    split at h
    · rename_i r l e1 e2
      cases h
      rw[Kl e2]
      cases d with
      |lst es=>rw[G7 (show boolsOf es=some r from e1)];rfl
      |_=>cases e1
    · cases h
theorem Ul {d:D} {rows:List (List Bool)} (h:JG d=some rows):d=tk rows:=by
  cases d with
  |lst ds=>rw[Kl (show rowsOf ds=some rows from h)];rfl
  |_=>cases h
theorem Um {d:D} {zs:List Int} (h:JH d=some zs):d=il zs:=by
  cases d with
  |lst ds=>rw[Kh (show intsOf ds=some zs from h)];rfl
  |_=>cases h
theorem Dt:∀bs:List Bool,boolsOf (bs.map D.bl)=some bs
  |[]=>rfl
  |b::bs=>by show (boolsOf (bs.map D.bl)).map (b:: ·)=_;rw[Dt bs];rfl
theorem uF:∀bs:List Int,intsOf (bs.map D.int)=some bs
  |[]=>rfl
  |b::bs=>by show (intsOf (bs.map D.int)).map (b:: ·)=_;rw[uF bs];rfl
theorem JK:∀rows:List (List Bool),JG (tk rows)=some rows
  |[]=>rfl
  | r ::rows=>by
    have ih:rowsOf (rows.map fun r=>D.lst (r.map D.bl))=some rows:=JK rows
    show (match boolsOf (r.map D.bl),rowsOf (rows.map fun r=>D.lst (r.map D.bl)) with
      |some r,some l=>some (r::l)
      |_,_=>none)=_
    rw[Dt,ih]
theorem Uo (zs:List Int):JH (il zs)=some zs:=uF zs
noncomputable def Yv (g:aq→So) (m:Nat) (dT dH:D):Option D:=match JG dT,JH dH with
  | some rows,some zs=>if zs≠[]∧(∀row∈rows,row≠[]) then match g (some (.val dT)::some (.val dH)::List.replicate m none) with
    | .nx ρ'=>match aj ρ' 0 with
      | .ok d=>if (JG d).isSome=true then some d else none
      |_=>none
    |_=>none
    else none
  |_,_=>none
noncomputable def G8 (iT iA iL iH iS:Nat) (f1:aq→R (List D)) (n:Nat) (F1:List D→R D) (f2 f3:aq→R D) (gC:aq→So) (m:Nat) (f5:aq→R D):aq→So:=fun ρ=>
  match (f1 ρ).bind fun ds=>if ds.length=n then F1 ds else .bad with
  | .ok dT=>match f2 (ρ.set iT (some (.val dT))) with
    | .ok dA=>match f3 ((ρ.set iT (some (.val dT))).set iA (some (.val dA))) with
      | .ok (.tup [dL,dH])=>match Yv gC m dT dH,JH dL with
        | some Km,some (_::_)=>match f5 ((((ρ.set iT (some (.val Km))).set iA none).set iL (some (.val dL))).set iH none) with
          | .ok dS=> .nx (((((ρ.set iT (some (.val Km))).set iA none).set iL (some (.val dL))).set iH none).set iS (some (.val dS)))
          |_=> .bad
        |_,_=> .bad
      |_=> .bad
    |_=> .bad
  |_=> .bad
section
variable {X:Cx} {H H' H0:Hp} {O O0:Addr→Prop} {ρ:aq} {σ:St}
theorem At.drop (j:At X H0 O0 O H ρ σ) (i:Nat) (v:V):At X H0 O0 O H (ρ.set i none) (σ.set i (some v)):=by
  have un:∀{k:Nat} {e:Ent},(ρ.set i none)[k]?=some (some e)→k≠i∧ρ[k]?=some (some e):=fun {k e} h=>by
    by_cases z:k=i
    · subst z
      by_cases hl:k < ρ.length
      · rw[List.getElem?_set_self hl] at h;cases h
      · rw[List.getElem?_eq_none (by rw[List.length_set];omega)] at h;cases h
    · rw[List.getElem?_set_ne (Ne.symm z)] at h;exact⟨z,h⟩
  refine⟨j.same,j.eY,j.sub,⟨⟨fun k e h=>?_,fun k l e e' u hkl hk hl ok ol sk sl=>?_⟩,j.inn.al,by rw[List.length_set];exact j.inn.len,by rw[List.length_set];exact j.inn.pF⟩,fun k e a h ho hs=>?_⟩
  · obtain⟨z,h⟩:=un h
    rw[List.getElem?_set_ne (Ne.symm z)];exact j.inn.env.get k e h
  · obtain⟨z,hk⟩:=un hk
    obtain⟨z',hl⟩:=un hl
    rw[List.getElem?_set_ne (Ne.symm z)] at sk
    rw[List.getElem?_set_ne (Ne.symm z')] at sl
    exact j.inn.env.sep k l e e' u hkl hk hl ok ol sk sl
  · obtain⟨z,h⟩:=un h
    rw[List.getElem?_set_ne (Ne.symm z)] at hs
    exact j.mine k e a h ho hs
theorem d8.abz {K:PySem.W.Frag}:∀{rs:List Addr} {rows:List (List Bool)},d8 K O H rs (rows.map fun r=>D.lst (r.map D.bl))→m5 H rs rows
  |[],[],_=>⟨rfl,fun i r row e=>by cases e⟩
  |[],_::_,h=>by cases h
  |_::_,[],h=>by cases h
  | r ::rs,row::rows,h=>by
    rw[List.map_cons] at h
    cases h with
    | cons e q t=>
      have ih:=d8.abz t
      refine⟨by rw[List.length_cons,List.length_cons,ih.len],fun i r' Nb e1 e2=>?_⟩
      cases i with
      |zero=>cases e1;cases e2;rw[e,Dr q]
      |succ i=>exact ih.at_ i r' Nb e1 e2
theorem adS {K:PySem.W.Frag} {rs:List Addr} {rows:List (List Bool)} {zs:List Int} {v:V} (hr:m5 H rs rows) (off:∀r∈rs,K.lookup r=none) (ne:∀row∈rows,row≠[]) (hz:zs≠[]) (h:Rep K O H (il zs) v) (b:But rs H H'):Rep K O H' (il zs) v:=by
  obtain⟨p,us,rfl,hq,hn,rr⟩:=Rep.lst h
  have eu:=uT rr
  subst eu
  refine je ?_ hn (JF zs)
  rcases hq with hq |hq
  · have hp:p∉rs:=fun z=>by
      obtain⟨i,hi,e⟩:=List.mem_iff_getElem.mp z
      have hi':i < rows.length:=by rw[←hr.len];exact hi
      have hH:=hr.at_ i p rows[i] (by rw[List.getElem?_eq_getElem hi,e]) (List.getElem?_eq_getElem hi')
      have hne:=ne _ (List.getElem_mem hi')
      rcases hq with hq |⟨o,hq⟩ <;> rw[hH] at hq
      · have e2:=Option.some.inj hq
        injection e2 with e2
        cases hrow:rows[i] with
        |nil=>exact hne hrow
        | cons q row=>
          rw[hrow] at e2
          cases zs with
          |nil=>cases e2
          |cons z zs=>cases e2
      · cases hq
    rcases hq with hq |⟨o,hq⟩
    · exact .inl (.inl (b _ _ hp hq))
    · exact .inl (.inr ⟨o,b _ _ hp hq⟩)
  · exact .inr hq
theorem aaZ {k1 k4 n m:Nat} {F1:List D→R D} {gC:aq→So} {f1:aq→R (List D)} {f2 f3 f5:aq→R D} (iT iA iL iH iS:Nat) {tT tA tL tH tS x1 x4:Str} {e1 e2 e3 e5:Expr} {es1:List Expr} {p1 p2 p3 p4 p5 q1 q2 q3 q4 q5 r1 r3 r3' c1 c4 c4' En:Pos} {kt:Nat}
    (hN:X.N.Nodup) (hc:X.calm=true) (hr:Room k1 X.A) (hr4:Room k4 X.A) (G1:M6 X.prog X.w X.K X.mg X.base k1 x1 n F1) (G4:Nf X.prog X.w X.K X.mg X.base k4 x4 gC m)
    (ha1:DA X (e1::es1) f1) (he2:DE X e2 f2) (he3:DE X e3 f3) (he5:DE X e5 f5) (hg1:Gl X x1:=by rfl) (hg4:Gl X x4:=by rfl)
    (hiT:X.N[iT]?=some tT:=by rfl) (hiA:X.N[iA]?=some tA:=by rfl) (hiL:X.N[iL]?=some tL:=by rfl) (hiH:X.N[iH]?=some tH:=by rfl) (hiS:X.N[iS]?=some tS:=by rfl) (hd:iT≠iA∧iT≠iL∧iT≠iH:=by decide) (hLH:iL≠iH:=by decide)
    (lT:Loc X.env.scope tT:=by first |exact Or.inl rfl |exact Or.inr rfl) (lA:Loc X.env.scope tA:=by first |exact Or.inl rfl |exact Or.inr rfl) (lL:Loc X.env.scope tL:=by first |exact Or.inl rfl |exact Or.inr rfl) (lH:Loc X.env.scope tH:=by first |exact Or.inl rfl |exact Or.inr rfl) (lS:Loc X.env.scope tS:=by first |exact Or.inl rfl |exact Or.inr rfl)
    (vT:Vis X.env.scope tT:=by first |exact Or.inl rfl |exact Or.inr (Or.inl rfl) |exact Or.inr (Or.inr rfl)) (vH:Vis X.env.scope tH:=by first |exact Or.inl rfl |exact Or.inr (Or.inl rfl) |exact Or.inr (Or.inr rfl))
    (nT:X.fn tT=true∨X.env.scope.names.lookup tT=some .local:=by first |exact .inl rfl |exact .inr rfl) (nA:X.fn tA=true∨X.env.scope.names.lookup tA=some .local:=by first |exact .inl rfl |exact .inr rfl) (nL:X.fn tL=true∨X.env.scope.names.lookup tL=some .local:=by first |exact .inl rfl |exact .inr rfl) (nH:X.fn tH=true∨X.env.scope.names.lookup tH=some .local:=by first |exact .inl rfl |exact .inr rfl) (nS:X.fn tS=true∨X.env.scope.names.lookup tS=some .local:=by first |exact .inl rfl |exact .inr rfl)
    (dT:(tT ==("__debug__" :Str))=false:=by decide) (Km:(tT ==("__classdict__" :Str))=false:=by decide) (dH:(tH ==("__debug__" :Str))=false:=by decide) (dH':(tH ==("__classdict__" :Str))=false:=by decide)
    (d1:(x1 ==("__debug__" :Str))=false:=by decide) (d4:(x4 ==("__debug__" :Str))=false:=by decide)
    (s1:starEach (e1::es1) X.env=(false,eval e1 X.env)::starEach es1 X.env:=by rfl) (b1:(backTo c1 (starEach es1 X.env)).any (·.1)=false:=by rfl)
    (s4:starEach [.Name tT c4',.Name tH En] X.env=(false,eval (.Name tT c4') X.env)::starEach [.Name tH En] X.env:=by rfl) (s4':starEach [.Name tH En] X.env=(false,eval (.Name tH En) X.env)::starEach [] X.env:=by rfl) (b4:(backTo c4 (starEach [.Name tH En] X.env)).any (·.1)=false:=by rfl)
    (w1:swapsWith (.Call (.Name x1 r1) (e1::es1) [] c1) (some (.Name tT q1)) p1.line X.env=pure false:=by rfl) (w2:swapsWith e2 (some (.Name tA q2)) p2.line X.env=pure false:=by rfl)
    (w3:swapsWithSole [.Tuple [.Name tL r3,.Name tH r3'] kt q3] e3 p3.line X.env=pure false:=by rfl) (w3':swappedStores [.Tuple [.Name tL r3,.Name tH r3'] kt q3] e3 X.env=pure none:=by rfl)
    (w4:swapsWith (.Call (.Name x4 q4) [.Name tT c4',.Name tH En] [] c4) none p4.line X.env=pure false:=by rfl) (w5:swapsWith e5 (some (.Name tS q5)) p5.line X.env=pure false:=by rfl):
    eF X [.Assign [.Name tT q1] (.Call (.Name x1 r1) (e1::es1) [] c1) p1,.Assign [.Name tA q2] e2 p2,.Assign [.Tuple [.Name tL r3,.Name tH r3'] kt q3] e3 p3,.Expr (.Call (.Name x4 q4) [.Name tT c4',.Name tH En] [] c4) p4,.Assign [.Name tS q5] e5 p5]
      (G8 iT iA iL iH iS f1 n F1 f2 f3 gC m f5):=by
  obtain⟨fa1,fd1,ps1,ok1,hm1,hk1,hb1⟩:=G1
  obtain⟨fa4,fd4,ps4,ok4,hm4,hk4,hb4⟩:=G4
  have kT:=(List.getElem?_eq_some_iff.mp hiT).1
  have kA:=(List.getElem?_eq_some_iff.mp hiA).1
  have kL:=(List.getElem?_eq_some_iff.mp hiL).1
  have kH:=(List.getElem?_eq_some_iff.mp hiH).1
  have kS:=(List.getElem?_eq_some_iff.mp hiS).1
  refine PSs.imp (pss_cons (ps_set hN hiT lT (pe_call (dvs:=[]) ok1 hr hg1 hm1 hk1 hb1 .nil pass0 ha1 d1 s1 b1) w1 nT) (pss_cons (ps_set hN hiA lA he2 w2 nA)
    (pss_cons (ps_asg he3 (pg_tup hc (pgs_cons (pg_name hN hiL lL nL) (pgs_cons (pg_name hN hiH lH nH) pgs_nil))) w3 w3')
      (pss_cons (ps_expr (pe_call (dvs:=[]) ok4 hr4 hg4 hm4 hk4 hb4 .nil pass0 (pa_cons (pe_var hiT vT dT Km) (pa_cons (pe_var hiH vH dH dH') pa_nil s4') s4) d4 s4 b4) w4) (pss_one (ps_set hN hiS lS he5 w5 nS)))))) fun σ H E h=>?_
  obtain⟨H0,O0,O,ρ,j,h⟩:=h
  unfold G8 at h
  split at h
  case h_2=>exact h.elim
  rename_i dT1 q1
  split at h
  case h_2=>exact h.elim
  rename_i dA1 q2
  split at h
  case h_2=>exact h.elim
  rename_i dL1 dH1 q3
  split at h
  case h_2=>exact h.elim
  rename_i dT2 zl zls q4 q4'
  split at h
  case h_2=>exact h.elim
  rename_i dS1 q5
  unfold Yv at q4
  split at q4
  case h_2=>cases q4
  rename_i rows zs u1 u2
  by_cases hcz:zs≠[]∧(∀row∈rows,row≠[])
  case neg=>rw[if_neg hcz] at q4;cases q4
  rw[if_pos hcz] at q4
  split at q4
  case h_2=>cases q4
  rename_i ρ' qg
  split at q4
  case h_2=>cases q4
  rename_i dT3 qv
  by_cases hs2:(JG dT3).isSome=true
  case neg=>rw[if_neg hs2] at q4;cases q4
  rw[if_pos hs2] at q4
  have q4:=Option.some.inj q4
  subst q4
  obtain⟨rows',ur⟩:=Option.isSome_iff_exists.mp hs2
  have eT:=Ul u1
  have eH:=Um u2
  have eT':=Ul ur
  have eL:=Um q4'
  subst eT eH eT' eL
  refine⟨ρ,O,j.inn,?_⟩
  cases q0:f1 ρ with
  |bad=>rw[q0] at q1;cases q1
  |err c=>rw[q0] at q1;cases q1
  | ok ds=>
    rw[q0] at q1
    have q1:(if ds.length=n then F1 ds else .bad)= .ok (tk rows):=q1
    by_cases hl:ds.length=n
    case neg=>rw[if_neg hl] at q1;cases q1
    rw[if_pos hl] at q1
    intro vs Ha sa ra
    have ja:=j.grow sa
    refine⟨O,ds,by rw[List.append_nil];exact ra,hl,ja.inn.al,?_⟩
    rw[q1]
    rintro v Hb sb ⟨a,rs,dsT,ed,rfl,na,ka,ha,nd,al,rr⟩
    have ed:dsT=rows.map fun r=>D.lst (r.map D.bl):=by
      unfold tk at ed
      injection ed with ed
      exact ed.symm
    subst ed
    have nOa:¬O a:=ja.inn.pG na
    have nOr:∀r∈rs,¬O r:=fun r hr=>ja.inn.pG (al r hr).1
    have aeO:=rr.abz
    have jb:=ja.grow sb
    have j1:=jb.set kT (d:=tk rows) (v:= .ref a) (je (SqL.of ha) nOa (rr.reps nOr))
    refine⟨_,O,j1.inn,?_⟩
    rw[q2]
    intro vA Hc sc rA
    have j2:=(j1.grow sc).set kA rA
    refine⟨_,O,j2.inn,?_⟩
    rw[q3]
    intro vt Hd sd rt
    obtain⟨at_,xs,rfl,hqt,rts⟩:=Rep.tup rt
    obtain⟨v1,v2,rfl,rL,rH⟩:=rts.two
    refine⟨at_,[v1,v2],rfl,hqt,rfl,v1,[v2],rfl,v2,[],rfl,rfl,?_⟩
    have adT:σ.length=X.N.length:=j.inn.len
    refine⟨.ref a,?_,v2,?_,?_⟩
    · rw[List.getElem?_set_ne (Ne.symm hd.2.2),List.getElem?_set_ne (Ne.symm hd.2.1),List.getElem?_set_ne (Ne.symm hd.1)]
      exact List.getElem?_set_self (by rw[adT];exact kT)
    · exact List.getElem?_set_self (by simp only[List.length_set];rw[adT];exact kH)
    have had:=sd _ _ (sc _ _ ha)
    have rbd:=(aeO.same sc).same sd
    refine⟨a,rs,rows,rows',zs,v2,ρ',rfl,had,rbd,nd,fun r hr=>(al r hr).2,hcz.2,Rep.fewer (fun _ z=>z.elim) rH,hcz.1,qg,CK qv,fun He be re=>?_⟩
    have smE:Same H He:=fun b u e=>by
      refine be b u (fun z=>?_) (sd _ _ (sc _ _ (sb _ _ (sa _ _ e))))
      have:=Same.free sa (al b z).1
      rw[this] at e;cases e
    have hae:He a=some (.lst (rs.map V.ref)):=be _ _ (fun z=>(al a z).2.2 rfl) had
    have jE:=j.grow smE
    have j4:=(((jE.set kT (d:=tk rows') (v:= .ref a) (je (SqL.of hae) nOa (re.reps nOr))).drop iA vA).set kL (adS rbd (fun r hr=>(al r hr).2.1) hcz.2 (by simp) rL be)).drop iH v2
    refine⟨_,O,j4.inn,?_⟩
    rw[q5]
    intro vS Hf sf rS
    exact h _ Hf O ((j4.grow sf).set kS rS) (Same.eY (smE.trans sf))
end
end Pu
namespace Pu
open PySem PySem.Spec L2
open PyProof.Rows hiding St
theorem aeP (items:Array Value):slicePick items (some (-2)) none (some (-1))=items.toList.dropLast.reverse.toArray:=by
  unfold slicePick
  by_cases h:items.size=0
  · have e:items= #[]:=Array.eq_empty_of_size_eq_zero h
    subst e;rfl
  · obtain⟨m,hm⟩:∃m,items.size=m+1:=⟨items.size - 1,by omega⟩
    have e1:sliceBounds (some (-2)) none (some (-1)) items.size=((m:Int) - 1,-1,-1):=by
      rw[hm]
      simp only[sliceBounds,Option.getD_some,show ¬((-1:Int) > 0) by decide,show ((-2:Int) < 0) by decide,if_false,if_true]
      congr 1
      rw[Int.natCast_succ]
      omega
    rw[e1]
    show ((sliceRange ((m:Int) - 1) (-1) (-1)).filterMap (items[·]?)).toArray=_
    have ha:=PySem.W.krv_all items
    rw[hm,List.range_succ,List.filterMap_append] at ha
    have hl:([m]:List Nat).filterMap (items[·]?)=[items[m]'(by omega)]:=by
      simp[List.filterMap_cons,show m < items.size by omega]
    rw[hl] at ha
    rw[PySem.W.krv_sliceRange,PySem.W.krv_range,List.filterMap_reverse,←ha,List.dropLast_concat]
section
variable {X:Cx} {e:Expr} {f:aq→R D} {pos p2 p3 p4 p5 p6:Pos}
theorem acf {kk kk2} {te:TE} (he:PE X e te):PE X (.Subscript e (.Slice (some (.UnaryOp .USub (.Constant (.int 2) kk2 p5) p6)) none (some (.UnaryOp .USub (.Constant (.int 1) kk p3) p4)) p2) pos) (fun σ H Q=>te σ H fun x H1=>∃a xs,x= .ref a∧SqL X.K H1 a xs∧∀p,H1 p=none→Q (.ref p) (upd H1 p (.lst xs.dropLast.reverse))):=by
  intro pins s σ H Q I h
  refine Subscript_ (thn (he pins s σ H _ I h) fun v s1 bN=>?_)
  obtain⟨x,H1,I1,r1,q1⟩:=bN
  obtain⟨a,xs,rfl,hq,q⟩:=q1
  cases r1
  refine wpAny_Slice ?_
  rw[evalPart_none,evalPart_some,evalPart_some]
  refine thn (pe_un (X:=X) un_neg pe_int pins s1 σ H1 (fun y H2=>y= .int (-2)∧H2=H1) I1 ⟨2,rfl,rfl,rfl⟩) fun vs0 s0 bN=>?_
  obtain⟨y0,H0,I0,r0,ey0,eH0⟩:=bN
  subst ey0
  subst eH0
  obtain⟨t0,rfl⟩:=r0
  refine wpAny_pure ?_
  refine thn (pe_un (X:=X) un_neg pe_int pins s0 σ H0 (fun y H2=>y= .int (-1)∧H2=H0) I0 ⟨1,rfl,rfl,rfl⟩) fun vs s2 bN=>?_
  obtain⟨y,H2,I2,r2,ey,eH⟩:=bN
  subst ey
  subst eH
  obtain⟨t,rfl⟩:=r2
  have I4:Inv X pins σ H2 {s2 with heap:=s2.heap.push {cls:= .type "slice",data:= .fields #[.int (-2) t0,.none,.int (-1) t]}}:=I2.kept (t':=s2.toks) fun b ob q=>Heap.get?_push_of_some _ q
  obtain⟨its,rv,ht,hz⟩:=I4.list hq
  have hlen:=rv.length
  show wpAny (model X.prog X.w) X.A (subscriptTail e (.Slice (some (.UnaryOp .USub (.Constant (.int 2) kk2 p5) p6)) none (some (.UnaryOp .USub (.Constant (.int 1) kk p3) p4)) p2) (.ref a) (.ref s2.heap.objs.size)) (EP X pins σ Q) X.xe {s2 with heap:=s2.heap.push {cls:= .type "slice",data:= .fields #[.int (-2) t0,.none,.int (-1) t]}}
  refine tail_any (ops:=[.ref a,.ref s2.heap.objs.size]) ht.isList.typeIs slot_list_getitem.lookup (wpAny_getItem_list_slice ht.isList (Heap.IsSliceOf.new ..) (.int (-2) t0) .none (.int (-1) t) (by simp) ?_ (by rw[List.size_toArray];omega)) (by with_unfolding_all rfl)
  rw[aeP]
  refine⟨.ref _,_,I4.laid (t':=s2.toks) (o:= .lst xs.dropLast.reverse) (fun b ob q=>Heap.get?_push_of_some _ q) (Nat.le_refl _) ?_,rfl,q _ (I4.hok.fresh (Nat.le_refl _))⟩
  refine⟨by rw[List.length_reverse,List.length_dropLast];omega,its.dropLast.reverse,0,Vals.rev ?_,(by have e:its.toArray.toList.dropLast.reverse=its.dropLast.reverse:=(by simp);rw[e];exact Heap.get?_push_size _ rfl)⟩
  rw[List.dropLast_eq_take,List.dropLast_eq_take,hlen]
  exact rv.take _
noncomputable def abA:D→R D
  | .lst ds=> .ok (.lst ds.dropLast.reverse)
  |_=> .bad
noncomputable def abB (f:aq→R D):aq→R D:=fun ρ=>(f ρ).bind abA
theorem acg {kk kk2} (he:DE X e f):DE X (.Subscript e (.Slice (some (.UnaryOp .USub (.Constant (.int 2) kk2 p5) p6)) none (some (.UnaryOp .USub (.Constant (.int 1) kk p3) p4)) p2) pos) (abB f):=by
  refine PE.imp (acf he) fun σ H Q h=>?_
  obtain⟨ρ,O,j,h⟩:=h
  refine go j h fun d v H1 e1 s1 r1 j1 h1=>?_
  cases d with
  | lst ds=>
    obtain⟨a,xs,rfl,hq,hn,rs⟩:=r1.lst
    refine⟨a,xs,rfl,hq,fun p hp=>h1 _ _ (Same.upd hp) (Rep.nO hp (j1.pG hp) (aV.reverse ?_))⟩
    rw[List.dropLast_eq_take,List.dropLast_eq_take,rs.length]
    exact rs.take _
  |_=>exact h1.elim
end
theorem ach {f:aq→R D} {gt:D→aq→R aq} {ρ:aq} {d:D} (h:bJ f gt ρ= .rt d):False:=by
  unfold bJ jc at h
  cases e:f ρ with
  |bad=>rw[e] at h;cases h
  |err c=>rw[e] at h;cases h
  | ok x=>
    rw[e] at h
    have h:(match gt x ρ with
      | .ok ρ'=>So.nx ρ'
      |_=> .bad)= .rt d:=h
    split at h <;> cases h
end Pu
namespace Fl
noncomputable def sm:Nat→(Nat→Int)→Int
  |0,_=>0
  |n+1,f=>sm n f+f n
theorem bR {f g:Nat→Int}:∀{n:Nat},(∀i,i < n→f i=g i)→sm n f=sm n g
  |0,_=>rfl
  | n+1,h=>by
    show sm n f+f n=sm n g+g n
    rw[bR fun i hi=>h i (Nat.lt_succ_of_lt hi),h n (Nat.lt_succ_self n)]
theorem gP {f g:Nat→Int}:∀{n:Nat},(∀i,i < n→f i≤g i)→sm n f≤sm n g
  |0,_=>Int.le_refl _
  |n+1,h=>Int.add_le_add (gP fun i hi=>h i (Nat.lt_succ_of_lt hi)) (h n (Nat.lt_succ_self n))
theorem j7 {f g:Nat→Int}:∀n,sm n (fun i=>f i+g i)=sm n f+sm n g
  |0=>rfl
  | n+1=>by
    show sm n _+(f n+g n)=(sm n f+f n)+(sm n g+g n)
    rw[j7 n];omega
theorem zY {f:Nat→Int}:∀n,sm n (fun i=> -f i)= -sm n f
  |0=>rfl
  | n+1=>by
    show sm n _+ -f n= -(sm n f+f n)
    rw[zY n];omega
theorem zZ {f g:Nat→Int} (n:Nat):sm n (fun i=>f i - g i)=sm n f - sm n g:=by
  have h:=j7 (f:=f) (g:=fun i=> -g i) n
  rw[zY n] at h
  exact (bR fun i _=>Int.sub_eq_add_neg).trans (h.trans Int.sub_eq_add_neg.symm)
theorem nW:∀n,sm n (fun _=>0)=0
  |0=>rfl
  | n+1=>by
    show sm n _+0=0
    rw[nW n];rfl
theorem nj {n:Nat} {f:Nat→Int} (h:∀i,i < n→f i=0):sm n f=0:=(bR h).trans (nW n)
theorem lF {n:Nat} {f:Nat→Int} (h:∀i,i < n→0≤f i):0≤sm n f:=by
  have:=gP h
  rw[nW n] at this;exact this
theorem jQ {a:Int}:∀n:Nat,sm n (fun _=>a)=n*a
  |0=>by rw[show ((0:Nat):Int)=0 from rfl,Int.zero_mul];rfl
  | n+1=>by
    show sm n _+a=_
    rw[jQ n,Int.natCast_succ,Int.add_mul,Int.one_mul]
theorem pP {f:Nat→Nat→Int} (m:Nat):∀n,sm n (fun i=>sm m fun j=>f i j)=sm m fun j=>sm n fun i=>f i j
  |0=>(nW m).symm
  | n+1=>by
    show sm n (fun i=>sm m fun j=>f i j)+sm m (fun j=>f n j)=_
    rw[pP m n];exact (j7 m).symm
theorem oJ {a:Int} {k:Nat}:∀{n:Nat},k < n→sm n (fun i=>if i=k then a else 0)=a
  |0,h=>absurd h (Nat.not_lt_zero _)
  | n+1,h=>by
    show sm n _+(if n=k then a else 0)=a
    by_cases e:n=k
    · rw[if_pos e,nj fun i hi=>if_neg (by omega)];omega
    · rw[if_neg e,oJ (show k < n by omega)];omega
theorem G9 {f:Nat→Int} {k:Nat} {n:Nat} (h:k < n):sm n (fun i=>if i=k then f i else 0)=f k:=by
  rw[←oJ (a:=f k) h]
  exact bR fun i _=>by
    by_cases e:i=k
    · rw[if_pos e,if_pos e,e]
    · rw[if_neg e,if_neg e]
theorem CN {f:Nat→Int} {n k:Nat} (h:∀i,i < n→0≤f i) (hk:k < n):f k≤sm n f:=by
  rw[←G9 (f:=f) hk]
  exact gP fun i hi=>by
    by_cases e:i=k
    · rw[if_pos e];exact Int.le_refl _
    · rw[if_neg e];exact h i hi
theorem Ng {f:Nat→Int}:∀n,sm n (fun i=>f (i+1) - f i)=f n - f 0
  |0=>by show (0:Int)=_;omega
  | n+1=>by
    show sm n _+(f (n+1) - f n)=_
    rw[Ng n];omega
theorem Du {f g:Nat→Int} {n:Nat} (h:∀i,i < n→f i≤g i) (e:sm n g≤sm n f):∀i,i < n→f i=g i:=by
  intro i hi
  have h1:=CN (f:=fun i=>g i - f i) (n:=n) (k:=i) (fun j hj=>by have:=h j hj;omega) hi
  rw[zZ n] at h1
  have:=h i hi
  have h1:g i - f i≤sm n g - sm n f:=h1
  omega
noncomputable def inn (W x y:Nat):Nat:=2*(y*W+x+1)
noncomputable def out (W x y:Nat):Nat:=2*(y*W+x+1)+1
section
variable {W x y x' y':Nat}
theorem jw:inn W x y / 2=y*W+x+1:=by unfold inn;omega
theorem iR:out W x y / 2=y*W+x+1:=by unfold out;omega
theorem wJ (h:x < W):(y*W+x) % W=x:=by rw[Nat.mul_comm,Nat.mul_add_mod];exact Nat.mod_eq_of_lt h
theorem wK (h:x < W):(y*W+x) / W=y:=by
  rw[Nat.mul_comm,Nat.mul_add_div (by omega),Nat.div_eq_of_lt h];rfl
theorem Uq {H:Nat} (h:x < W) (hy:y < H):y*W+x < W*H:=by
  have:(y+1)*W≤H*W:=Nat.mul_le_mul_right W hy
  rw[Nat.add_mul,Nat.one_mul,Nat.mul_comm H W] at this
  omega
theorem sO {H:Nat} (h:x < W) (hy:y < H):inn W x y < 2*(W*H+1):=by have:=Uq h hy;unfold inn;omega
theorem qQ {H:Nat} (h:x < W) (hy:y < H):out W x y < 2*(W*H+1):=by have:=Uq h hy;unfold out;omega
theorem Ur:2≤inn W x y:=by unfold inn;omega
theorem aci:3≤out W x y:=by unfold out;omega
end
noncomputable def tbl (W:Nat) (a0 a1:Int) (fi fo:Nat→Nat→Int) (v:Nat):Int:=
  if v=0 then a0 else if v=1 then a1 else if v % 2=0 then fi ((v / 2 - 1) % W) ((v / 2 - 1) / W) else fo ((v / 2 - 1) % W) ((v / 2 - 1) / W)
section
variable {W x y:Nat} {a0 a1:Int} {fi fo:Nat→Nat→Int}
theorem JL (h:x < W):tbl W a0 a1 fi fo (inn W x y)=fi x y:=by
  have hp:=Ur (W:=W) (x:=x) (y:=y)
  unfold tbl
  rw[if_neg (by omega),if_neg (by omega),if_pos (by unfold inn;omega),jw,Nat.add_sub_cancel,wJ h,wK h]
theorem JM (h:x < W):tbl W a0 a1 fi fo (out W x y)=fo x y:=by
  have hp:=aci (W:=W) (x:=x) (y:=y)
  unfold tbl
  rw[if_neg (by omega),if_neg (by omega),if_neg (by unfold out;omega),iR,Nat.add_sub_cancel,wJ h,wK h]
end
noncomputable def jL (ahead:Nat→Nat):Nat→Nat→Prop
  |0,v=>v=0
  |d+1,v=>v≠0∧jL ahead d (ahead v)
theorem jL.uniq {ahead:Nat→Nat}:∀{d e v:Nat},jL ahead d v→jL ahead e v→d=e
  |0,0,_,_,_=>rfl
  |0,_+1,_,h,k=>absurd h k.1
  |_+1,0,_,h,k=>absurd k h.1
  |d+1,e+1,_,h,k=>by rw[jL.uniq h.2 k.2]
noncomputable def vis (ahead:Nat→Nat):Nat→Nat→Nat→Bool
  |0,_,_=>false
  |d+1,v,w=>w ==v || vis ahead d (ahead v) w
theorem Us {ahead:Nat→Nat}:∀{d v w:Nat},jL ahead d v→vis ahead d v w=true→∃e,e < d∧jL ahead (e+1) w
  |0,_,_,_,h=>by cases h
  | d +1,v,w,c,h=>by
    rcases (Bool.or_eq_true _ _).mp h with h |h
    · have:w=v:=by simpa using h
      subst this
      exact⟨d,Nat.lt_succ_self d,c⟩
    · obtain⟨e,h1,h2⟩:=Us c.2 h
      exact⟨e,Nat.lt_succ_of_lt h1,h2⟩
theorem JN {ahead:Nat→Nat} {d v:Nat} (c:jL ahead (d+1) v):vis ahead d (ahead v) v=false:=by
  cases h:vis ahead d (ahead v) v with
  |false=>rfl
  | true=>
    obtain⟨e,h1,h2⟩:=Us c.2 h
    have:=jL.uniq c h2
    omega
end Fl
namespace Fl
noncomputable def upd {α:Type} (f:Nat→α) (k:Nat) (a:α):Nat→α:=fun i=>if i=k then a else f i
theorem lG {α:Type} {f:Nat→α} {k:Nat} {a:α}:upd f k a k=a:=if_pos rfl
theorem dR {α:Type} {f:Nat→α} {k i:Nat} {a:α} (h:i≠k):upd f k a i=f i:=if_neg h
theorem adU {f:Nat→Int} {k n:Nat} {a:Int} (h:k < n):sm n (upd f k a)=sm n f+(a - f k):=by
  rw[←oJ (a:=a - f k) h,←j7]
  exact bR fun i _=>by
    by_cases e:i=k
    · rw[e,lG,if_pos rfl];omega
    · rw[dR e,if_neg e];omega
noncomputable def Rt (ahead:Nat→Nat) (least:Nat→Int) (far:Int):Nat→Nat→Prop
  |0,v=>v=0∨least v=far
  |d+1,v=>¬(v=0∨least v=far)∧Rt ahead least far d (ahead v)
structure kZ (A:Nat→Nat→Int→Prop) (n:Nat) (far:Int) (q least:Nat→Int) (ahead:Nat→Nat):Prop where
  z:least 0=0
  lo:∀v,v < n→q v≤least v
  hi:∀v,v < n→least v≤far
  ar:∀v,v < n→v≠0→least v < far→∃c,A (ahead v) v c∧least (ahead v)+c≤least v
  ch:∀v,v < n→∃d,Rt ahead least far d v
section
variable {A:Nat→Nat→Int→Prop} {n:Nat} {far:Int} {q least:Nat→Int} {ahead:Nat→Nat}
theorem kZ.first (q0:q 0≤0) (hq:∀v,v < n→q v≤far) (h0:0≤far):kZ A n far q (fun v=>if v=0 then 0 else far) (fun _=>0) where
  z:=if_pos rfl
  lo:=fun v hv=>by
    by_cases e:v=0
    · rw[if_pos e,e];exact q0
    · rw[if_neg e];exact hq v hv
  hi:=fun v _=>by
    by_cases e:v=0
    · rw[if_pos e];exact h0
    · rw[if_neg e];exact Int.le_refl _
  ar:=fun v _ e h=>by rw[if_neg e] at h;exact absurd h (Int.lt_irrefl _)
  ch:=fun v _=>⟨0,by
    by_cases e:v=0
    · exact .inl e
    · exact .inr (if_neg e)⟩
theorem kZ.step (S:kZ A n far q least ahead) (hA:∀u v c,A u v c→u < n∧v < n∧v≠0) (hf:∀u v c,A u v c→q v≤q u+c) {u v:Nat} {c:Int} (a:A u v c) (h:least u+c < least v):
    kZ A n far q (upd least v (least u+c)) (upd ahead v u):=by
  obtain⟨hu,hv,v0⟩:=hA u v c a
  have hqv:=hf u v c a
  have hlu:=S.lo u hu
  have hvf:=S.hi v hv
  have huv:u≠v:=fun e=>by subst e;omega
  have near:∀d w,w < n→Rt ahead least far d w→least w - q w < least v - q v→Rt (upd ahead v u) (upd least v (least u+c)) far d w:=by
    intro d
    induction d with
    | zero=>
      intro w hw r hd
      have wv:w≠v:=fun e=>by subst e;omega
      rcases r with r |r
      · exact .inl r
      · exact .inr (by rw[dR wv];exact r)
    | succ d ih=>
      intro w hw r hd
      have wv:w≠v:=fun e=>by subst e;omega
      obtain⟨r1,r2⟩:=r
      have hw0:w≠0:=fun e=>r1 (.inl e)
      have hwf:least w < far:=by
        have h1:=S.hi w hw
        have h2:least w≠far:=fun e=>r1 (.inr e)
        omega
      obtain⟨c',a',l'⟩:=S.ar w hw hw0 hwf
      have f':=hf _ _ _ a'
      have h':=(hA _ _ _ a').1
      refine⟨fun e=>r1 (e.imp id fun e=>by rw[dR wv] at e;exact e),?_⟩
      rw[dR wv]
      exact ih (ahead w) h' r2 (by omega)
  obtain⟨du,ru⟩:=S.ch u hu
  have ru':=near du u hu ru (by omega)
  have rv':Rt (upd ahead v u) (upd least v (least u+c)) far (du+1) v:=by
    refine⟨fun e=>e.elim v0 fun e=>?_,by rw[lG];exact ru'⟩
    rw[lG] at e;omega
  refine⟨?_,fun w hw=>?_,fun w hw=>?_,fun w hw w0 hl=>?_,fun w hw=>?_⟩
  · rw[dR (Ne.symm v0)];exact S.z
  · by_cases e:w=v
    · rw[e,lG];omega
    · rw[dR e];exact S.lo w hw
  · by_cases e:w=v
    · rw[e,lG];omega
    · rw[dR e];exact S.hi w hw
  · by_cases e:w=v
    · subst e
      rw[lG,lG,dR huv]
      exact⟨c,a,Int.le_refl _⟩
    · rw[dR e] at hl
      obtain⟨c',a',l'⟩:=S.ar w hw w0 hl
      refine⟨c',by rw[dR e];exact a',?_⟩
      rw[dR e,dR e]
      by_cases e2:ahead w=v
      · rw[e2,lG];rw[e2] at l';omega
      · rw[dR e2];exact l'
  · obtain ⟨d,r⟩:=S.ch w hw
    have all:∀d w,w < n→Rt ahead least far d w→∃d,Rt (upd ahead v u) (upd least v (least u+c)) far d w:=by
      intro d
      induction d with
      | zero=>
        intro w hw r
        by_cases e:w=v
        · rw[e];exact⟨_,rv'⟩
        · exact⟨0,r.imp id fun r=>by rw[dR e];exact r⟩
      | succ d ih=>
        intro w hw r
        by_cases e:w=v
        · rw[e];exact⟨_,rv'⟩
        · obtain⟨r1,r2⟩:=r
          have hwf:least w < far:=by
            have h1:=S.hi w hw
            have h2:least w≠far:=fun e=>r1 (.inr e)
            omega
          obtain⟨c',a',_⟩:=S.ar w hw (fun e=>r1 (.inl e)) hwf
          obtain⟨d',r'⟩:=ih (ahead w) (hA _ _ _ a').1 r2
          exact⟨d'+1,fun z=>r1 (z.imp id fun z=>by rw[dR e] at z;exact z),by rw[dR e];exact r'⟩
    exact all d w hw r
theorem kZ.over (S:kZ A n far q least ahead) (hA:∀u v c,A u v c→u < n∧v < n∧v≠0) (hf:∀u v c,A u v c→q v≤q u+c) (ex:∀u v c,A u v c→least v≤least u+c)
    {t:Nat} (ht:t < n) (hb:∀r,r < n→least t - q t < far - q r):
    ∃(d:Nat) (G:Nat→Prop),jL ahead d t∧G t∧∀v,G v→v≠0→G (ahead v)∧∃c,A (ahead v) v c∧least v=least (ahead v)+c:=by
  have go:∀v,v < n∧least v - q v≤least t - q t→v≠0→(ahead v < n∧least (ahead v) - q (ahead v)≤least t - q t)∧∃c,A (ahead v) v c∧least v=least (ahead v)+c:=by
    rintro v ⟨hv,hd⟩ v0
    have hb':=hb v hv
    obtain⟨c,a,l⟩:=S.ar v hv v0 (by omega)
    have f:=hf _ _ _ a
    have e:=ex _ _ _ a
    exact⟨⟨(hA _ _ _ a).1,by omega⟩,c,a,by omega⟩
  have dn:∀d v,v < n∧least v - q v≤least t - q t→Rt ahead least far d v→jL ahead d v:=by
    intro d
    induction d with
    | zero=>
      rintro v ⟨hv,hd⟩ r
      have hb':=hb v hv
      exact r.elim id fun r=>by omega
    | succ d ih=>
      intro v hv r
      have v0:v≠0:=fun e=>r.1 (.inl e)
      exact⟨v0,ih _ (go v hv v0).1 r.2⟩
  obtain⟨d,r⟩:=S.ch t ht
  exact⟨d,_,dn d t ⟨ht,Int.le_refl _⟩ r,⟨ht,Int.le_refl _⟩,go⟩
end
end Fl
namespace Fl
structure eG (W H k:Nat) (T:Nat→Nat→Bool) (s:Nat→Nat→Nat):Prop where
  lt:∀i y,i < k→y < H→s i y < W
  Yc:∀i y,i+1 < k→y < H→s i y < s (i+1) y
  nr:∀i y,i < k→y+1 < H→s i (y+1)≤s i y+1∧s i y≤s i (y+1)+1
  tk:∀x y,x < W→y < H→(T x y=true↔∃i,i < k∧s i y=x)
inductive gH (W H k:Nat) (c:Nat→Nat→Int) (T:Nat→Nat→Bool) (s:Nat→Nat→Nat):Nat→Nat→Int→Prop
  |st {x:Nat}:x < W→gH W H k c T s 0 (inn W x 0) 0
  |cl {x y:Nat}:x < W→y < H→T x y=false→gH W H k c T s (inn W x y) (out W x y) (c x y)
  |dn {x x' y:Nat}:x < W→x' < W→y+1 < H→x'≤x+1→x≤x'+1→gH W H k c T s (out W x y) (inn W x' (y+1)) 0
  |en {x y:Nat}:x < W→y+1=H→gH W H k c T s (out W x y) 1 0
  |ue {i y:Nat}:i < k→y+1=H→gH W H k c T s 1 (out W (s i y) y) 0
  |up {i y:Nat}:i < k→y+1 < H→gH W H k c T s (inn W (s i (y+1)) (y+1)) (out W (s i y) y) 0
  |bk {i y:Nat}:i < k→y < H→gH W H k c T s (out W (s i y) y) (inn W (s i y) y) (-c (s i y) y)
section
variable {W H k:Nat} {c:Nat→Nat→Int} {T:Nat→Nat→Bool} {s:Nat→Nat→Nat}
theorem eG.mono (S:eG W H k T s) {y:Nat} (hy:y < H):∀{i j:Nat},i < j→j < k→s i y < s j y:=by
  intro i j hij
  induction j with
  |zero=>exact absurd hij (Nat.not_lt_zero _)
  | succ j ih=>
    intro hj
    have h1:=S.Yc j y hj hy
    by_cases e:i=j
    · rw[e];exact h1
    · exact Nat.lt_trans (ih (by omega) (by omega)) h1
theorem eG.inj (S:eG W H k T s) {y i j:Nat} (hy:y < H) (hi:i < k) (hj:j < k) (e:s i y=s j y):i=j:=by
  rcases Nat.lt_trichotomy i j with h |h |h
  · have:=S.mono hy h hj;omega
  · exact h
  · have:=S.mono hy h hi;omega
theorem eG.row (S:eG W H k T s) {y:Nat} (hy:y < H) (g:Nat→Int):sm W (fun x=>if T x y=true then g x else 0)=sm k fun i=>g (s i y):=by
  have e1:sm W (fun x=>if T x y=true then g x else 0)=sm W fun x=>sm k fun i=>if x=s i y then g x else 0:=bR fun x hx=>by
    by_cases t:T x y=true
    · rw[if_pos t]
      obtain⟨j,hj,e⟩:=(S.tk x y hx hy).mp t
      refine (oJ (a:=g x) hj).symm.trans (bR fun i hi=>?_)
      by_cases e2:i=j
      · rw[if_pos e2,if_pos (by rw[e2,e])]
      · rw[if_neg e2,if_neg fun z=>e2 (S.inj hy hi hj (by omega))]
    · rw[if_neg t]
      exact (nj fun i hi=>if_neg fun z=>t ((S.tk x y hx hy).mpr ⟨i,hi,z.symm⟩)).symm
  rw[e1,pP k W]
  exact bR fun i hi=>G9 (S.lt i y hi hy)
noncomputable def Sf (W H:Nat) (T:Nat→Nat→Bool) (φ:Nat→Int):Int:=sm H fun y=>sm W fun x=>if T x y=true then φ (out W x y) - φ (inn W x y) else 0
theorem eG.Sf (S:eG W H k T s) (φ:Nat→Int):Fl.Sf W H T φ=sm k fun i=>sm H fun y=>φ (out W (s i y) y) - φ (inn W (s i y) y):=by
  unfold Fl.Sf
  rw[bR fun y hy=>S.row hy fun x=>φ (out W x y) - φ (inn W x y)]
  exact pP k H
noncomputable def dl (W H:Nat) (s:Nat→Nat→Nat) (φ:Nat→Int) (i y:Nat):Int:=(if y+1 < H then φ (inn W (s i (y+1)) (y+1)) else φ 1) - φ (out W (s i y) y)
theorem Nh (hH:0 < H) (φ:Nat→Int) (i:Nat):sm H (fun y=>φ (out W (s i y) y) - φ (inn W (s i y) y))=φ 1 - φ (inn W (s i 0) 0) - sm H (dl W H s φ i):=by
  have h:=Ng (f:=fun y=>if y < H then φ (inn W (s i y) y) else φ 1) H
  simp only[Nat.lt_irrefl,if_false,hH,if_true] at h
  have e:sm H (fun y=>(if y+1 < H then φ (inn W (s i (y+1)) (y+1)) else φ 1) - (if y < H then φ (inn W (s i y) y) else φ 1))=sm H (fun y=>φ (out W (s i y) y) - φ (inn W (s i y) y))+sm H (dl W H s φ i):=by
    rw[←j7]
    exact bR fun y hy=>by rw[if_pos hy];unfold dl;omega
  rw[e] at h
  omega
theorem eG.Sf' (S:eG W H k T s) (hH:0 < H) (φ:Nat→Int):Fl.Sf W H T φ=sm k fun i=>φ 1 - φ (inn W (s i 0) 0) - sm H (dl W H s φ i):=by
  rw[S.Sf φ];exact bR fun i _=>Nh hH φ i
noncomputable def sS (T:Nat→Nat→Bool) (a b:Nat):Nat→Nat→Bool:=fun x y=>if x=a∧y=b then !T x y else T x y
theorem Yw {a b:Nat}:sS T a b a b= !T a b:=if_pos ⟨rfl,rfl⟩
theorem rR {a b x y:Nat} (h:¬(x=a∧y=b)):sS T a b x y=T x y:=if_neg h
theorem adV {a b:Nat} (ha:a < W) (hb:b < H) (φ:Nat→Int):Sf W H (sS T a b) φ=Sf W H T φ+(if T a b=true then -(φ (out W a b) - φ (inn W a b)) else φ (out W a b) - φ (inn W a b)):=by
  generalize hd:(if T a b=true then -(φ (out W a b) - φ (inn W a b)) else φ (out W a b) - φ (inn W a b))=dd
  rw[←oJ (a:=dd) hb]
  unfold Sf
  rw[←j7]
  refine bR fun y hy=>?_
  by_cases e:y=b
  · rw[if_pos e]
    subst e
    rw[←oJ (a:=dd) ha,←j7]
    refine bR fun x hx=>?_
    by_cases e2:x=a
    · subst e2
      rw[Yw,if_pos rfl,←hd]
      cases T x y with
      |false=>simp
      |true=>simp;omega
    · rw[rR (fun z=>e2 z.1),if_neg e2];omega
  · rw[if_neg e,Int.add_zero]
    exact bR fun x _=>by rw[rR (fun z=>e z.2)]
theorem gH.nodes (S:eG W H k T s) (hW:0 < W) (hH:0 < H) {u v:Nat} {w:Int} (a:gH W H k c T s u v w):u < 2*(W*H+1)∧v < 2*(W*H+1)∧v≠0:=by
  have hWH:0 < W*H:=Nat.mul_pos hW hH
  cases a with
  |st hx=>exact⟨by omega,sO hx hH,by have:= @Ur W;unfold inn;omega⟩
  |cl hx hy t=>exact⟨sO hx hy,qQ hx hy,by unfold out;omega⟩
  |dn hx hx' hy _ _=>exact⟨qQ hx (by omega),sO hx' hy,by unfold inn;omega⟩
  |en hx hy=>exact⟨qQ hx (by omega),by omega,by omega⟩
  |ue hi hy=>exact⟨by omega,qQ (S.lt _ _ hi (by omega)) (by omega),by unfold out;omega⟩
  |up hi hy=>exact⟨sO (S.lt _ _ hi hy) hy,qQ (S.lt _ _ hi (by omega)) (by omega),by unfold out;omega⟩
  |bk hi hy=>exact⟨qQ (S.lt _ _ hi hy) hy,sO (S.lt _ _ hi hy) hy,by unfold inn;omega⟩
theorem Ut {x x' y:Nat} (h:x < W):y*W+x+1≠(y+1)*W+x'+1:=by rw[Nat.add_mul];omega
theorem gH.cell (S:eG W H k T s) {u v:Nat} {w:Int} (a:gH W H k c T s u v w) (h:u / 2=v / 2):
    ∃x y,x < W∧y < H∧((u=inn W x y∧v=out W x y∧T x y=false∧w=c x y)∨(u=out W x y∧v=inn W x y∧T x y=true∧w= -c x y)):=by
  cases a with
  |st hx=>rw[jw] at h;omega
  | @cl x y hx hy t=>exact⟨x,y,hx,hy,.inl ⟨rfl,rfl,t,rfl⟩⟩
  |dn hx hx' hy _ _=>rw[jw,iR] at h;exact absurd h (Ut hx)
  |en hx hy=>rw[iR] at h;omega
  |ue hi hy=>rw[iR] at h;omega
  | @up i y hi hy=>rw[jw,iR] at h;exact absurd h.symm (Ut (S.lt i y hi (by omega)))
  | @bk i y hi hy=>exact⟨s i y,y,S.lt i y hi hy,hy,.inr ⟨rfl,rfl,(S.tk _ _ (S.lt i y hi hy) hy).mpr ⟨i,hi,rfl⟩,rfl⟩⟩
theorem gH.aeQ {u v:Nat} {w:Int} (a:gH W H k c T s u v w) (h:u / 2≠v / 2):w=0:=by
  cases a with
  |cl hx hy t=>rw[jw,iR] at h;exact absurd rfl h
  |bk hi hy=>rw[jw,iR] at h;exact absurd rfl h
  |_=>rfl
structure sU (W H:Nat) (φ:Nat→Int):Prop where
  st:∀x,x < W→φ 0≤φ (inn W x 0)
  dn:∀x x' y,x < W→x' < W→y+1 < H→x'≤x+1→x≤x'+1→φ (out W x y)≤φ (inn W x' (y+1))
  en:∀x y,x < W→y+1=H→φ (out W x y)≤φ 1
theorem sU.dl {φ:Nat→Int} (R:sU W H φ) (S:eG W H k T s) {i y:Nat} (hi:i < k) (hy:y < H):0≤Fl.dl W H s φ i y:=by
  unfold Fl.dl
  by_cases h:y+1 < H
  · rw[if_pos h]
    obtain⟨h1,h2⟩:=S.nr i y hi h
    have:=R.dn (s i y) (s i (y+1)) y (S.lt i y hi hy) (S.lt i _ hi h) h h1 h2
    omega
  · rw[if_neg h]
    have:=R.en (s i y) y (S.lt i y hi hy) (by omega)
    omega
noncomputable def gb (W H k:Nat) (s:Nat→Nat→Nat) (φ:Nat→Int) (v:Nat):Int:=sm k fun i=>sm H fun y=>if v=out W (s i y) y then dl W H s φ i y else 0
theorem z6 {φ:Nat→Int} (R:sU W H φ) (S:eG W H k T s) (v:Nat):0≤gb W H k s φ v:=lF fun i hi=>lF fun y hy=>by
  by_cases e:v=out W (s i y) y
  · rw[if_pos e];exact R.dl S hi hy
  · rw[if_neg e];exact Int.le_refl _
theorem abC {φ:Nat→Int} (R:sU W H φ) (S:eG W H k T s) {i y:Nat} (hi:i < k) (hy:y < H):dl W H s φ i y≤gb W H k s φ (out W (s i y) y):=by
  have nn:∀j z,j < k→z < H→0≤(if out W (s i y) y=out W (s j z) z then dl W H s φ j z else 0):=fun j z hj hz=>by
    by_cases e:out W (s i y) y=out W (s j z) z
    · rw[if_pos e];exact R.dl S hj hz
    · rw[if_neg e];exact Int.le_refl _
  have h1:=CN (f:=fun z=>if out W (s i y) y=out W (s i z) z then dl W H s φ i z else 0) (n:=H) (fun z hz=>nn i z hi hz) hy
  have h2:=CN (f:=fun j=>sm H fun z=>if out W (s i y) y=out W (s j z) z then dl W H s φ j z else 0) (n:=k) (fun j hj=>lF fun z hz=>nn j z hj hz) hi
  have h1:(if out W (s i y) y=out W (s i y) y then dl W H s φ i y else 0)≤_:=h1
  rw[if_pos rfl] at h1
  exact Int.le_trans h1 h2
theorem adW (S:eG W H k T s) (φ:Nat→Int):sm (2*(W*H+1)) (gb W H k s φ)=sm k fun i=>sm H (dl W H s φ i):=by
  unfold gb
  rw[pP k _]
  refine bR fun i hi=>?_
  rw[pP H _]
  exact bR fun y hy=>oJ (qQ (S.lt i y hi hy) hy)
theorem gH.link {φ:Nat→Int} (R:sU W H φ) (S:eG W H k T s) {u v:Nat} {w:Int} (a:gH W H k c T s u v w) (h:u / 2≠v / 2): -gb W H k s φ v≤φ v - φ u:=by
  have g0:=z6 R S v
  cases a with
  |cl hx hy t=>rw[jw,iR] at h;exact absurd rfl h
  |bk hi hy=>rw[jw,iR] at h;exact absurd rfl h
  |st hx=>have:=R.st _ hx;omega
  |dn hx hx' hy h1 h2=>have:=R.dn _ _ _ hx hx' hy h1 h2;omega
  |en hx hy=>have:=R.en _ _ hx hy;omega
  | @ue i y hi hy=>
    have:=abC R S hi (show y < H by omega)
    unfold dl at this
    rw[if_neg (by omega)] at this;omega
  | @up i y hi hy=>
    have:=abC R S hi (show y < H by omega)
    unfold dl at this
    rw[if_pos hy] at this;omega
end
end Fl
namespace Fl
noncomputable def fU (W:Nat) (ahead:Nat→Nat):Nat→Nat→(Nat→Nat→Bool)→Nat→Nat→Bool
  |0,_,T=>T
  |d+1,v,T=>fU W ahead d (ahead v) (if ahead v / 2=v / 2 then sS T ((v / 2 - 1) % W) ((v / 2 - 1) / W) else T)
noncomputable def zB (ahead:Nat→Nat) (φ:Nat→Int):Nat→Nat→Int
  |0,_=>0
  |d+1,v=>(if ahead v / 2=v / 2 then 0 else φ v - φ (ahead v))+zB ahead φ d (ahead v)
theorem abD {ahead:Nat→Nat} {G:Nat→Prop} (hG:∀v,G v→v≠0→G (ahead v)):∀{d v w:Nat},jL ahead d v→G v→vis ahead d v w=true→G w∧w≠0
  |0,_,_,_,_,h=>by cases h
  | d +1,v,w,c,g,h=>by
    rcases (Bool.or_eq_true _ _).mp h with h |h
    · have:w=v:=by simpa using h
      subst this
      exact⟨g,c.1⟩
    · exact abD hG c.2 (hG v g c.1) h
section
variable {W H k:Nat} {c:Nat→Nat→Int} {T0:Nat→Nat→Bool} {s:Nat→Nat→Nat} {ahead:Nat→Nat} {p:Nat→Int} {G:Nat→Prop}
noncomputable def z9 (W H:Nat) (c:Nat→Nat→Int) (p:Nat→Int) (T:Nat→Nat→Bool):Prop:=∀x y,x < W→y < H→(T x y=true→p (inn W x y)+c x y≤p (out W x y))∧(T x y=false→p (out W x y)≤p (inn W x y)+c x y)
theorem Uu {u v x y:Nat} (hx:x < W) (h:(u=inn W x y∧v=out W x y)∨(u=out W x y∧v=inn W x y)):(v / 2 - 1) % W=x∧(v / 2 - 1) / W=y:=by
  rcases h with⟨_,rfl⟩ |⟨_,rfl⟩
  · rw[iR,Nat.add_sub_cancel];exact⟨wJ hx,wK hx⟩
  · rw[jw,Nat.add_sub_cancel];exact⟨wJ hx,wK hx⟩
theorem yc (S:eG W H k T0 s) (hG:∀v,G v→v≠0→G (ahead v)∧∃w,gH W H k c T0 s (ahead v) v w∧p v=p (ahead v)+w):
    ∀ (d v:Nat) (T:Nat→Nat→Bool),jL ahead d v→G v→(∀w,vis ahead d v w=true→ahead w / 2=w / 2→T ((w / 2 - 1) % W) ((w / 2 - 1) / W)=T0 ((w / 2 - 1) % W) ((w / 2 - 1) / W))→z9 W H c p T→
      (∀φ,Sf W H (fU W ahead d v T) φ=Sf W H T φ+(φ v - φ 0) - zB ahead φ d v)∧z9 W H c p (fU W ahead d v T)
  | 0,v,T,ch,g,ag,co=>by
    have ch:v=0:=ch
    subst ch
    exact⟨fun φ=>by show Sf W H T φ=Sf W H T φ+(φ 0 - φ 0) - 0;omega,co⟩
  | d + 1,v,T,ch,g,ag,co=>by
    obtain⟨v0,Dv⟩:=id ch
    obtain⟨g',w,a,tight⟩:=hG v g v0
    have agv:∀w,vis ahead d (ahead v) w=true→vis ahead (d+1) v w=true:=fun w h=>by
      show (w ==v || vis ahead d (ahead v) w)=true
      rw[h,Bool.or_true]
    by_cases e:ahead v / 2=v / 2
    · obtain⟨x,y,hx,hy,hc⟩:=a.cell S e
      have hcv:(v / 2 - 1) % W=x∧(v / 2 - 1) / W=y:=Uu hx (hc.imp (fun z=>⟨z.1,z.2.1⟩) fun z=>⟨z.1,z.2.1⟩)
      have tv:T x y=T0 x y:=by
        have:=ag v (by show (v ==v || _)=true;simp) e
        rw[hcv.1,hcv.2] at this;exact this
      have step:fU W ahead (d+1) v T=fU W ahead d (ahead v) (sS T x y):=by
        show fU W ahead d (ahead v) (if ahead v / 2=v / 2 then _ else T)=_
        rw[if_pos e,hcv.1,hcv.2]
      have ag':∀w,vis ahead d (ahead v) w=true→ahead w / 2=w / 2→sS T x y ((w / 2 - 1) % W) ((w / 2 - 1) / W)=T0 ((w / 2 - 1) % W) ((w / 2 - 1) / W):=fun w hw ew=>by
        rw[←ag w (agv w hw) ew]
        refine rR fun z=>?_
        have wv:w≠v:=fun z=>by rw[z,JN ch] at hw;cases hw
        obtain⟨gw,w0⟩:=abD (fun v g h=>(hG v g h).1) Dv g' hw
        obtain⟨_,w',a',_⟩:=hG w gw w0
        obtain⟨x',y',hx',hy',hc'⟩:=a'.cell S ew
        have hcw:=Uu hx' (hc'.imp (fun z=>⟨z.1,z.2.1⟩) fun z=>⟨z.1,z.2.1⟩)
        have ex:x'=x:=hcw.1.symm.trans z.1
        have ey:y'=y:=hcw.2.symm.trans z.2
        subst ex ey
        have hu:w=ahead v∧ahead w=v:=by
          rcases hc with⟨c1,c2,_⟩ |⟨c1,c2,_⟩ <;> rcases hc' with⟨c3,c4,_⟩ |⟨c3,c4,_⟩
          · exact absurd (c4.trans c2.symm) wv
          · exact⟨c4.trans c1.symm,c3.trans c2.symm⟩
          · exact⟨c4.trans c1.symm,c3.trans c2.symm⟩
          · exact absurd (c4.trans c2.symm) wv
        have ch2:jL ahead d w:=by rw[hu.1];exact Dv
        cases d with
        |zero=>exact w0 ch2
        | succ d=>
          have ch3:=ch2.2
          rw[hu.2] at ch3
          have:=jL.uniq ch ch3
          omega
      have co':z9 W H c p (sS T x y):=fun x' y' hx' hy'=>by
        by_cases z:x'=x∧y'=y
        · obtain⟨rfl,rfl⟩:=z
          rcases hc with⟨c1,c2,_,c4⟩ |⟨c1,c2,_,c4⟩ <;> rw[c1,c2,c4] at tight
          · exact⟨fun _=>by omega,fun _=>by omega⟩
          · exact⟨fun _=>by omega,fun _=>by omega⟩
        · rw[rR z];exact co x' y' hx' hy'
      obtain⟨h1,h2⟩:=yc S hG d (ahead v) (sS T x y) Dv g' ag' co'
      rw[step]
      refine⟨fun φ=>?_,h2⟩
      rw[h1 φ,adV hx hy φ,tv]
      have el:zB ahead φ (d+1) v=zB ahead φ d (ahead v):=by
        show (if ahead v / 2=v / 2 then 0 else φ v - φ (ahead v))+zB ahead φ d (ahead v)=_
        rw[if_pos e];omega
      rw[el]
      rcases hc with⟨c1,c2,c3,_⟩ |⟨c1,c2,c3,_⟩
      · rw[c3,if_neg Bool.false_ne_true,c1,c2];omega
      · rw[c3,if_pos rfl,c1,c2];omega
    · have step:fU W ahead (d+1) v T=fU W ahead d (ahead v) T:=by
        show fU W ahead d (ahead v) (if ahead v / 2=v / 2 then _ else T)=_
        rw[if_neg e]
      obtain⟨h1,h2⟩:=yc S hG d (ahead v) T Dv g' (fun w hw ew=>ag w (agv w hw) ew) co
      rw[step]
      refine⟨fun φ=>?_,h2⟩
      rw[h1 φ]
      have el:zB ahead φ (d+1) v=φ v - φ (ahead v)+zB ahead φ d (ahead v):=by
        show (if ahead v / 2=v / 2 then 0 else φ v - φ (ahead v))+zB ahead φ d (ahead v)=_
        rw[if_neg e]
      rw[el];omega
theorem abE (hG:∀v,G v→v≠0→G (ahead v)∧∃w,gH W H k c T0 s (ahead v) v w∧p v=p (ahead v)+w):∀(d v:Nat),jL ahead d v→G v→zB ahead p d v=0
  |0,_,_,_=>rfl
  | d +1,v,ch,g=>by
    obtain⟨g',w,a,tight⟩:=hG v g ch.1
    show (if ahead v / 2=v / 2 then 0 else p v - p (ahead v))+zB ahead p d (ahead v)=0
    rw[abE hG d (ahead v) ch.2 g']
    by_cases e:ahead v / 2=v / 2
    · rw[if_pos e];rfl
    · rw[if_neg e]
      have:=a.aeQ e
      omega
theorem Yx (S:eG W H k T0 s) (hW:0 < W) (hH:0 < H) {φ:Nat→Int} (R:sU W H φ) (hG:∀v,G v→v≠0→G (ahead v)∧∃w,gH W H k c T0 s (ahead v) v w∧p v=p (ahead v)+w):
    ∀(d v:Nat),jL ahead d v→G v→-sm (2*(W*H+1)) (fun w=>if vis ahead d v w=true then gb W H k s φ w else 0)≤zB ahead φ d v
  | 0,_,_,_=>by
    show -sm _ (fun w=>if false=true then gb W H k s φ w else 0)≤0
    rw[nj fun i _=>if_neg Bool.false_ne_true];exact Int.le_refl _
  | d + 1,v,ch,g=>by
    obtain⟨g',w,a,tight⟩:=hG v g ch.1
    have ih:=Yx S hW hH R hG d (ahead v) ch.2 g'
    have hv:=(a.nodes S hW hH).2.1
    have nv:=JN ch
    have e1:sm (2*(W*H+1)) (fun w=>if vis ahead (d+1) v w=true then gb W H k s φ w else 0)=sm (2*(W*H+1)) (fun w=>if vis ahead d (ahead v) w=true then gb W H k s φ w else 0)+gb W H k s φ v:=by
      rw[←oJ (a:=gb W H k s φ v) hv,←j7]
      refine bR fun i _=>?_
      show (if (i ==v || vis ahead d (ahead v) i)=true then gb W H k s φ i else 0)=_
      by_cases z:i=v
      · subst z
        rw[nv,if_pos (by simp),if_pos rfl,if_neg Bool.false_ne_true];omega
      · have:(i ==v)=false:=by simpa using z
        rw[this,Bool.false_or,if_neg z];omega
    rw[e1]
    show _≤(if ahead v / 2=v / 2 then 0 else φ v - φ (ahead v))+zB ahead φ d (ahead v)
    have g0:=z6 R S v
    by_cases e:ahead v / 2=v / 2
    · rw[if_pos e];omega
    · rw[if_neg e]
      have:=a.link R S e
      omega
theorem acj (S:eG W H k T0 s) (hW:0 < W) (hH:0 < H) {φ:Nat→Int} (R:sU W H φ) (hG:∀v,G v→v≠0→G (ahead v)∧∃w,gH W H k c T0 s (ahead v) v w∧p v=p (ahead v)+w)
    {d:Nat} (ch:jL ahead d 1) (g:G 1) (co:z9 W H c p T0):Sf W H (fU W ahead d 1 T0) φ≤(k+1:Nat)*(φ 1 - φ 0):=by
  obtain⟨h1,_⟩:=yc S hG d 1 T0 ch g (fun _ _ _=>rfl) co
  have h2:=Yx S hW hH R hG d 1 ch g
  have h3:sm (2*(W*H+1)) (fun w=>if vis ahead d 1 w=true then gb W H k s φ w else 0)≤sm (2*(W*H+1)) (gb W H k s φ):=gP fun w _=>by
    by_cases e:vis ahead d 1 w=true
    · rw[if_pos e];exact Int.le_refl _
    · rw[if_neg e];exact z6 R S w
  rw[adW S φ] at h3
  have h4:Sf W H T0 φ≤sm k (fun _=>φ 1 - φ 0) - sm k fun i=>sm H (dl W H s φ i):=by
    rw[S.Sf' hH φ,←zZ]
    exact gP fun i hi=>by
      have:=R.st (s i 0) (S.lt i 0 hi hH)
      omega
  rw[jQ k] at h4
  rw[h1 φ,Int.natCast_succ,Int.add_mul,Int.one_mul]
  omega
end
end Fl
namespace Fl
noncomputable def cnt (P:Nat→Bool) (t:Nat):Nat→Nat
  |0=>0
  |n+1=>cnt P t n+if P n=true∧n≤t then 1 else 0
noncomputable def pl (P:Nat→Bool) (n:Nat):List Nat:=(List.range n).filter P
section
variable {P:Nat→Bool} {t n:Nat}
theorem JQ:pl P (n+1)=pl P n++if P n=true then [n] else []:=by
  unfold pl
  rw[List.range_succ,List.filter_append]
  cases h:P n <;> simp[h]
theorem JR (h:n≤t+1):cnt P t n=(pl P n).length:=by
  induction n with
  |zero=>rfl
  | succ n ih=>
    rw[JQ,List.length_append,←ih (by omega)]
    show cnt P t n+_=_
    cases e:P n with
    |false=>simp
    |true=>rw[if_pos ⟨rfl,by omega⟩,if_pos rfl];rfl
theorem adX:cnt P t n≤(pl P n).length:=by
  induction n with
  |zero=>exact Nat.le_refl _
  | succ n ih=>
    rw[JQ,List.length_append]
    show cnt P t n+_≤_
    cases e:P n with
    |false=>simp;exact ih
    | true=>
      rw[if_pos rfl]
      by_cases h:n≤t
      · rw[if_pos ⟨rfl,h⟩];simpa using ih
      · rw[if_neg fun z=>h z.2];simp;omega
theorem Yy {x:Nat}:x∈pl P n↔x < n∧P x=true:=by
  unfold pl
  rw[List.mem_filter,List.mem_range]
theorem Aa:∀{n i:Nat},i < (pl P n).length→((pl P n).getD i 0≤t↔i < cnt P t n)
  |0,i,h=>absurd h (Nat.not_lt_zero _)
  | n + 1,i,h=>by
    have hc:cnt P t (n+1)=cnt P t n+if P n=true∧n≤t then 1 else 0:=rfl
    rw[hc]
    rw[JQ] at h ⊢
    by_cases hi:i < (pl P n).length
    · rw[List.getD_eq_getElem?_getD,List.getElem?_append_left hi,←List.getD_eq_getElem?_getD,Aa hi]
      by_cases z:P n=true∧n≤t
      · rw[if_pos z]
        have:=JR (P:=P) (t:=t) (n:=n) (by omega)
        omega
      · rw[if_neg z];omega
    · cases e:P n with
      |false=>rw[e,if_neg Bool.false_ne_true,List.append_nil] at h;exact absurd h hi
      | true=>
        rw[e,if_pos rfl,List.length_append] at h
        have ei:i=(pl P n).length:=by have:i < (pl P n).length+1:=h;omega
        rw[if_pos rfl,ei,List.getD_eq_getElem?_getD,List.getElem?_append_right (Nat.le_refl _),Nat.sub_self]
        show n≤t↔_
        by_cases z:n≤t
        · rw[if_pos ⟨rfl,z⟩,JR (P:=P) (t:=t) (n:=n) (by omega)];exact⟨fun _=>Nat.lt_succ_self _,fun _=>z⟩
        · rw[if_neg fun q=>z q.2]
          have:=adX (P:=P) (t:=t) (n:=n)
          exact⟨fun q=>absurd q z,fun q=>by omega⟩
theorem getD_mem {l:List Nat} {i:Nat} (h:i < l.length):l.getD i 0∈l:=by
  rw[List.getD_eq_getElem?_getD,List.getElem?_eq_getElem h];exact List.getElem_mem h
theorem abF {i:Nat} (h:i < (pl P n).length):(pl P n).getD i 0 < n∧P ((pl P n).getD i 0)=true:=Yy.mp (getD_mem h)
theorem adY:(pl P n).Pairwise (· < ·):=by
  unfold pl
  exact List.Pairwise.filter _ List.pairwise_lt_range
theorem adZ {i:Nat} (h:i+1 < (pl P n).length):(pl P n).getD i 0 < (pl P n).getD (i+1) 0:=by
  rw[List.getD_eq_getElem?_getD,List.getD_eq_getElem?_getD,List.getElem?_eq_getElem h,List.getElem?_eq_getElem (show i < _ by omega)]
  exact List.pairwise_iff_getElem.mp adY i (i+1) (by omega) h (by omega)
theorem ad0 {x:Nat} (h:x∈pl P n):∃i,i < (pl P n).length∧(pl P n).getD i 0=x:=by
  obtain⟨i,hi,e⟩:=List.mem_iff_getElem.mp h
  exact⟨i,hi,by rw[List.getD_eq_getElem?_getD,List.getElem?_eq_getElem hi];exact e⟩
theorem Ab:∀n,((cnt P t n:Nat):Int)=sm n fun x=>if P x=true then (if x≤t then 1 else 0) else 0
  |0=>rfl
  | n +1=>by
    show ((cnt P t n+(if P n=true∧n≤t then 1 else 0):Nat):Int)=sm n _+(if P n=true then (if n≤t then 1 else 0) else 0)
    rw[Int.natCast_add,Ab n]
    by_cases h:P n=true
    · by_cases k:n≤t
      · rw[if_pos ⟨h,k⟩,if_pos h,if_pos k];rfl
      · rw[if_neg fun z=>k z.2,if_pos h,if_neg k];rfl
    · rw[if_neg fun z=>h z.1,if_neg h];rfl
end
section
variable {W H:Nat} {T:Nat→Nat→Bool} {a0 a1:Int} {fi fo:Nat→Nat→Int}
theorem Yz:Sf W H T (tbl W a0 a1 fi fo)=sm H fun y=>sm W fun x=>if T x y=true then fo x y - fi x y else 0:=
  bR fun y _=>bR fun x hx=>by rw[JL hx,JM hx]
theorem sU.tbl (st:∀x,x < W→a0≤fi x 0) (dn:∀x x' y,x < W→x' < W→y+1 < H→x'≤x+1→x≤x'+1→fo x y≤fi x' (y+1)) (en:∀x y,x < W→y+1=H→fo x y≤a1) (hH:0 < H):sU W H (tbl W a0 a1 fi fo) where
  st:=fun x hx=>by rw[JL hx];exact st x hx
  dn:=fun x x' y hx hx' hy h1 h2=>by rw[JM hx,JL hx'];exact dn x x' y hx hx' hy h1 h2
  en:=fun x y hx hy=>by rw[JM hx];exact en x y hx hy
noncomputable def Ko (W H m:Nat) (T:Nat→Nat→Bool):Prop:=∀φ,sU W H φ→Sf W H T φ≤(m:Int)*(φ 1 - φ 0)
theorem Ko.row {m:Nat} (B:Ko W H m T) (hH:0 < H) {y0:Nat} (hy:y0 < H):(pl (fun x=>T x y0) W).length=m:=by
  have e:∀a:Int,sm H (fun y=>sm W fun x=>if T x y=true then (if y0≤y then a else 0) - (if y0 < y then a else 0) else 0)=sm W fun x=>if T x y0=true then a else 0:=fun a=>by
    have h1:sm H (fun y=>sm W fun x=>if T x y=true then (if y0≤y then a else 0) - (if y0 < y then a else 0) else 0)=sm H fun y=>if y=y0 then (fun y=>sm W fun x=>if T x y=true then a else 0) y else 0:=bR fun y _=>by
      by_cases z:y=y0
      · subst z
        rw[if_pos rfl]
        exact bR fun x _=>by rw[if_pos (Nat.le_refl _),if_neg (Nat.lt_irrefl _),Int.sub_zero]
      · rw[if_neg z]
        refine nj fun x _=>?_
        by_cases q:y0≤y
        · rw[if_pos q,if_pos (c:=y0 < y) (by omega),Int.sub_self];exact ite_self _
        · rw[if_neg q,if_neg (c:=y0 < y) (by omega),Int.sub_self];exact ite_self _
    rw[h1,G9 hy]
  have ris:∀a:Int,sU W H (Fl.tbl W 0 a (fun x y=>if y0 < y then a else 0) (fun x y=>if y0≤y then a else 0)):=fun a=>by
    refine sU.tbl (fun x _=>?_) (fun x x' y _ _ _ _ _=>?_) (fun x y _ h=>?_) hH
    · rw[if_neg (Nat.not_lt_zero _)];exact Int.le_refl _
    · by_cases q:y0≤y
      · rw[if_pos q,if_pos (by omega)];exact Int.le_refl _
      · rw[if_neg q,if_neg (by omega)];exact Int.le_refl _
    · rw[if_pos (by omega)];exact Int.le_refl _
  have ct:∀a:Int,sm W (fun x=>if T x y0=true then a else 0)≤m*a:=fun a=>by
    have h:=B _ (ris a)
    rw[Yz,e a] at h
    have e1:Fl.tbl W 0 a (fun x y=>if y0 < y then a else 0) (fun x y=>if y0≤y then a else 0) 1=a:=rfl
    have e0:Fl.tbl W 0 a (fun x y=>if y0 < y then a else 0) (fun x y=>if y0≤y then a else 0) 0=0:=rfl
    rw[e1,e0,Int.sub_zero] at h
    exact h
  have h1:=ct 1
  have h2:=ct (-1)
  have e3:sm W (fun x=>if T x y0=true then (-1:Int) else 0)= -sm W (fun x=>if T x y0=true then (1:Int) else 0):=by
    rw[←zY]
    refine bR fun x _=>?_
    by_cases q:T x y0=true
    · rw[if_pos q,if_pos q]
    · rw[if_neg q,if_neg q];rfl
  have e4:=Ab (P:=fun x=>T x y0) (t:=W) W
  rw[JR (by omega)] at e4
  have e5:sm W (fun x=>if T x y0=true then (if x≤W then (1:Int) else 0) else 0)=sm W (fun x=>if T x y0=true then (1:Int) else 0):=bR fun x hx=>by rw[if_pos (Nat.le_of_lt hx)]
  have e4:(((pl (fun x=>T x y0) W).length:Nat):Int)=sm W (fun x=>if T x y0=true then (if x≤W then (1:Int) else 0) else 0):=e4
  rw[e5] at e4
  rw[e3] at h2
  omega
theorem aa0 {y0:Nat} (hy:y0+1 < H) {f:Nat→Int} (h:∀y,y < H→y≠y0→y≠y0+1→f y=0):sm H f=f y0+f (y0+1):=by
  rw[←G9 (f:=f) (show y0 < H by omega),←G9 (f:=f) hy,←j7]
  refine bR fun y hy'=>?_
  by_cases a:y=y0
  · rw[if_pos a,if_neg (by omega)];omega
  · rw[if_neg a]
    by_cases b:y=y0+1
    · rw[if_pos b];omega
    · rw[if_neg b,h y hy' a b];rfl
theorem Ko.near {m:Nat} (B:Ko W H m T) (hH:0 < H) {y0:Nat} (hy:y0+1 < H) (t:Nat):cnt (fun x=>T x y0) t W≤cnt (fun x=>T x (y0+1)) (t+1) W∧cnt (fun x=>T x (y0+1)) t W≤cnt (fun x=>T x y0) (t+1) W:=by
  have go :∀(a:Int) (t1 t2:Nat),sU W H (Fl.tbl W 0 0 (fun x y=>if y=y0+1∧x≤t2 then a else 0) (fun x y=>if y=y0∧x≤t1 then a else 0))→
      sm W (fun x=>if T x y0=true then (if x≤t1 then a else 0) else 0)≤sm W (fun x=>if T x (y0+1)=true then (if x≤t2 then a else 0) else 0):=fun a t1 t2 R=>by
    have h:=B _ R
    rw[Yz] at h
    have e1:Fl.tbl W 0 0 (fun x y=>if y=y0+1∧x≤t2 then a else 0) (fun x y=>if y=y0∧x≤t1 then a else 0) 1=0:=rfl
    have e0:Fl.tbl W 0 0 (fun x y=>if y=y0+1∧x≤t2 then a else 0) (fun x y=>if y=y0∧x≤t1 then a else 0) 0=0:=rfl
    rw[e1,e0,Int.sub_self,Int.mul_zero,aa0 hy fun y _ n1 n2=>nj fun x _=>by rw[if_neg (c:=y=y0∧x≤t1) (fun z=>n1 z.1),if_neg (c:=y=y0+1∧x≤t2) (fun z=>n2 z.1),Int.sub_self];exact ite_self _] at h
    have q1:sm W (fun x=>if T x y0=true then (if y0=y0∧x≤t1 then a else 0) - (if y0=y0+1∧x≤t2 then a else 0) else 0)=sm W (fun x=>if T x y0=true then (if x≤t1 then a else 0) else 0):=bR fun x _=>by
      rw[if_neg (c:=y0=y0+1∧x≤t2) (fun z=>by omega),Int.sub_zero]
      by_cases z:x≤t1
      · rw[if_pos (c:=y0=y0∧x≤t1) ⟨rfl,z⟩,if_pos z]
      · rw[if_neg (c:=y0=y0∧x≤t1) (fun q=>z q.2),if_neg z]
    have q2:sm W (fun x=>if T x (y0+1)=true then (if y0+1=y0∧x≤t1 then a else 0) - (if y0+1=y0+1∧x≤t2 then a else 0) else 0)= -sm W (fun x=>if T x (y0+1)=true then (if x≤t2 then a else 0) else 0):=by
      rw[←zY]
      exact bR fun x _=>by
        rw[if_neg (c:=y0+1=y0∧x≤t1) (fun z=>by omega),Int.zero_sub]
        by_cases z:x≤t2
        · rw[if_pos (c:=y0+1=y0+1∧x≤t2) ⟨rfl,z⟩,if_pos z]
          by_cases w:T x (y0+1)=true
          · rw[if_pos w,if_pos w]
          · rw[if_neg w,if_neg w];rfl
        · rw[if_neg (c:=y0+1=y0+1∧x≤t2) (fun q=>z q.2),if_neg z]
          by_cases w:T x (y0+1)=true
          · rw[if_pos w,if_pos w]
          · rw[if_neg w,if_neg w];rfl
    rw[q1,q2] at h
    omega
  have ng:∀(P:Nat→Bool) (t:Nat),sm W (fun x=>if P x=true then (if x≤t then (-1:Int) else 0) else 0)= -(cnt P t W:Nat):=fun P t=>by
    rw[Ab,←zY]
    exact bR fun x _=>by
      by_cases w:P x=true
      · rw[if_pos w,if_pos w]
        by_cases z:x≤t
        · rw[if_pos z,if_pos z]
        · rw[if_neg z,if_neg z];rfl
      · rw[if_neg w,if_neg w];rfl
  constructor
  · have h:=go 1 t (t+1) (sU.tbl (fun x _=>by split <;> decide) (fun x x' y _ _ _ h1 h2=>by
      by_cases z:y=y0∧x≤t
      · rw[if_pos z,if_pos ⟨by omega,by omega⟩];decide
      · rw[if_neg z];split <;> decide) (fun x y _ h=>by rw[if_neg (fun z=>by omega)];decide) hH)
    have k1:=Ab (P:=fun x=>T x y0) (t:=t) W
    have k2:=Ab (P:=fun x=>T x (y0+1)) (t:=t+1) W
    have k1:((cnt (fun x=>T x y0) t W:Nat):Int)=sm W (fun x=>if T x y0=true then (if x≤t then (1:Int) else 0) else 0):=k1
    have k2:((cnt (fun x=>T x (y0+1)) (t+1) W:Nat):Int)=sm W (fun x=>if T x (y0+1)=true then (if x≤t+1 then (1:Int) else 0) else 0):=k2
    omega
  · have h:=go (-1) (t+1) t (sU.tbl (fun x _=>by rw[if_neg (fun z=>by omega)];decide) (fun x x' y _ _ _ h1 h2=>by
      by_cases z:y+1=y0+1∧x'≤t
      · rw[if_pos z,if_pos ⟨by omega,by omega⟩];decide
      · rw[if_neg z];split <;> decide) (fun x y _ h=>by split <;> decide) hH)
    have k1:=ng (fun x=>T x y0) (t+1)
    have k2:=ng (fun x=>T x (y0+1)) t
    have k1:sm W (fun x=>if T x y0=true then (if x≤t+1 then (-1:Int) else 0) else 0)= -(cnt (fun x=>T x y0) (t+1) W:Nat):=k1
    have k2:sm W (fun x=>if T x (y0+1)=true then (if x≤t then (-1:Int) else 0) else 0)= -(cnt (fun x=>T x (y0+1)) t W:Nat):=k2
    omega
noncomputable def sq (W:Nat) (T:Nat→Nat→Bool) (i y:Nat):Nat:=(pl (fun x=>T x y) W).getD i 0
theorem Ko.sms {m:Nat} (B:Ko W H m T) (hH:0 < H):eG W H m T (sq W T) where
  lt:=fun i y hi hy=>(abF (by rw[B.row hH hy];exact hi)).1
  Yc:=fun i y hi hy=>adZ (by rw[B.row hH hy];exact hi)
  nr:=fun i y hi hy=>by
    have l0:i < (pl (fun x=>T x y) W).length:=by rw[B.row hH (show y < H by omega)];exact hi
    have l1:i < (pl (fun x=>T x (y+1)) W).length:=by rw[B.row hH hy];exact hi
    have n1:=(B.near hH hy (sq W T i y)).1
    have n2:=(B.near hH hy (sq W T i (y+1))).2
    have c1:=(Aa (t:=sq W T i y) l0).mp (Nat.le_refl _)
    have c2:=(Aa (t:=sq W T i (y+1)) l1).mp (Nat.le_refl _)
    exact⟨(Aa l1).mpr (Nat.lt_of_lt_of_le c1 n1),(Aa l0).mpr (Nat.lt_of_lt_of_le c2 n2)⟩
  tk :=fun x y hx hy=>by
    have el:=B.row hH hy
    constructor
    · intro h
      obtain⟨i,hi,e⟩:=ad0 (Yy.mpr ⟨hx,h⟩:x∈pl (fun x=>T x y) W)
      exact⟨i,by omega,e⟩
    · rintro⟨i,hi,e⟩
      have:=(abF (show i < (pl (fun x=>T x y) W).length by omega)).2
      have e:(pl (fun x=>T x y) W).getD i 0=x:=e
      rw[e] at this;exact this
end
end Fl
namespace Fl
section
variable {W H k:Nat} {c:Nat→Nat→Int} {T:Nat→Nat→Bool} {s:Nat→Nat→Nat} {ahead:Nat→Nat} {p:Nat→Int} {G:Nat→Prop}
structure fY (W H k:Nat) (c:Nat→Nat→Int) (T:Nat→Nat→Bool) (s:Nat→Nat→Nat) (p:Nat→Int):Prop where
  z:p 0=0
  nn:∀v,v < 2*(W*H+1)→0≤p v
  ar:∀u v w,gH W H k c T s u v w→p v≤p u+w
theorem fY.cells (P:fY W H k c T s p) (S:eG W H k T s):z9 W H c p T:=fun x y hx hy=>by
  refine⟨fun t=>?_,fun t=>?_⟩
  · obtain⟨i,hi,e⟩:=(S.tk x y hx hy).mp t
    have:=P.ar _ _ _ (.bk hi hy)
    rw[e] at this;omega
  · exact P.ar _ _ _ (.cl hx hy t)
theorem fY.top (P:fY W H k c T s p) (hH:0 < H) {x:Nat} (hx:x < W):p (inn W x 0)=0:=by
  have h1:=P.ar _ _ _ (.st hx)
  have h2:=P.nn _ (sO hx hH)
  have:=P.z
  omega
theorem fY.dl0 (P:fY W H k c T s p) (S:eG W H k T s) {i y:Nat} (hi:i < k) (hy:y < H):dl W H s p i y=0:=by
  unfold dl
  by_cases h:y+1 < H
  · rw[if_pos h]
    obtain⟨h1,h2⟩:=S.nr i y hi h
    have a:=P.ar _ _ _ (.dn (S.lt i y hi hy) (S.lt i _ hi h) h h1 h2)
    have b:=P.ar _ _ _ (.up hi h)
    omega
  · rw[if_neg h]
    have a:=P.ar _ _ _ (.en (S.lt i y hi hy) (show y+1=H by omega))
    have b:=P.ar _ _ _ (.ue hi (show y+1=H by omega))
    omega
theorem fY.Sf (P:fY W H k c T s p) (S:eG W H k T s) (hH:0 < H):Fl.Sf W H T p=k*p 1:=by
  rw[S.Sf' hH p,←jQ (a:=p 1) k]
  exact bR fun i hi=>by rw[P.top hH (S.lt i 0 hi hH),nj fun y hy=>P.dl0 S hi hy];omega
theorem augment (hW:0 < W) (hH:0 < H) (S:eG W H k T s) (P:fY W H k c T s p) (hG:∀v,G v→v≠0→G (ahead v)∧∃w,gH W H k c T s (ahead v) v w∧p v=p (ahead v)+w)
    {d:Nat} (ch:jL ahead d 1) (g:G 1):Ko W H (k+1) (fU W ahead d 1 T)∧fY W H (k+1) c (fU W ahead d 1 T) (sq W (fU W ahead d 1 T)) p:=by
  have co:=P.cells S
  obtain⟨h1,co'⟩:=yc S hG d 1 T ch g (fun _ _ _=>rfl) co
  have B:Ko W H (k+1) (fU W ahead d 1 T):=fun φ R=>acj S hW hH R hG ch g co
  have S':=B.sms hH
  have e:=h1 p
  rw[P.Sf S hH,abE hG d 1 ch g,S'.Sf' hH p] at e
  have tops:∀i,i < k+1→p (inn W (sq W (fU W ahead d 1 T) i 0) 0)=0:=fun i hi=>P.top hH (S'.lt i 0 hi hH)
  have le:∀i,i < k+1→∀y,y < H→dl W H (sq W (fU W ahead d 1 T)) p i y≤0:=fun i hi y hy=>by
    unfold dl
    by_cases h:y+1 < H
    · rw[if_pos h]
      obtain⟨h1,h2⟩:=S'.nr i y hi h
      have a:=P.ar _ _ _ (.dn (S'.lt i y hi hy) (S'.lt i _ hi h) h h1 h2)
      omega
    · rw[if_neg h]
      have a:=P.ar _ _ _ (.en (S'.lt i y hi hy) (show y+1=H by omega))
      omega
  have e2:sm (k+1) (fun i=>p 1 - p (inn W (sq W (fU W ahead d 1 T) i 0) 0) - sm H (dl W H (sq W (fU W ahead d 1 T)) p i))=sm (k+1) (fun _=>p 1) - sm (k+1) fun i=>sm H (dl W H (sq W (fU W ahead d 1 T)) p i):=by
    rw[←zZ]
    exact bR fun i hi=>by rw[tops i hi,Int.sub_zero]
  rw[e2,jQ (k+1),Int.natCast_succ,Int.add_mul,Int.one_mul] at e
  have z0:=P.z
  have tot:sm (k+1) (fun i=>sm H (dl W H (sq W (fU W ahead d 1 T)) p i))=0:=by omega
  have each:∀i,i < k+1→sm H (dl W H (sq W (fU W ahead d 1 T)) p i)=0:=fun i hi=>
    Du (f:=fun i=>sm H (dl W H (sq W (fU W ahead d 1 T)) p i)) (g:=fun _=>0) (n:=k+1) (fun i hi=>by
      have:=gP (le i hi)
      rw[nW H] at this;exact this) (by rw[nW,tot];exact Int.le_refl _) i hi
  have dl0:∀i,i < k+1→∀y,y < H→dl W H (sq W (fU W ahead d 1 T)) p i y=0:=fun i hi=>
    Du (g:=fun _=>0) (n:=H) (le i hi) (by rw[nW,each i hi];exact Int.le_refl _)
  refine⟨B,P.z,P.nn,fun u v w a=>?_⟩
  cases a with
  |st hx=>exact P.ar _ _ _ (.st hx)
  |cl hx hy t=>exact (co' _ _ hx hy).2 t
  |dn hx hx' hy h1 h2=>exact P.ar _ _ _ (.dn hx hx' hy h1 h2)
  |en hx hy=>exact P.ar _ _ _ (.en hx hy)
  | @ue i y hi hy=>
    have:=dl0 i hi y (by omega)
    unfold dl at this
    rw[if_neg (by omega)] at this;omega
  | @up i y hi hy=>
    have:=dl0 i hi y (by omega)
    unfold dl at this
    rw[if_pos hy] at this;omega
  | @bk i y hi hy=>
    have:=(co' _ _ (S'.lt i y hi hy) hy).1 ((S'.tk _ _ (S'.lt i y hi hy) hy).mpr ⟨i,hi,rfl⟩)
    omega
theorem fY.YB (hH:0 < H) (S:eG W H k T s) (P:fY W H k c T s p) (hc:∀x y,x < W→y < H→0≤c x y) (hk:k < W):p 1≤sm H fun y=>sm W fun x=>c x y:=by
  have n0:0≤p 1:=P.nn 1 (by have:=Nat.mul_pos (show 0 < W by omega) hH;omega)
  have col:∀x,x < W→p 1≤sm H fun y=>p (out W x y) - p (inn W x y):=fun x hx=>by
    have h:=Ng (f:=fun y=>if y < H then p (inn W x y) else p 1) H
    simp only[Nat.lt_irrefl,if_false,hH,if_true,P.top hH hx] at h
    have:sm H (fun y=>(if y+1 < H then p (inn W x (y+1)) else p 1) - (if y < H then p (inn W x y) else p 1))≤sm H fun y=>p (out W x y) - p (inn W x y):=gP fun y hy=>by
      rw[if_pos hy]
      by_cases q:y+1 < H
      · rw[if_pos q]
        have:=P.ar _ _ _ (.dn hx hx q (by omega) (by omega))
        omega
      · rw[if_neg q]
        have:=P.ar _ _ _ (.en hx (show y+1=H by omega))
        omega
    omega
  have all:(W:Int)*p 1≤sm W fun x=>sm H fun y=>p (out W x y) - p (inn W x y):=by
    rw[←jQ (a:=p 1) W];exact gP col
  rw[pP H W] at all
  have split:sm H (fun y=>sm W fun x=>p (out W x y) - p (inn W x y))≤Fl.Sf W H T p+sm H fun y=>sm W fun x=>c x y:=by
    unfold Fl.Sf
    rw[←j7]
    refine gP fun y hy=>?_
    rw[←j7]
    refine gP fun x hx=>?_
    have c0:=hc x y hx hy
    cases t:T x y with
    |true=>rw[if_pos rfl];omega
    | false=>
      rw[if_neg Bool.false_ne_true]
      have:=P.ar _ _ _ (.cl hx hy t)
      omega
  rw[P.Sf S hH] at split
  have hm:((k:Int)+1)*p 1≤W*p 1:=Int.mul_le_mul_of_nonneg_right (by omega) n0
  rw[Int.add_mul,Int.one_mul] at hm
  omega
theorem fY.Uv (S:eG W H k T s) (P:fY W H k c T s p) (hc:∀x y,x < W→y < H→0≤c x y) {i:Nat} (hi:i < k):∀(m y:Nat),y+m+1=H→p (out W (s i y) y)≤p 1
  | 0,y,h=>by
    have:=P.ar _ _ _ (.ue hi (show y+1=H by omega));omega
  | m+1,y,h=>by
    have ih:=fY.Uv S P hc hi m (y+1) (by omega)
    have a:=P.ar _ _ _ (.up hi (show y+1 < H by omega))
    have b:=P.ar _ _ _ (.bk hi (show y+1 < H by omega))
    have:=hc _ (y+1) (S.lt i (y+1) hi (by omega)) (by omega)
    omega
theorem fY.YC (hW:0 < W) (hH:0 < H) (S:eG W H k T s) (P:fY W H k c T s p) (hc:∀x y,x < W→y < H→0≤c x y) {x:Nat} (hx:x < W):∀y,y < H→p (inn W x y)≤p 1+sm y (c x)∧p (out W x y)≤p 1+sm (y+1) (c x):=by
  have n0:0≤p 1:=P.nn 1 (by have:=Nat.mul_pos hW hH;omega)
  have ob:∀y,y < H→p (inn W x y)≤p 1+sm y (c x)→p (out W x y)≤p 1+sm (y+1) (c x):=fun y hy h=>by
    have e:sm (y+1) (c x)=sm y (c x)+c x y:=rfl
    have c0:=hc x y hx hy
    have s0:0≤sm y (c x):=lF fun j hj=>hc x j hx (by omega)
    cases t:T x y with
    |false=>have:=P.ar _ _ _ (.cl hx hy t);omega
    | true=>
      obtain⟨i,hi,e2⟩:=(S.tk x y hx hy).mp t
      have:=P.Uv S hc hi (H - 1 - y) y (by omega)
      rw[e2] at this;omega
  intro y
  induction y with
  | zero=>
    intro hy
    have h:p (inn W x 0)≤p 1+sm 0 (c x):=by rw[P.top hH hx];show 0≤p 1+0;omega
    exact⟨h,ob 0 hy h⟩
  | succ y ih=>
    intro hy
    have h:=(ih (by omega)).2
    have a:=P.ar _ _ _ (.dn hx hx hy (by omega) (by omega))
    have h2:p (inn W x (y+1))≤p 1+sm (y+1) (c x):=by omega
    exact⟨h2,ob (y+1) hy h2⟩
theorem Uw {f:Nat→Int} {n:Nat}:∀{m:Nat},(∀i,i < m→0≤f i)→n≤m→sm n f≤sm m f
  |0,_,h=>by rw[Nat.le_zero.mp h];exact Int.le_refl _
  | m +1,hf,h=>by
    by_cases e:n=m+1
    · rw[e];exact Int.le_refl _
    · have:=Uw (n:=n) (m:=m) (fun i hi=>hf i (by omega)) (by omega)
      have:=hf m (Nat.lt_succ_self m)
      show sm n f≤sm m f+f m
      omega
theorem Vs {v:Nat} (hW:0 < W) (hv:v < 2*(W*H+1)):v=0∨v=1∨∃x y,x < W∧y < H∧(v=inn W x y∨v=out W x y):=by
  by_cases h0:v=0
  · exact .inl h0
  by_cases h1:v=1
  · exact .inr (.inl h1)
  refine .inr (.inr ⟨(v / 2 - 1) % W,(v / 2 - 1) / W,Nat.mod_lt _ hW,Nat.div_lt_of_lt_mul (by omega),?_⟩)
  have e:=Nat.div_add_mod (v / 2 - 1) W
  rw[Nat.mul_comm] at e
  unfold inn out
  rw[e]
  omega
theorem fY.le (hW:0 < W) (hH:0 < H) (S:eG W H k T s) (P:fY W H k c T s p) (hc:∀x y,x < W→y < H→0≤c x y) (hk:k < W) {v:Nat} (hv:v < 2*(W*H+1)):p v≤2*sm H fun y=>sm W fun x=>c x y:=by
  have e1:=P.YB hH S hc hk
  have n0:0≤p 1:=P.nn 1 (by have:=Nat.mul_pos hW hH;omega)
  have ad1:∀x y,x < W→y≤H→sm y (c x)≤sm H fun y=>sm W fun x=>c x y:=fun x y hx hy=>
    Int.le_trans (Uw (fun j hj=>hc x j hx hj) hy) (gP fun j hj=>CN (f:=fun x=>c x j) (fun x hx=>hc x j hx hj) hx)
  rcases Vs hW hv with rfl |rfl |⟨x,y,hx,hy,rfl |rfl⟩
  · rw[P.z];omega
  · omega
  · have:=(P.YC hW hH S hc hx y hy).1
    have:=ad1 x y hx (by omega)
    omega
  · have:=(P.YC hW hH S hc hx y hy).2
    have:=ad1 x (y+1) hx hy
    omega
theorem fY.none (hc:∀x y,x < W→y < H→0≤c x y) (hT:∀x y,T x y=false):fY W H 0 c T s (fun _=>0) where
  z:=rfl
  nn:=fun _ _=>Int.le_refl _
  ar:=fun u v w a=>by
    cases a with
    |cl hx hy t=>have:=hc _ _ hx hy;show (0:Int)≤0+_;omega
    |ue hi _=>exact absurd hi (Nat.not_lt_zero _)
    |up hi _=>exact absurd hi (Nat.not_lt_zero _)
    |bk hi _=>exact absurd hi (Nat.not_lt_zero _)
    |_=>exact Int.le_refl _
theorem eG.none (hT:∀x y,T x y=false):eG W H 0 T s:=⟨fun _ _ h=>absurd h (Nat.not_lt_zero _),fun _ _ h=>absurd h (Nat.not_lt_zero _),fun _ _ h=>absurd h (Nat.not_lt_zero _),fun x y _ _=>⟨fun h=>(by rw[hT x y] at h;cases h),fun ⟨_,h,_⟩=>absurd h (Nat.not_lt_zero _)⟩⟩
theorem searched (hW:0 < W) (hH:0 < H) (S:eG W H k T s) {q:Nat→Int} (Q:fY W H k c T s q) (hc:∀x y,x < W→y < H→0≤c x y) (hk:k < W) {far:Int} (afc:3*(sm H fun y=>sm W fun x=>c x y) < far)
    (Sc:kZ (gH W H k c T s) (2*(W*H+1)) far q p ahead) (ex:∀u v w,gH W H k c T s u v w→p v≤p u+w):
    fY W H k c T s p∧∃(d:Nat) (G:Nat→Prop),jL ahead d 1∧G 1∧∀v,G v→v≠0→G (ahead v)∧∃w,gH W H k c T s (ahead v) v w∧p v=p (ahead v)+w:=by
  have P:fY W H k c T s p:=⟨Sc.z,fun v hv=>Int.le_trans (Q.nn v hv) (Sc.lo v hv),ex⟩
  have h1:1 < 2*(W*H+1):=by have:=Nat.mul_pos hW hH;omega
  refine⟨P,Sc.over (fun u v w a=>a.nodes S hW hH) Q.ar ex h1 fun r hr=>?_⟩
  have a:=P.YB hH S hc hk
  have b:=Q.le hW hH S hc hk hr
  have:=Q.nn 1 h1
  omega
end
end Fl
namespace iU
open PySem PySem.Spec L2 Pu
open PyProof.Rows hiding St
noncomputable def Ad:aq→So:=(retS (bin (bin (fun ρ=>aj ρ 0) (aD maxD (ao (fun _=> .ok (.int 0)) (ao (aD minD (ao (bin (aD cB (ao (fun ρ=>aj ρ 0) (fun _=> .ok []))) (fun _=> .ok (.int 1)) dZ) (ao (fun ρ=>aj ρ 2) (fun _=> .ok [])))) (fun _=> .ok [])))) bQ) (aD maxD (ao (fun _=> .ok (.int 0)) (ao (aD minD (ao (bin (aD cB (ao (bin (fun ρ=>aj ρ 0) (fun _=> .ok (.int 0)) bQ) (fun _=> .ok []))) (fun _=> .ok (.int 1)) dZ) (ao (fun ρ=>aj ρ 1) (fun _=> .ok [])))) (fun _=> .ok [])))) bQ))
noncomputable def gJ:List D→R D:=cO 0 Ad
noncomputable def uU:aq→So:=(aZ (bJ (aD zR (ao (bin (aD (bC gJ 3) (ao (fun ρ=>aj ρ 0) (ao (bin (fun ρ=>aj ρ 2) (fun _=> .ok (.int 1)) dZ) (ao (fun ρ=>aj ρ 3) (fun _=> .ok []))))) (aD (bC gJ 3) (ao (fun ρ=>aj ρ 0) (ao (bin (fun ρ=>aj ρ 2) (fun _=> .ok (.int 1)) cT) (ao (fun ρ=>aj ρ 3) (fun _=> .ok []))))) dZ) (fun _=> .ok []))) (aG 5)) (aZ (gM (bL (bin (fun ρ=>aj ρ 1) (fun _=> .ok (.str "worth")) wC)) (retS (bin (fun ρ=>aj ρ 5) (aD zR (ao (bin (aD (bC gJ 3) (ao (fun ρ=>aj ρ 0) (ao (fun ρ=>aj ρ 2) (ao (bin (fun ρ=>aj ρ 3) (fun _=> .ok (.int 1)) dZ) (fun _=> .ok []))))) (aD (bC gJ 3) (ao (fun ρ=>aj ρ 0) (ao (fun ρ=>aj ρ 2) (ao (bin (fun ρ=>aj ρ 3) (fun _=> .ok (.int 1)) cT) (fun _=> .ok []))))) dZ) (fun _=> .ok []))) cT)) So.nx) (aZ (gM (ou (bL (bin (fun ρ=>aj ρ 4) (fun _=> .ok .non) XQ)) (bL (bin (fun ρ=>aj ρ 4) (fun ρ=>aj ρ 2) fX))) (bJ (bin (fun ρ=>aj ρ 5) (aD zR (ao (bin (bin (bin (fun ρ=>aj ρ 0) (bin (fun ρ=>aj ρ 3) (fun _=> .ok (.int 1)) dZ) bQ) (fun ρ=>aj ρ 2) bQ) (bin (bin (fun ρ=>aj ρ 0) (fun ρ=>aj ρ 3) bQ) (TJ (bL (bin (fun ρ=>aj ρ 4) (fun ρ=>aj ρ 2) ltI)) (bin (fun ρ=>aj ρ 2) (fun _=> .ok (.int 1)) dZ) (bin (fun ρ=>aj ρ 2) (fun _=> .ok (.int 1)) cT)) bQ) dZ) (fun _=> .ok []))) cT) (aG 5)) So.nx) (retS (fun ρ=>aj ρ 5)))))
noncomputable def fZ:List D→R D:=cO 1 uU
noncomputable def uV:aq→So:=(aZ (bJ (bin (m9 (ao (fun _=> .ok .non) (fun _=> .ok []))) (GQ (fun ρ=>aj ρ 2) (fun _=> .ok none) (fun ρ=>(((zV (fun _=> .ok (.int 1))):aq→R D) ρ).bind Ka)) cT) (aG 3)) (retS (aD ni (ao (bB 2 [3,1,0] (fun ρ=>((ao (fun ρ=>aj ρ 2) (fun _=> .ok [])) ρ).bind jh) (dG (dI 2 (bA (aG 0) (bA (aG 1) nilG)))) (fun _=> .ok true) (aD (bC fZ 5) (ao (fun ρ=>aj ρ 4) (ao (fun ρ=>aj ρ 3) (ao (fun ρ=>aj ρ 1) (ao (fun ρ=>aj ρ 0) (ao (bin (fun ρ=>aj ρ 2) (fun ρ=>aj ρ 0) bQ) (fun _=> .ok [])))))))) (fun _=> .ok [])))))
noncomputable def mQ:List D→R D:=cO 1 uV
noncomputable def sV:aq→So:=(aZ (bJ (bin (fun _=> .ok (.int 7)) (fun ρ=>aj ρ 1) gR) (aG 3)) (aZ (gM (bL (bin (fun ρ=>aj ρ 0) (kO (fun _=> .ok [])) fX)) (aZ (bJ (bin (fun ρ=>aj ρ 0) (bin (fun ρ=>aj ρ 1) (aD cB (ao (fun ρ=>aj ρ 0) (fun _=> .ok []))) fV) bQ) (aG 3)) (aZ (bJ (bin (fun ρ=>aj ρ 1) (aD cB (ao (fun ρ=>aj ρ 0) (fun _=> .ok []))) eX) (aG 4)) (aZ (gM (ou (bL (bin (fun ρ=>aj ρ 3) (bin (fun _=> .ok (.int 10)) (fun _=> .ok (.int 18)) uP) LC)) (bL (bin (fun ρ=>aj ρ 4) (fun _=> .ok (.int 60)) ltI))) (aZ (bJ (bin (fun ρ=>aj ρ 3) (bin (fun _=> .ok (.int 10)) (fun _=> .ok (.int 18)) uP) eX) (aG 5)) (aZ (gO (ou (bL (bin (fun ρ=>aj ρ 5) (fun _=> .ok (.int 0)) nP)) (bL (bin (fun ρ=>aj ρ 4) (fun _=> .ok (.int 0)) nP))) (aZ (bJ (bin (fun ρ=>aj ρ 5) (fun _=> .ok (.int 1000000)) eX) (aG 5)) (bJ (bin (fun ρ=>aj ρ 4) (fun _=> .ok (.int 1)) dZ) (aG 4))) 64) (gM (bL (bin (fun ρ=>aj ρ 5) (fun _=> .ok (.int 0)) nP)) (retS (bin (bin (fun ρ=>aj ρ 5) (fun _=> .ok (.int 1000000)) fV) (fun ρ=>aj ρ 2) fV)) So.nx))) So.nx) (bJ (bin (fun ρ=>aj ρ 3) (bin (fun _=> .ok (.int 6553)) (bin (fun ρ=>aj ρ 1) (aD cB (ao (fun ρ=>aj ρ 0) (fun _=> .ok []))) eX) gR) fQ) (aG 3))))) So.nx) (aZ (bJ (bin (bin (bin (bin (fun ρ=>aj ρ 3) (fun _=> .ok (.int 2147483563)) fV) (fun _=> .ok (.int 69069)) gR) (bin (fun _=> .ok (.int 104723)) (bin (fun ρ=>aj ρ 1) (fun _=> .ok (.int 1)) fQ) gR) fQ) (fun _=> .ok (.int 2147483563)) fV) (aG 3)) (aZ (bJ (bin (bin (bin (fun ρ=>aj ρ 3) (fun ρ=>aj ρ 3) gR) (bin (fun ρ=>aj ρ 3) (fun _=> .ok (.int 3)) eX) fQ) (fun _=> .ok (.int 2147483399)) fV) (aG 3)) (retS (bin (bin (bin (bin (bin (fun ρ=>aj ρ 3) (fun ρ=>aj ρ 3) gR) (bin (fun ρ=>aj ρ 3) (fun _=> .ok (.int 7)) eX) fQ) (fun _=> .ok (.int 2147483647)) fV) (fun _=> .ok (.int 11)) eX) (fun ρ=>aj ρ 2) fV))))))
noncomputable def bW:List D→R D:=cO 3 sV
noncomputable def lsB:aq→So:=(bJ (bB 2 [1] (fun ρ=>((ao (fun ρ=>aj ρ 2) (fun _=> .ok [])) ρ).bind jh) (dG (dI 2 (bA (aG 0) (bA (aG 1) nilG)))) (fun _=> .ok true) (bin (fun ρ=>aj ρ 1) (aD (lR ltB) (ao (wH (fun ρ=>aj ρ 2) (fun ρ=>((aD maxD (ao (fun _=> .ok (.int 0)) (ao (bin (fun ρ=>aj ρ 0) (fun _=> .ok (.int 1)) dZ) (fun _=> .ok [])))) ρ).bind Ka) (fun ρ=>((bin (fun ρ=>aj ρ 0) (fun _=> .ok (.int 2)) cT) ρ).bind Ka)) (fun _=> .ok []))) cT)) (aG 1))
noncomputable def nq:aq→So:=(aZ (bJ (aD aay (ao (bin (fun ρ=>aj ρ 0) (zV (fun _=> .ok (.int 1))) bQ) (fun _=> .ok []))) (aG 1)) (aZ (oE (d7 (abB (fun ρ=>aj ρ 0))) (aG 2) lsB) (retS (aD (lR ltB) (ao (fun ρ=>aj ρ 1) (fun _=> .ok []))))))
noncomputable def iV:List D→R D:=cO 2 nq
noncomputable def pQ:aq→So:=(aZ (Ml 4 5 (bin (kO (ao (fun _=> .ok (.int 2)) (ao (fun _=> .ok (.int 5)) (ao (fun _=> .ok (.int 100)) (ao (fun _=> .ok (.int 10)) (fun _=> .ok [])))))) (aD (bC bW 3) (ao (fun ρ=>aj ρ 0) (ao (fun ρ=>aj ρ 1) (ao (fun _=> .ok (.int 4)) (fun _=> .ok []))))) bQ) (fun _=> .ok [])) (aZ (oE (fun ρ=>((ao (fun ρ=>aj ρ 3) (fun _=> .ok [])) ρ).bind gY) (aG 6) (uR 5 (aD mq (ao (bB 1 [1,2,4,0,6] (fun ρ=>((ao (fun ρ=>aj ρ 2) (fun _=> .ok [])) ρ).bind gY) (aG 0) (fun _=> .ok true) (aD (bC bW 3) (ao (fun ρ=>aj ρ 4) (ao (bin (bin (bin (fun ρ=>aj ρ 1) (fun _=> .ok (.int 1)) fQ) (bin (fun ρ=>aj ρ 2) (fun ρ=>aj ρ 5) gR) fQ) (fun ρ=>aj ρ 0) fQ) (ao (fun ρ=>aj ρ 3) (fun _=> .ok [])))))) (fun _=> .ok []))))) (retS (aD mq (ao (fun ρ=>aj ρ 5) (fun _=> .ok []))))))
noncomputable def iM:List D→R D:=cO 3 pQ
noncomputable def uW:aq→So:=(retS (aD (bC iM 4) (ao (fun ρ=>aj ρ 0) (ao (bin (fun ρ=>aj ρ 1) (fun _=> .ok (.int 2)) fQ) (ao (bin (fun _=> .ok (.int 1)) (aD (bC bW 3) (ao (fun ρ=>aj ρ 0) (ao (fun ρ=>aj ρ 1) (ao (fun ρ=>aj ρ 2) (fun _=> .ok []))))) fQ) (ao (bin (fun _=> .ok (.int 1)) (aD (bC bW 3) (ao (fun ρ=>aj ρ 0) (ao (bin (fun ρ=>aj ρ 1) (fun _=> .ok (.int 1)) fQ) (ao (fun ρ=>aj ρ 3) (fun _=> .ok []))))) fQ) (fun _=> .ok [])))))))
noncomputable def mR:List D→R D:=cO 0 uW
noncomputable def aa1:aq→So:=(uR 4 (aD maxD (ao (fun _=> .ok (.int 0)) (ao (aD minD (ao (bin (fun ρ=>aj ρ 2) (fun _=> .ok (.int 1)) dZ) (ao (bin (bin (Ug 4 (zV (fun _=> .ok (.int 1)))) (aD (bC bW 3) (ao (fun ρ=>aj ρ 0) (ao (bin (bin (fun ρ=>aj ρ 1) (fun _=> .ok (.int 1)) cT) (fun ρ=>aj ρ 5) cT) (ao (fun _=> .ok (.int 3)) (fun _=> .ok []))))) cT) (fun _=> .ok (.int 1)) dZ) (fun _=> .ok [])))) (fun _=> .ok [])))))
noncomputable def yd:aq→So:=(aZ (newL (ao (aD (bC bW 3) (ao (fun ρ=>aj ρ 0) (ao (fun ρ=>aj ρ 1) (ao (fun ρ=>aj ρ 2) (fun _=> .ok []))))) (fun _=> .ok [])) 4) (aZ (oE (fun ρ=>((ao (bin (fun ρ=>aj ρ 3) (fun _=> .ok (.int 1)) dZ) (fun _=> .ok [])) ρ).bind gY) (aG 5) aa1) (retS (aD mq (ao (fun ρ=>aj ρ 4) (fun _=> .ok []))))))
noncomputable def oK:List D→R D:=cO 2 yd
noncomputable def yg:aq→So:=(retS (zJ (Gx Cy (fun ρ=>aj ρ 0)) (Jo (Gx xP (fun ρ=>aj ρ 0)))))
noncomputable def eN:List D→R D:=cO 0 yg
noncomputable def Eo:aq→So:=(aZ (gM (uo (m8 (bL (Gx nQ (fun ρ=>aj ρ 0)))) (bL (bin (aD cB (ao (fun ρ=>aj ρ 0) (fun _=> .ok []))) (fun ρ=>aj ρ 2) fX))) (retS (fun _=> .ok (.bl false))) So.nx) (aZ (gM (m8 (bL (aD xO (ao (bB 1 [1] (d7 (fun ρ=>aj ρ 0)) (aG 0) (fun _=> .ok true) (zJ (aD (bC eN 1) (ao (fun ρ=>aj ρ 0) (fun _=> .ok []))) (Gs (fun _=> .ok (.int 0)) (fun ρ=>aj ρ 0) (fun ρ=>aj ρ 1) Dl ltI))) (fun _=> .ok []))))) (retS (fun _=> .ok (.bl false))) So.nx) (retS (aD xO (ao (bB 1 [0] (fun ρ=>((ao (fun _=> .ok (.int 1)) (ao (fun ρ=>aj ρ 2) (fun _=> .ok []))) ρ).bind Jq) (aG 0) (fun _=> .ok true) (bin (aD zR (ao (bin (bin (fun ρ=>aj ρ 1) (fun ρ=>aj ρ 0) bQ) (bin (fun ρ=>aj ρ 1) (bin (fun ρ=>aj ρ 0) (fun _=> .ok (.int 1)) dZ) bQ) dZ) (fun _=> .ok []))) (fun _=> .ok (.int 1)) Dl)) (fun _=> .ok []))))))
noncomputable def pR:List D→R D:=cO 0 Eo
noncomputable def Ae:aq→So:=(retS (zJ (Gx nQ (fun ρ=>aj ρ 0)) (Gs (fun _=> .ok (.int 1)) (aD cB (ao (fun ρ=>aj ρ 0) (fun _=> .ok []))) (fun _=> .ok (.int 20)) Dl Dl)))
noncomputable def iJ:List D→R D:=cO 0 Ae
noncomputable def Af:aq→So:=(retS (zJ (aD (bC eN 1) (ao (fun ρ=>aj ρ 0) (fun _=> .ok []))) (Gs (fun _=> .ok (.int 0)) (fun ρ=>aj ρ 0) (fun _=> .ok (.int 99)) Dl Dl)))
noncomputable def nY:List D→R D:=cO 0 Af
noncomputable def Ep:aq→So:=(retS (zJ (aD (bC iJ 1) (ao (fun ρ=>aj ρ 0) (fun _=> .ok []))) (aD xO (ao (bB 1 [] (d7 (fun ρ=>aj ρ 0)) (aG 0) (fun _=> .ok true) (aD (bC nY 1) (ao (fun ρ=>aj ρ 0) (fun _=> .ok [])))) (fun _=> .ok [])))))
noncomputable def pU:List D→R D:=cO 0 Ep
noncomputable def sW:aq→So:=(aZ (gM (uo (m8 (bL (aD (bC iJ 1) (ao (fun ρ=>aj ρ 0) (fun _=> .ok []))))) (m8 (bL (aD xO (ao (bB 1 [] (d7 (fun ρ=>aj ρ 0)) (aG 0) (fun _=> .ok true) (aD (bC pU 1) (ao (fun ρ=>aj ρ 0) (fun _=> .ok [])))) (fun _=> .ok [])))))) (retS (fun _=> .ok (.bl false))) So.nx) (retS (aD xO (ao (bB 1 [0] (d7 (fun ρ=>aj ρ 0)) (aG 0) (fun _=> .ok true) (bin (aD cB (ao (fun ρ=>aj ρ 0) (fun _=> .ok []))) (aD cB (ao (bin (fun ρ=>aj ρ 1) (fun _=> .ok (.int 0)) bQ) (fun _=> .ok []))) wC)) (fun _=> .ok [])))))
noncomputable def jG:List D→R D:=cO 0 sW
noncomputable def pW:aq→So:=(gM (m8 (bL (aD (bC jG 1) (ao (fun ρ=>aj ρ 0) (fun _=> .ok []))))) (fun _=> .bad) So.nx)
noncomputable def dU:List D→R D:=cO 0 pW
noncomputable def Ag:aq→So:=(aZ (uz (aD (bC dU 1) (ao (fun ρ=>aj ρ 0) (fun _=> .ok [])))) (retS (m9 (ao (aD cB (ao (bin (fun ρ=>aj ρ 0) (fun _=> .ok (.int 0)) bQ) (fun _=> .ok []))) (ao (aD cB (ao (fun ρ=>aj ρ 0) (fun _=> .ok []))) (fun _=> .ok []))))))
noncomputable def d9:List D→R D:=cO 0 Ag
noncomputable def Ah:aq→So:=(aZ (bJ (aD (bC d9 1) (ao (fun ρ=>aj ρ 1) (fun _=> .ok []))) (dG (dI 2 (bA (aG 2) (bA (aG 3) nilG))))) (retS (aD (bC pR 3) (ao (fun ρ=>aj ρ 0) (ao (fun ρ=>aj ρ 2) (ao (fun ρ=>aj ρ 3) (fun _=> .ok [])))))))
noncomputable def lJ:List D→R D:=cO 2 Ah
noncomputable def Ni:aq→So:=(retS (aD Vq (ao (aD maxD (ao (bin (fun ρ=>aj ρ 0) (fun _=> .ok (.int 1)) dZ) (ao (fun _=> .ok (.int 0)) (fun _=> .ok [])))) (ao (aD minD (ao (bin (fun ρ=>aj ρ 0) (fun _=> .ok (.int 2)) cT) (ao (fun ρ=>aj ρ 1) (fun _=> .ok [])))) (fun _=> .ok [])))))
noncomputable def wL:List D→R D:=cO 0 Ni
noncomputable def uX:aq→So:=(retS (bin (fun _=> .ok (.int 2)) (bin (bin (bin (fun ρ=>aj ρ 1) (fun ρ=>aj ρ 2) xV) (fun ρ=>aj ρ 0) cT) (fun _=> .ok (.int 1)) cT) xV))
noncomputable def cX:List D→R D:=cO 0 uX
noncomputable def adI:aq→So:=(aZ (bJ (aD (bC cX 3) (ao (fun ρ=>aj ρ 6) (ao (fun ρ=>aj ρ 4) (ao (fun ρ=>aj ρ 2) (fun _=> .ok []))))) (aG 8)) (aZ (gM (m8 (bL (bin (bin (fun ρ=>aj ρ 1) (fun ρ=>aj ρ 4) bQ) (fun ρ=>aj ρ 6) bQ))) (uR 3 (m9 (ao (fun ρ=>aj ρ 8) (ao (bin (fun ρ=>aj ρ 8) (fun _=> .ok (.int 1)) cT) (ao (fun ρ=>aj ρ 7) (fun _=> .ok [])))))) So.nx) (gM (bL (bin (bin (fun ρ=>aj ρ 4) (fun _=> .ok (.int 1)) cT) (aD cB (ao (fun ρ=>aj ρ 0) (fun _=> .ok []))) ltI)) (Jz 3 (bB 1 [8,2,4] (d7 (aD (bC wL 2) (ao (fun ρ=>aj ρ 6) (ao (fun ρ=>aj ρ 2) (fun _=> .ok []))))) (aG 0) (fun _=> .ok true) (m9 (ao (bin (fun ρ=>aj ρ 1) (fun _=> .ok (.int 1)) cT) (ao (aD (bC cX 3) (ao (fun ρ=>aj ρ 0) (ao (bin (fun ρ=>aj ρ 3) (fun _=> .ok (.int 1)) cT) (ao (fun ρ=>aj ρ 2) (fun _=> .ok []))))) (ao (fun _=> .ok (.int 0)) (fun _=> .ok []))))))) (uR 3 (m9 (ao (bin (fun ρ=>aj ρ 8) (fun _=> .ok (.int 1)) cT) (ao (fun _=> .ok (.int 1)) (ao (fun _=> .ok (.int 0)) (fun _=> .ok [])))))))))
noncomputable def adO:aq→So:=(oE (fun ρ=>((ao (fun ρ=>aj ρ 5) (fun _=> .ok [])) ρ).bind jh) (dG (dI 2 (bA (aG 6) (bA (aG 7) nilG)))) adI)
noncomputable def uY:aq→So:=(aZ (bJ (aD cB (ao (bin (fun ρ=>aj ρ 0) (fun _=> .ok (.int 0)) bQ) (fun _=> .ok []))) (aG 2)) (aZ (xY (bB 1 [2] (fun ρ=>((ao (fun ρ=>aj ρ 2) (fun _=> .ok [])) ρ).bind gY) (aG 0) (fun _=> .ok true) (m9 (ao (fun _=> .ok (.int 0)) (ao (aD (bC cX 3) (ao (fun ρ=>aj ρ 0) (ao (fun _=> .ok (.int 0)) (ao (fun ρ=>aj ρ 1) (fun _=> .ok []))))) (ao (fun _=> .ok (.int 0)) (fun _=> .ok [])))))) 3) (aZ (oE (fun ρ=>((ao (fun ρ=>aj ρ 0) (fun _=> .ok [])) ρ).bind jh) (dG (dI 2 (bA (aG 4) (bA (aG 5) nilG)))) adO) (retS (fun ρ=>aj ρ 3)))))
noncomputable def kJ:List D→R D:=cO 7 uY
noncomputable def auI:aq→So:=(aZ (bJ (aD (bC cX 3) (ao (bin (fun ρ=>aj ρ 3) (fun ρ=>aj ρ 5) bQ) (ao (fun ρ=>aj ρ 5) (ao (aD cB (ao (bin (fun ρ=>aj ρ 0) (fun _=> .ok (.int 0)) bQ) (fun _=> .ok []))) (fun _=> .ok []))))) (aG 6)) (aZ (Jz 2 (kO (ao (m9 (ao (fun ρ=>aj ρ 4) (ao (bin (fun ρ=>aj ρ 6) (fun _=> .ok (.int 1)) cT) (ao (fun _=> .ok (.int 0)) (fun _=> .ok []))))) (ao (m9 (ao (bin (fun ρ=>aj ρ 6) (fun _=> .ok (.int 1)) cT) (ao (fun ρ=>aj ρ 6) (ao (zV (bin (bin (fun ρ=>aj ρ 0) (fun ρ=>aj ρ 5) bQ) (bin (fun ρ=>aj ρ 3) (fun ρ=>aj ρ 5) bQ) bQ)) (fun _=> .ok []))))) (fun _=> .ok []))))) (bJ (fun ρ=>aj ρ 6) (aG 4))))
noncomputable def auO:aq→So:=(aZ (bJ (fun _=> .ok (.int 1)) (aG 4)) (oE (fun ρ=>((ao (aD cB (ao (fun ρ=>aj ρ 3) (fun _=> .ok []))) (fun _=> .ok [])) ρ).bind MP) (aG 5) auI))
noncomputable def Ai:aq→So:=(aZ (newL (fun _=> .ok []) 2) (aZ (oE (d7 (fun ρ=>aj ρ 1)) (aG 3) auO) (retS (fun ρ=>aj ρ 2))))
noncomputable def nZ:List D→R D:=cO 5 Ai
noncomputable def caI:aq→So:=(M9 (bL (bin (bin (fun ρ=>aj ρ 4) (fun _=> .ok (.int 2)) eX) (bin (fun ρ=>aj ρ 3) (fun _=> .ok (.int 2)) eX) wC)) (aZ (xZ (bin (bin (fun ρ=>aj ρ 3) (fun _=> .ok (.int 2)) eX) (fun _=> .ok (.int 1)) dZ) 5) (aZ (M8 6 7 (bin (fun ρ=>aj ρ 5) (fun ρ=>aj ρ 2) eX) (bin (fun ρ=>aj ρ 5) (fun ρ=>aj ρ 2) fV)) (G6 6 7 (Jo (bin (bin (fun ρ=>aj ρ 0) (fun ρ=>aj ρ 6) bQ) (fun ρ=>aj ρ 7) bQ))))) So.nx)
noncomputable def YD:aq→So:=(aZ (xZ (bin (fun ρ=>aj ρ 1) (fun ρ=>aj ρ 3) bQ) 4) (aZ caI (xZ (fun ρ=>aj ρ 4) 3)))
noncomputable def dW:aq→So:=(aZ (xZ (aD cB (ao (bin (fun ρ=>aj ρ 0) (fun _=> .ok (.int 0)) bQ) (fun _=> .ok []))) 2) (aZ (xZ (fun _=> .ok (.int 1)) 3) (Ds (bL (bin (fun ρ=>aj ρ 3) (fun _=> .ok (.int 0)) fX)) YD 1000)))
noncomputable def oM:aq→So:=(aZ (bJ (bB 1 [] (d7 (fun ρ=>aj ρ 0)) (aG 0) (fun _=> .ok true) (bB 2 [] (fun ρ=>((ao (fun ρ=>aj ρ 0) (fun _=> .ok [])) ρ).bind jh) (dG (dI 2 (bA (aG 0) (bA (aG 1) nilG)))) (bL (fun ρ=>aj ρ 1)) (fun ρ=>aj ρ 0))) (aG 2)) (retS (bB 1 [2] (fun ρ=>((ao (fun ρ=>aj ρ 1) (fun _=> .ok [])) ρ).bind gY) (aG 0) (fun _=> .ok true) (aD mq (ao (bB 1 [0] (d7 (fun ρ=>aj ρ 1)) (aG 0) (fun _=> .ok true) (bin (fun ρ=>aj ρ 0) (fun ρ=>aj ρ 1) bQ)) (fun _=> .ok []))))))
noncomputable def gQ:List D→R D:=cO 1 oM
noncomputable def seB:aq→So:=(gM (bL (bin (bin (bin (fun ρ=>aj ρ 2) (fun ρ=>aj ρ 5) bQ) (fun ρ=>aj ρ 7) cT) (bin (fun ρ=>aj ρ 2) (fun ρ=>aj ρ 6) bQ) ltI)) (aZ (JD 2 (fun ρ=>aj ρ 6) (bin (Ug 2 (fun ρ=>aj ρ 5)) (fun ρ=>aj ρ 7) cT)) (aZ (JD 3 (fun ρ=>aj ρ 6) (fun ρ=>aj ρ 5)) (bJ (fun _=> .ok (.bl true)) (aG 4)))) So.nx)
noncomputable def Kp:aq→So:=(aZ (bJ (fun _=> .ok (.bl false)) (aG 4)) (oE (d7 (fun ρ=>aj ρ 0)) (dG (dI 3 (bA (aG 5) (bA (aG 6) (bA (aG 7) nilG))))) seB))
noncomputable def yh:aq→So:=(aZ (xY (bin (kO (ao (fun _=> .ok (.int 0)) (fun _=> .ok []))) (bin (kO (ao (fun _=> .ok (.int 1000000)) (fun _=> .ok []))) (bin (fun ρ=>aj ρ 1) (fun _=> .ok (.int 1)) dZ) mulL) aaT) 2) (aZ (xY (bin (kO (ao (fun _=> .ok (.int 0)) (fun _=> .ok []))) (fun ρ=>aj ρ 1) aaU) 3) (aZ (bJ (fun _=> .ok (.bl true)) (aG 4)) (aZ (gO (bL (fun ρ=>aj ρ 4)) Kp 1000000000) (retS (m9 (ao (fun ρ=>aj ρ 2) (ao (fun ρ=>aj ρ 3) (fun _=> .ok [])))))))))
noncomputable def lW:List D→R D:=cO 6 yh
noncomputable def Vt:aq→So:=(aZ (bJ (bB 1 [0] (fun ρ=>((ao (fun ρ=>aj ρ 2) (fun _=> .ok [])) ρ).bind gY) (aG 0) (fun _=> .ok true) (bB 1 [0] (d7 (fun ρ=>aj ρ 1)) (aG 0) (fun _=> .ok true) (bin (fun ρ=>aj ρ 0) (fun ρ=>aj ρ 1) bQ))) (aG 3)) (retS (bB 1 [1] (d7 (fun ρ=>aj ρ 3)) (aG 0) (fun _=> .ok true) (bB 1 [0] (fun ρ=>((ao (fun ρ=>aj ρ 1) (fun _=> .ok [])) ρ).bind gY) (aG 0) (fun _=> .ok true) (bin (fun ρ=>aj ρ 0) (fun ρ=>aj ρ 1) (Ub false))))))
noncomputable def lX:List D→R D:=cO 1 Vt
noncomputable def flB:aq→So:=(G8 6 7 5 8 4 (ao (fun ρ=>aj ρ 4) (ao (fun ρ=>aj ρ 2) (ao (fun ρ=>aj ρ 3) (fun _=> .ok [])))) 3 lX (bin (aD (bC kJ 2) (ao (fun ρ=>aj ρ 0) (ao (fun ρ=>aj ρ 6) (fun _=> .ok [])))) (aD (bC nZ 2) (ao (fun ρ=>aj ρ 0) (ao (fun ρ=>aj ρ 4) (fun _=> .ok [])))) cT) (aD (bC lW 2) (ao (fun ρ=>aj ρ 7) (ao (bin (fun _=> .ok (.int 2)) (bin (bin (fun ρ=>aj ρ 2) (fun ρ=>aj ρ 3) xV) (fun _=> .ok (.int 1)) cT) xV) (fun _=> .ok [])))) dW 6 (aD (bC gQ 2) (ao (fun ρ=>aj ρ 6) (ao (bin (aD cB (ao (fun ρ=>aj ρ 4) (fun _=> .ok []))) (fun _=> .ok (.int 1)) cT) (fun _=> .ok [])))))
noncomputable def Nj:aq→So:=(aZ (Jt 2 3 (aD cB (ao (bin (fun ρ=>aj ρ 0) (fun _=> .ok (.int 0)) bQ) (fun _=> .ok []))) (aD cB (ao (fun ρ=>aj ρ 0) (fun _=> .ok [])))) (aZ (bJ (kO (fun _=> .ok [])) (aG 4)) (aZ (bJ (kO (fun _=> .ok [])) (aG 5)) (aZ (gO (bL (bin (aD cB (ao (fun ρ=>aj ρ 4) (fun _=> .ok []))) (fun ρ=>aj ρ 1) ltI)) flB 64) (retS (m9 (ao (fun ρ=>aj ρ 4) (ao (fun ρ=>aj ρ 5) (fun _=> .ok [])))))))))
noncomputable def lK:List D→R D:=cO 7 Nj
noncomputable def uZ:aq→So:=(aZ (uz (aD (bC dU 1) (ao (fun ρ=>aj ρ 0) (fun _=> .ok [])))) (gM (uo (m8 (bL (aD (bC eN 1) (ao (fun ρ=>aj ρ 1) (fun _=> .ok []))))) (m8 (bL (Gs (fun _=> .ok (.int 1)) (fun ρ=>aj ρ 1) (fun _=> .ok (.int 6)) Dl Dl)))) (fun _=> .bad) So.nx))
noncomputable def f9:List D→R D:=cO 0 uZ
noncomputable def yj:aq→So:=(retS (aD maxD (ao (bin (bin (bin (fun ρ=>aj ρ 1) (bin (fun ρ=>aj ρ 2) (fun _=> .ok (.int 1)) cT) bQ) (bin (fun ρ=>aj ρ 1) (fun ρ=>aj ρ 2) bQ) dZ) (fun ρ=>aj ρ 0) dZ) (ao (fun _=> .ok (.int 0)) (fun _=> .ok [])))))
noncomputable def lY:List D→R D:=cO 0 yj
noncomputable def Nk:aq→So:=(aZ (bJ (bin (aD cB (ao (fun ρ=>aj ρ 0) (fun _=> .ok []))) (fun _=> .ok (.int 1)) dZ) (aG 1)) (retS (bB 1 [1,0] (fun ρ=>((ao (aD cB (ao (fun ρ=>aj ρ 0) (fun _=> .ok []))) (fun _=> .ok [])) ρ).bind gY) (aG 0) (fun _=> .ok true) (aD zR (ao (bin (bin (fun ρ=>aj ρ 2) (aD maxD (ao (bin (fun ρ=>aj ρ 0) (fun _=> .ok (.int 1)) dZ) (ao (fun _=> .ok (.int 0)) (fun _=> .ok [])))) bQ) (bin (fun ρ=>aj ρ 2) (aD minD (ao (bin (fun ρ=>aj ρ 0) (fun _=> .ok (.int 1)) cT) (ao (fun ρ=>aj ρ 1) (fun _=> .ok [])))) bQ) dZ) (fun _=> .ok []))))))
noncomputable def sX:List D→R D:=cO 1 Nk
noncomputable def Er:aq→So:=(aZ (bJ (aD (bC d9 1) (ao (fun ρ=>aj ρ 0) (fun _=> .ok []))) (dG (dI 2 (bA (aG 1) (bA (aG 2) nilG))))) (retS (aD mq (ao (bB 1 [2,0] (fun ρ=>((ao (fun ρ=>aj ρ 1) (fun _=> .ok [])) ρ).bind gY) (aG 0) (fun _=> .ok true) (aD mq (ao (bB 1 [2,0] (fun ρ=>((ao (fun ρ=>aj ρ 1) (fun _=> .ok [])) ρ).bind gY) (aG 0) (fun _=> .ok true) (bin (bin (fun ρ=>aj ρ 1) (fun ρ=>aj ρ 0) bQ) (fun ρ=>aj ρ 2) bQ)) (fun _=> .ok [])))) (fun _=> .ok [])))))
noncomputable def pX:List D→R D:=cO 2 Er
noncomputable def Es:aq→So:=(aZ (bJ (aD (bC d9 1) (ao (fun ρ=>aj ρ 0) (fun _=> .ok []))) (dG (dI 2 (bA (aG 1) (bA (aG 2) nilG))))) (aZ (bJ (bB 1 [] (d7 (fun ρ=>aj ρ 0)) (aG 0) (fun _=> .ok true) (aD (bC sX 1) (ao (fun ρ=>aj ρ 0) (fun _=> .ok [])))) (aG 3)) (aZ (bJ (bB 1 [] (d7 (aD (bC pX 1) (ao (fun ρ=>aj ρ 0) (fun _=> .ok [])))) (aG 0) (fun _=> .ok true) (aD (bC sX 1) (ao (fun ρ=>aj ρ 0) (fun _=> .ok [])))) (aG 4)) (retS (aD mq (ao (bB 1 [3,4,1] (fun ρ=>((ao (fun ρ=>aj ρ 2) (fun _=> .ok [])) ρ).bind gY) (aG 0) (fun _=> .ok true) (aD mq (ao (bB 1 [1,2,0] (fun ρ=>((ao (fun ρ=>aj ρ 3) (fun _=> .ok [])) ρ).bind gY) (aG 0) (fun _=> .ok true) (bin (bin (bin (fun ρ=>aj ρ 1) (fun ρ=>aj ρ 3) bQ) (fun ρ=>aj ρ 0) bQ) (bin (bin (fun ρ=>aj ρ 2) (fun ρ=>aj ρ 0) bQ) (fun ρ=>aj ρ 3) bQ) cT)) (fun _=> .ok [])))) (fun _=> .ok [])))))))
noncomputable def iW:List D→R D:=cO 4 Es
noncomputable def Et:aq→So:=(aZ (uz (aD (bC f9 2) (ao (fun ρ=>aj ρ 0) (ao (fun ρ=>aj ρ 1) (fun _=> .ok []))))) (aZ (bJ (aD cB (ao (bin (fun ρ=>aj ρ 0) (fun _=> .ok (.int 0)) bQ) (fun _=> .ok []))) (aG 2)) (aZ (gM (bL (bin (fun ρ=>aj ρ 1) (fun ρ=>aj ρ 2) nP)) (retS (fun _=> .ok .non)) So.nx) (aZ (bJ (aD (bC iW 1) (ao (fun ρ=>aj ρ 0) (fun _=> .ok []))) (aG 3)) (aZ (bJ (aD (bC lK 2) (ao (fun ρ=>aj ρ 3) (ao (fun ρ=>aj ρ 1) (fun _=> .ok [])))) (dG (dI 2 (bA (aG 4) (bA (aG 5) nilG))))) (aZ (bJ (bB 2 [5,2] (fun ρ=>((ao (fun ρ=>aj ρ 3) (fun _=> .ok [])) ρ).bind jh) (dG (dI 2 (bA (aG 0) (bA (aG 1) nilG)))) (fun _=> .ok true) (aD mq (ao (bB 2 [2,3,0] (fun ρ=>((ao (fun ρ=>aj ρ 1) (fun _=> .ok [])) ρ).bind jh) (dG (dI 2 (bA (aG 0) (bA (aG 1) nilG)))) (fun _=> .ok true) (aD (bC lY 3) (ao (fun ρ=>aj ρ 1) (ao (fun ρ=>aj ρ 2) (ao (aD (bC cX 3) (ao (fun ρ=>aj ρ 0) (ao (fun ρ=>aj ρ 4) (ao (fun ρ=>aj ρ 3) (fun _=> .ok []))))) (fun _=> .ok [])))))) (fun _=> .ok [])))) (aG 6)) (retS (m9 (ao (aD mq (ao (fun ρ=>aj ρ 6) (fun _=> .ok []))) (ao (bin (fun ρ=>aj ρ 5) (fun _=> .ok (.int 1)) bQ) (fun _=> .ok [])))))))))))
noncomputable def pY:List D→R D:=cO 5 Et
noncomputable def yp:aq→So:=(aZ (uz (aD (bC f9 2) (ao (fun ρ=>aj ρ 0) (ao (fun ρ=>aj ρ 1) (fun _=> .ok []))))) (aZ (gM (bL (bin (fun ρ=>aj ρ 1) (aD cB (ao (bin (fun ρ=>aj ρ 0) (fun _=> .ok (.int 0)) bQ) (fun _=> .ok []))) nP)) (retS (fun _=> .ok .non)) So.nx) (retS (bin (aD (bC lK 2) (ao (aD (bC iW 1) (ao (fun ρ=>aj ρ 0) (fun _=> .ok []))) (ao (fun ρ=>aj ρ 1) (fun _=> .ok [])))) (fun _=> .ok (.int 0)) bQ))))
noncomputable def lZ:List D→R D:=cO 0 yp
noncomputable def lwI:aq→So:=(gM (bL (bin (bB 2 [] (fun ρ=>((ao (fun ρ=>aj ρ 9) (ao (fun ρ=>aj ρ 10) (fun _=> .ok []))) ρ).bind zip2) (dG (dI 2 (bA (aG 0) (bA (aG 1) nilG)))) (bL (bin (fun ρ=>aj ρ 0) (fun ρ=>aj ρ 1) LC)) (fun _=> .ok (.int 1))) (kO (fun _=> .ok [])) fX)) (retS (fun _=> .ok (.bl false))) So.nx)
noncomputable def lwK:aq→So:=(aZ (bJ (aD (bC oK 4) (ao (fun ρ=>aj ρ 0) (ao (bin (fun _=> .ok (.int 70)) (bin (fun _=> .ok (.int 9)) (fun ρ=>aj ρ 14) xV) cT) (ao (fun ρ=>aj ρ 2) (ao (fun ρ=>aj ρ 3) (fun _=> .ok [])))))) (aG 15)) (gM (bL (bin (aD ni (ao (bB 2 [12] (fun ρ=>((ao (fun ρ=>aj ρ 15) (fun _=> .ok [])) ρ).bind jh) (dG (dI 2 (bA (aG 0) (bA (aG 1) nilG)))) (fun _=> .ok true) (bin (bin (fun ρ=>aj ρ 2) (fun ρ=>aj ρ 0) bQ) (fun ρ=>aj ρ 1) bQ)) (fun _=> .ok []))) (fun ρ=>aj ρ 8) ltI)) (retS (fun _=> .ok (.bl false))) So.nx))
noncomputable def lwT:aq→So:=(aZ (bJ (fun ρ=>aj ρ 6) (dG (dI 2 (bA (aG 7) (bA (aG 8) nilG))))) (aZ (gM (uo (bL (bin (aD cB (ao (fun ρ=>aj ρ 5) (fun _=> .ok []))) (fun ρ=>aj ρ 4) fX)) (bL (bin (bB 1 [1] (d7 (fun ρ=>aj ρ 5)) (aG 0) (m8 (bL (aD (bC lJ 2) (ao (fun ρ=>aj ρ 0) (ao (fun ρ=>aj ρ 1) (fun _=> .ok [])))))) (fun ρ=>aj ρ 0)) (kO (fun _=> .ok [])) fX))) (retS (fun _=> .ok (.bl false))) So.nx) (aZ (oE (fun ρ=>((ao (fun ρ=>aj ρ 5) (ao (wH (fun ρ=>aj ρ 5) (fun ρ=>(((fun _=> .ok (.int 1)):aq→R D) ρ).bind Ka) (fun _=> .ok none)) (fun _=> .ok []))) ρ).bind zip2) (dG (dI 2 (bA (aG 9) (bA (aG 10) nilG)))) lwI) (aZ (gM (uo (bL (bin (aD cB (ao (fun ρ=>aj ρ 7) (fun _=> .ok []))) (fun ρ=>aj ρ 3) fX)) (bL (bin (bB 1 [2] (d7 (fun ρ=>aj ρ 7)) (aG 0) (uo (bL (bin (aD cB (ao (fun ρ=>aj ρ 0) (fun _=> .ok []))) (fun ρ=>aj ρ 1) fX)) (bL (bin (aD (lR ltB) (ao (fun ρ=>aj ρ 0) (fun _=> .ok []))) (fun _=> .ok (.int 0)) ltI))) (fun ρ=>aj ρ 0)) (kO (fun _=> .ok [])) fX))) (retS (fun _=> .ok (.bl false))) So.nx) (aZ (bJ (aD (bC iW 1) (ao (fun ρ=>aj ρ 1) (fun _=> .ok []))) (aG 11)) (aZ (bJ (bB 2 [] (fun ρ=>((ao (fun ρ=>aj ρ 11) (ao (fun ρ=>aj ρ 7) (fun _=> .ok []))) ρ).bind zip2) (dG (dI 2 (bA (aG 0) (bA (aG 1) nilG)))) (fun _=> .ok true) (aD mq (ao (bB 2 [] (fun ρ=>((ao (fun ρ=>aj ρ 0) (ao (fun ρ=>aj ρ 1) (fun _=> .ok []))) ρ).bind zip2) (dG (dI 2 (bA (aG 0) (bA (aG 1) nilG)))) (fun _=> .ok true) (bin (fun ρ=>aj ρ 0) (fun ρ=>aj ρ 1) cT)) (fun _=> .ok [])))) (aG 12)) (aZ (gM (bL (bin (aD (bC iV 1) (ao (fun ρ=>aj ρ 12) (fun _=> .ok []))) (fun ρ=>aj ρ 8) ltI)) (retS (fun _=> .ok (.bl false))) So.nx) (aZ (bJ (aD ni (ao (bB 1 [1] (d7 (fun ρ=>aj ρ 5)) (aG 0) (fun _=> .ok true) (aD (bC mQ 3) (ao (fun ρ=>aj ρ 1) (ao (fun _=> .ok (.str "worth")) (ao (fun ρ=>aj ρ 0) (fun _=> .ok [])))))) (fun _=> .ok []))) (aG 13)) (aZ (gM (bL (bin (bin (bin (fun ρ=>aj ρ 4) (fun ρ=>aj ρ 8) xV) (aD ni (ao (bB 1 [] (d7 (fun ρ=>aj ρ 7)) (aG 0) (fun _=> .ok true) (aD ni (ao (fun ρ=>aj ρ 0) (fun _=> .ok [])))) (fun _=> .ok []))) dZ) (fun ρ=>aj ρ 13) fX)) (retS (fun _=> .ok (.bl false))) So.nx) (aZ (oE (fun ρ=>((ao (fun _=> .ok (.int 3)) (fun _=> .ok [])) ρ).bind gY) (aG 14) lwK) (retS (bin (bB 1 [8,12] (d7 (fun ρ=>aj ρ 5)) (aG 0) (bL (bin (aD ni (ao (bB 2 [2] (fun ρ=>((ao (fun ρ=>aj ρ 0) (fun _=> .ok [])) ρ).bind jh) (dG (dI 2 (bA (aG 0) (bA (aG 1) nilG)))) (fun _=> .ok true) (bin (bin (fun ρ=>aj ρ 2) (fun ρ=>aj ρ 0) bQ) (fun ρ=>aj ρ 1) bQ)) (fun _=> .ok []))) (fun ρ=>aj ρ 1) ltI)) (fun ρ=>aj ρ 0)) (kO (fun _=> .ok [])) wC))))))))))))
noncomputable def abG:aq→So:=(aZ (bJ (aD (bC mR 4) (ao (fun ρ=>aj ρ 0) (ao (fun _=> .ok (.int 0)) (ao (fun _=> .ok (.int 6)) (ao (fun _=> .ok (.int 5)) (fun _=> .ok [])))))) (aG 1)) (aZ (bJ (aD (bC d9 1) (ao (fun ρ=>aj ρ 1) (fun _=> .ok []))) (dG (dI 2 (bA (aG 2) (bA (aG 3) nilG))))) (aZ (bJ (bin (fun _=> .ok (.int 1)) (aD (bC bW 3) (ao (fun ρ=>aj ρ 0) (ao (fun _=> .ok (.int 60)) (ao (fun _=> .ok (.int 5)) (fun _=> .ok []))))) cT) (aG 4)) (aZ (Jt 5 6 (aD (bC lZ 2) (ao (fun ρ=>aj ρ 1) (ao (fun ρ=>aj ρ 4) (fun _=> .ok [])))) (aD (bC pY 2) (ao (fun ρ=>aj ρ 1) (ao (fun ρ=>aj ρ 4) (fun _=> .ok []))))) (aZ (gM (uo (bL (bin (bin (fun ρ=>aj ρ 5) (fun _=> .ok .non) isD) (bin (fun ρ=>aj ρ 4) (fun ρ=>aj ρ 2) nP) fX)) (bL (bin (bin (fun ρ=>aj ρ 6) (fun _=> .ok .non) isD) (bin (fun ρ=>aj ρ 4) (fun ρ=>aj ρ 2) nP) fX))) (retS (fun _=> .ok (.bl false))) So.nx) (aZ (gM (bL (bin (fun ρ=>aj ρ 5) (fun _=> .ok .non) isD)) (retS (fun _=> .ok (.bl true))) So.nx) lwT))))))
noncomputable def Lw:List D→R D:=cO 15 abG
end iU
namespace iU
open PySem PySem.Spec L2 Pu
noncomputable def row (w:Nat) (f:Nat→Int):D:= .tup ((List.range w).map fun x=> .int (f x))
noncomputable def bY (w h:Nat) (f:Nat→Nat→Int):D:= .tup ((List.range h).map fun y=>row w (f y))
structure Ok (w h:Nat) (f:Nat→Nat→Int):Prop where
  w1:1≤w
  w2:w≤20
  h1:1≤h
  h2:h≤20
  c:∀y < h,∀x < w,0≤f y x∧f y x≤99
theorem uG {i j:Int} (h:i≤j):Dl (.int i) (.int j)= .ok (.bl true):=by
  show R.ok (D.bl (decide (i≤j)))=_
  rw[decide_eq_true h]
theorem Hg {ds:List D} (h1:1≤ds.length) (h2:ds.length≤20):iJ [.tup ds]= .ok (.bl true):=
  cI (bZ (Gz rfl (GC rfl (aY (aB rfl) rfl) (uG (by omega)) rfl (uG (by omega)))))
theorem u6 {i:Int}:eN [.int i]= .ok (.bl true):=rfl
theorem Vu {i:Int} (h0:0≤i) (h1:i≤99):nY [.int i]= .ok (.bl true):=by
  exact cI (bZ (Gz (bH (aB rfl) u6) (GC rfl rfl (uG h0) rfl (uG h1))))
theorem YF {w:Nat} {f:Nat→Int} (h1:1≤w) (h2:w≤20) (hc:∀x < w,0≤f x∧f x≤99):pU [row w f]= .ok (.bl true):=by
  refine cI (bZ (Gz (bH (aB rfl) (Hg (by simpa using h1) (by simpa using h2))) (aY (aB (cC (c:=fun x=> .int (f x)) (h:=fun _=> .bl true) (l:=List.range w) (nR rfl) (by rw[List.length_range];omega) fun x hx=>?_)) wD)))
  obtain⟨a,b⟩:=hc x (List.mem_range.mp hx)
  exact cN rfl (bH (aB rfl) (Vu a b))
section
variable {w h:Nat} {f:Nat→Nat→Int}
theorem KY (o:Ok w h f):jG [bY w h f]= .ok (.bl true):=by
  have e1:iJ [bY w h f]= .ok (.bl true):=Hg (by simpa using o.h1) (by simpa using o.h2)
  refine cI (aK (cQ (qN (oF (bw (bH (aB rfl) e1))) (oF (bw (aY (aB (cC (c:=fun y=>row w (f y)) (h:=fun _=> .bl true) (l:=List.range h) (nR rfl) (by rw[List.length_range];have:=o.h2;omega) fun y hy=>?_)) wD)))) rfl) (bZ (aY (aB (cC (c:=fun y=>row w (f y)) (h:=fun _=> .bl true) (l:=List.range h) (nR rfl) (by rw[List.length_range];have:=o.h2;omega) fun y hy=>?_)) wD)))
  · exact cN rfl (bH (aB rfl) (YF o.w1 o.w2 (o.c y (List.mem_range.mp hy))))
  · refine cN rfl (au (aY (aB rfl) rfl) (aY (aB (au rfl rfl (qI (i:=0) (d:=row w (f 0)) ?_))) rfl) (Mq ?_ ?_))
    · rw[List.getElem?_map,List.getElem?_range o.h1];rfl
    · simp
    · simp[dep]
theorem Ux (o:Ok w h f):dU [bY w h f]= .ok .non:=abw (cQ (oF (bw (bH (aB rfl) (KY o)))) rfl)
theorem size_eq (o:Ok w h f):d9 [bY w h f]= .ok (.tup [.int w,.int h]):=by
  refine cI (aK (rO (bH (aB rfl) (Ux o))) (bZ (lD (aF (aY (aB (au rfl rfl (qI (i:=0) (d:=row w (f 0)) ?_))) ?_) (aB (aY (aB rfl) ?_))))))
  · rw[List.getElem?_map,List.getElem?_range o.h1];rfl
  · simp[row,cB]
  · simp[bY,cB]
theorem YG (o:Ok w h f):pX [bY w h f]= .ok (bY h w fun y x=>f x y):=by
  refine cI (aK (bx (bH (aB rfl) (size_eq o)) rfl) (bZ (aY (aB (cC (c:=fun (x:Nat)=> .int (x:Int)) (h:=fun x=>row h fun y=>f y x) (l:=List.range w) (jF (aB rfl) (by have:=o.w2;omega)) (by rw[List.length_range];have:=o.w2;omega) fun x hx=>?_)) rfl)))
  refine cN rfl (aY (aB (cC (c:=fun (y:Nat)=> .int (y:Int)) (h:=fun y=> .int (f y x)) (l:=List.range h) (jF (aB rfl) (by have:=o.h2;omega)) (by rw[List.length_range];have:=o.h2;omega) fun y hy=>?_)) rfl)
  refine cN rfl (au (au rfl rfl (qI (i:=y) (d:=row w (f y)) ?_)) rfl (qI (i:=x) ?_))
  · rw[List.getElem?_map,List.getElem?_range (List.mem_range.mp hy)];rfl
  · rw[List.getElem?_map,List.getElem?_range (List.mem_range.mp hx)];rfl
theorem YH {α:Type} {n:Nat} {g:Nat→α}:((List.range n).map g).reverse=(List.range n).map fun i=>g (n - 1 - i):=by
  refine List.ext_getElem (by simp) fun i h1 h2=>?_
  simp
end
noncomputable def aa2:aq→So:=(uR 5 (aD mq (ao (bB 1 [1,2,4,0,6] (fun ρ=>((ao (fun ρ=>aj ρ 2) (fun _=> .ok [])) ρ).bind gY) (aG 0) (fun _=> .ok true) (aD (bC bW 3) (ao (fun ρ=>aj ρ 4) (ao (bin (bin (bin (fun ρ=>aj ρ 1) (fun _=> .ok (.int 1)) fQ) (bin (fun ρ=>aj ρ 2) (fun ρ=>aj ρ 5) gR) fQ) (fun ρ=>aj ρ 0) fQ) (ao (fun ρ=>aj ρ 3) (fun _=> .ok [])))))) (fun _=> .ok []))))
section
variable {ns:List Int} {a m:Int} {w h:Nat}
noncomputable def vA (d:D):Option Ent:=some (.val d)
theorem ad2 (hns:ns.length≤1000000) (ha:0≤a) (hm:0 < m) (hw:w≤20) {acc:List D} {y:Nat} {tl:Option Ent} (hl:acc.length < 1000000):
    aa2 [vA (.lst (ns.map .int)),vA (.int a),vA (.int (w:Int)),tl,vA (.int m),some (.lst acc),vA (.int (y:Int))] =
      .nx [vA (.lst (ns.map .int)),vA (.int a),vA (.int (w:Int)),tl,vA (.int m),some (.lst (acc++[row w fun x=>dr ns (a+1+(w:Int)*(y:Int)+(x:Int)) m])),vA (.int (y:Int))]:=by
  have e:aD mq (ao (bB 1 [1,2,4,0,6] (fun ρ=>((ao (fun ρ=>aj ρ 2) (fun _=> .ok [])) ρ).bind gY) (aG 0) (fun _=> .ok true) (aD (bC bW 3) (ao (fun ρ=>aj ρ 4) (ao (bin (bin (bin (fun ρ=>aj ρ 1) (fun _=> .ok (.int 1)) fQ) (bin (fun ρ=>aj ρ 2) (fun ρ=>aj ρ 5) gR) fQ) (fun ρ=>aj ρ 0) fQ) (ao (fun ρ=>aj ρ 3) (fun _=> .ok [])))))) (fun _=> .ok []))
      [vA (.lst (ns.map .int)),vA (.int a),vA (.int (w:Int)),tl,vA (.int m),some (.lst acc),vA (.int (y:Int))]= .ok (row w fun x=>dr ns (a+1+(w:Int)*(y:Int)+(x:Int)) m):=by
    refine aY (aB (cC (c:=fun (x:Nat)=>D.int (x:Int)) (h:=fun (x:Nat)=>D.int (dr ns (a+1+(w:Int)*(y:Int)+(x:Int)) m)) (l:=List.range w) (jF (aB rfl) (by omega)) (by rw[List.length_range];omega) fun x hx=>?_)) rfl
    refine cN rfl (bH (aF rfl (aF (au (au (au rfl rfl rfl) (au rfl rfl (j5 (.inl ⟨by omega,by omega⟩))) rfl) rfl rfl) (aB rfl))) ?_)
    have hp:(0:Int)≤(w:Int)*(y:Int):=Int.mul_nonneg (by omega) (by omega)
    exact (uE hns (by omega) hm).1
  unfold aa2 uR
  rw[e]
  show (if acc.length < 1000000 then So.nx _ else .bad)=_
  rw[if_pos hl];rfl
theorem Nm (hns:ns.length≤1000000) (ha:0≤a) (hm:0 < m) (hw:w≤20) {tl:Option Ent}:∀{ys:List Nat} {acc:List D} {x:Option Ent},acc.length+ys.length≤1000000→
    ∃ x',forL (aG 6) aa2 (ys.map fun (y:Nat)=>D.int (y:Int)) [vA (.lst (ns.map .int)),vA (.int a),vA (.int (w:Int)),tl,vA (.int m),some (.lst acc),x] =
      .nx [vA (.lst (ns.map .int)),vA (.int a),vA (.int (w:Int)),tl,vA (.int m),some (.lst (acc++ys.map fun (y:Nat)=>row w fun x=>dr ns (a+1+(w:Int)*(y:Int)+(x:Int)) m)),x']
  |[],acc,x,_=>⟨x,by rw[List.map_nil,List.map_nil,List.append_nil];rfl⟩
  | y::ys,acc,x,hl=>by
    rw[List.length_cons] at hl
    obtain⟨x',e⟩:=Nm hns ha hm hw (tl:=tl) (ys:=ys) (acc:=acc++[row w fun x=>dr ns (a+1+(w:Int)*(y:Int)+(x:Int)) m]) (x:=vA (.int (y:Int))) (by rw[List.length_append];simp only[List.length_cons,List.length_nil];omega)
    refine⟨x',?_⟩
    rw[List.append_assoc] at e
    rw[List.map_cons,List.map_cons]
    exact gG rfl (ad2 hns ha hm hw (by omega)) e
theorem Vv (hns:ns.length≤1000000) (ha:0≤a) (hw:w≤20) (hw1:1≤w) (hh:h≤20) (hh1:1≤h):∃f,iM [.lst (ns.map .int),.int a,.int (w:Int),.int (h:Int)]= .ok (bY w h f)∧Ok w h f:=by
  obtain⟨e1,h0,h4⟩:=uE (k:=a) (m:=4) hns ha (by omega)
  obtain⟨d,hd,ed⟩:=T6 (xs:=[D.int 2,.int 5,.int 100,.int 10]) h0 h4
  have hm:∃m,d= .int m∧0 < m∧m≤100:=by
    simp only[List.mem_cons,List.not_mem_nil,or_false] at hd
    rcases hd with rfl |rfl |rfl |rfl
    · exact⟨_,rfl,by omega,by omega⟩
    · exact⟨_,rfl,by omega,by omega⟩
    · exact⟨_,rfl,by omega,by omega⟩
    · exact⟨_,rfl,by omega,by omega⟩
  obtain⟨m,rfl,hm0,hm1⟩:=hm
  obtain⟨x',er⟩:=Nm hns ha hm0 hw (tl:=vA (.int (h:Int))) (ys:=List.range h) (acc:=[]) (x:=none) (by rw[List.length_range,List.length_nil];omega)
  refine⟨fun y x=>dr ns (a+1+(w:Int)*(y:Int)+(x:Int)) m,cI (aK (ρ':=[vA (.lst (ns.map .int)),vA (.int a),vA (.int (w:Int)),vA (.int (h:Int)),vA (.int m),some (.lst []),none]) ?_ (aK (mL (jF (m:=h) (aB rfl) (by omega)) er) (bZ (aY (aB (x:= .lst ((List.range h).map fun (y:Nat)=>row w fun x=>dr ns (a+1+(w:Int)*(y:Int)+(x:Int)) m)) rfl) rfl)))),hw1,hw,hh1,hh,fun y hy x hx=>?_⟩
  · exact abV (au (x:= .lst [D.int 2,.int 5,.int 100,.int 10]) (y:= .int (dr ns a 4)) (jf rfl) (bH (aF rfl (aF rfl (aB rfl))) e1) (zQ ed)) rfl
  · have hp:(0:Int)≤(w:Int)*(y:Int):=Int.mul_nonneg (by omega) (by omega)
    have:=(uE (k:=a+1+(w:Int)*(y:Int)+(x:Int)) (m:=m) hns (by omega) hm0).2
    show 0≤dr _ _ _∧dr _ _ _≤99
    omega
theorem acn (hns:ns.length≤1000000):∃w h f,mR [.lst (ns.map .int),.int 0,.int 6,.int 5]= .ok (bY w h f)∧Ok w h f∧w≤6∧h≤5:=by
  obtain⟨e1,h1,h2⟩:=uE (k:=0) (m:=6) hns (by omega) (by omega)
  obtain⟨e2,h3,h4⟩:=uE (k:=0+1) (m:=5) hns (by omega) (by omega)
  obtain⟨w,hw⟩:=Int.eq_ofNat_of_zero_le (show 0≤1+dr ns 0 6 by omega)
  obtain⟨h,hh⟩:=Int.eq_ofNat_of_zero_le (show 0≤1+dr ns (0+1) 5 by omega)
  obtain⟨f,e,o⟩:=Vv (ns:=ns) (a:=0+2) (w:=w) (h:=h) hns (by omega) (by omega) (by omega) (by omega) (by omega)
  refine⟨w,h,f,cI (bZ (bH (aF rfl (aF (au rfl rfl rfl) (aF (au rfl (bH (aF rfl (aF rfl (aB rfl))) e1) (congrArg (fun z=>R.ok (D.int z)) hw)) (aB (au rfl (bH (aF rfl (aF (au rfl rfl rfl) (aB rfl))) e2) (congrArg (fun z=>R.ok (D.int z)) hh)))))) e)),o,by omega,by omega⟩
end
section
variable {w h:Nat} {f g:Nat→Nat→Int}
theorem aa3 {α β:Type} {p q:α→β} {l:List α} (e:∀a∈l,p a=q a):l.map p=l.map q:=List.map_congr_left e
end
structure u9 (w h:Nat) (s:Nat→Nat):Prop where
  lt:∀y < h,s y < w
  st:∀y,y+1 < h→s (y+1)≤s y+1∧s y≤s (y+1)+1
noncomputable abbrev sm (h:Nat) (s:Nat→Nat):D:=row h fun y=>((s y:Nat):Int)
section
variable {ρ:aq} {fa:aq→R (List D)} {α:Type} {l:List α} {p q r:α→D} {x y z:D}
theorem aco {m:Nat} (e:fa ρ= .ok [.int 1,.int (m:Int)]) (h:m < 2 ^ 62):(fun ρ=>(fa ρ).bind Jq) ρ= .ok ((List.range (m - 1)).map fun (i:Nat)=>D.int ((i+1:Nat):Int)):=by
  show (fa ρ).bind Jq=_
  rw[e,R.bK,Jq,if_pos ⟨by omega,by omega,by omega,by omega⟩]
  unfold upto
  rw[show ((m:Int) - 1).toNat=m - 1 by omega]
  refine congrArg R.ok (aa3 fun i _=>?_)
  rw[show (1:Int)+(i:Int)=((i+1:Nat):Int) by omega]
theorem JT (e:fa ρ= .ok [x,y]) (h1:jY x= .ok (l.map p)) (h2:jY y= .ok (l.map q)):(fun ρ=>(fa ρ).bind zip2) ρ= .ok (l.map fun a=> .tup [p a,q a]):=by
  show (fa ρ).bind zip2=_
  rw[e,R.bK,zip2,h1,R.bK,h2,R.bK,xX,List.zip_map',List.map_map];rfl
theorem abH {i j:Int} (h:i < j):ltI (.int i) (.int j)= .ok (.bl true):=by
  show R.ok (D.bl (decide (i < j)))=_
  rw[decide_eq_true h]
theorem pZ {i j:Int} (h:i=j):fX (.int i) (.int j)= .ok (.bl false):=xQ (by rw[h]) (by simp[dep])
theorem acp {i j:Int}:wC (.int i) (.int j)= .ok (.bl (decide (i=j))):=by
  rw[wC,if_pos (by simp[dep])]
  show R.ok (D.bl (gD (.int i) (.int j)))=_
  by_cases h:i=j <;> simp[aM,aN,aO,aP,aQ,aL,aJ,h]
theorem Np {n d k:Nat}:HT.sIx n d (some (k:Int))=min k n:=by
  show (if (k:Int) < 0 then ((k:Int)+(n:Int)).toNat else min (k:Int).toNat n)=min k n
  rw[if_neg (by omega),Int.toNat_natCast]
theorem YJ {n d:Nat}:HT.sIx n d none=d:=rfl
theorem YK {ds:List D} {n:Nat} (h:n≤ds.length):mC ds (some (n:Int)) none=ds.drop n:=by
  rw[mC,Np,YJ,Nat.min_eq_left h,List.take_of_length_le (by rw[List.length_drop];exact Nat.le_refl _)]
theorem aa4 {ds:List D} {n m:Nat} (h:n≤ds.length):mC ds (some (n:Int)) (some (m:Int))=(ds.drop n).take (min m ds.length - n):=by
  rw[mC,Np,Np,Nat.min_eq_left h]
theorem acq {xs ys:List D} (h:xs.length+ys.length≤1000000):cT (.tup xs) (.tup ys)= .ok (.tup (xs++ys)):=by
  rw[cT,if_pos h]
theorem acr {xs ys:List D} (h:xs.length+ys.length≤1000000):cT (.lst xs) (.lst ys)= .ok (.lst (xs++ys)):=by
  rw[cT,if_pos h]
end
section
variable {w h:Nat} {g:Nat→Int} {n:Nat} {c:Int}
end
section
variable {w h:Nat} {f:Nat→Nat→Int} {s:Nat→Nat}
theorem YL (q:u9 w h s) (dj:h≤20):pR [sm h s,.int (w:Int),.int (h:Int)]= .ok (.bl true):=by
  refine cI (aK (cQ (qN (oF (bw (b:=true) rfl)) (bw (au (aY (aB rfl) rfl) rfl (pZ ?_)))) rfl)
    (aK (cQ (oF (bw (aY (aB (cC (c:=fun y=> .int ((s y:Nat):Int)) (h:=fun _=> .bl true) (l:=List.range h) (nR rfl) (by rw[List.length_range];omega) fun y hy=>?_)) wD))) rfl)
    (bZ (aY (aB (cC (c:=fun y=> .int ((y+1:Nat):Int)) (h:=fun _=> .bl true) (l:=List.range (h - 1)) (aco (aF rfl (aB rfl)) (by omega)) (by rw[List.length_range];omega) fun y hy=>?_)) wD))))
  · simp
  · have:=q.lt y (List.mem_range.mp hy)
    exact cN rfl (Gz (bH (aB rfl) u6) (GC rfl rfl (uG (by omega)) rfl (abH (by omega))))
  · have hy:y < h - 1:=List.mem_range.mp hy
    obtain⟨h1,h2⟩:=q.st y (by omega)
    refine cN rfl (au (aY (aB (au (x:= .int ((s (y+1):Nat):Int)) (y:= .int ((s y:Nat):Int)) (au rfl rfl (qI (i:=y+1) ?_)) (au rfl (au (x:= .int ((y+1:Nat):Int)) (y:= .int 1) rfl rfl ?_) (qI (i:=y) ?_)) rfl)) rfl) rfl (uG ?_))
    · rw[List.getElem?_map,List.getElem?_range (by omega)];rfl
    · show R.ok (D.int (((y+1:Nat):Int) - 1))=_
      rw[show ((y+1:Nat):Int) - 1=(y:Int) by omega]
    · rw[List.getElem?_map,List.getElem?_range (by omega)];rfl
    · split <;> omega
theorem Vw (o:Ok w h f) (q:u9 w h s):lJ [sm h s,bY w h f]= .ok (.bl true):=
  cI (aK (bx (bH (aB rfl) (size_eq o)) rfl) (bZ (bH (aF rfl (aF rfl (aB rfl))) (YL q o.h2))))
theorem len0 (o:Ok w h f) {ρ:aq} {u:aq→R D} (e:u ρ= .ok (bY w h f)):aD cB (ao (bin u (fun _=> .ok (.int 0)) bQ) (fun _=> .ok [])) ρ= .ok (.int (w:Int)):=by
  refine aY (aB (au e rfl (qI (i:=0) (d:=row w (f 0)) ?_))) ?_
  · rw[List.getElem?_map,List.getElem?_range o.h1];rfl
  · simp[row,cB]
noncomputable def more (s:Nat→Nat) (c:Nat→Int) (f:Nat→Nat→Int):Nat→Nat→Int:=fun y x=>if x < s y then f y x else if x=s y then c y else f y (x - 1)
end
theorem Uy {ρ:aq} {fa:aq→R (List D)} {ds:List D} {i:Nat} (e:fa ρ= .ok ds) (h:ds.length≤1000000:=by exact Nat.le_of_ble_eq_true rfl):newL fa i ρ= .nx (ρ.set i (some (.lst ds))):=by
  unfold newL
  rw[e]
  show (if _ then _ else _)=_
  rw[if_pos h]
noncomputable def pl (ps:List Nat):List D:=ps.map fun p=> .int ((p:Nat):Int)
structure Good (w:Nat) (ps:List Nat):Prop where
  lt:∀p∈ps,p < w
  st:∀i a b,ps[i]?=some a→ps[i+1]?=some b→b≤a+1∧a≤b+1
theorem Good.snoc {w:Nat} {ps:List Nat} {l p:Nat} (g:Good w (ps++[l])) (h1:p < w) (h2:p≤l+1∧l≤p+1):Good w (ps++[l]++[p]):=by
  refine⟨fun q hq=>?_,fun i a b ha hb=>?_⟩
  · rcases List.mem_append.mp hq with h |h
    · exact g.lt q h
    · rw[List.mem_singleton.mp h];exact h1
  · by_cases hi:i+1 < (ps++[l]).length
    · rw[List.getElem?_append_left hi] at hb
      rw[List.getElem?_append_left (by omega)] at ha
      exact g.st i a b ha hb
    · have hl:i+1 < (ps++[l]++[p]).length:=(List.getElem?_eq_some_iff.mp hb).1
      simp only[List.length_append,List.length_cons,List.length_nil] at hl hi
      have hi:i=ps.length:=by omega
      subst hi
      rw[List.getElem?_append_left (by simp),List.getElem?_append_right (by simp)] at ha
      rw[List.getElem?_append_right (by simp)] at hb
      simp at ha hb
      subst ha hb
      exact h2
section
variable {ns:List Int} {a:Int} {w h:Nat} {t:Option Ent}
theorem acs {ps:List Nat} {l:Nat}:bQ (.lst (pl (ps++[l]))) (.int (-1))= .ok (.int (l:Int)):=by
  have:atI (pl (ps++[l])) (-1)=some (.int (l:Int)):=by
    unfold atI ixN
    rw[if_neg (by omega),if_pos (by simp[pl];omega)]
    show (pl (ps++[l]))[_]?=_
    have e:(-1+((pl (ps++[l])).length:Int)).toNat=ps.length:=by simp[pl];omega
    rw[e]
    simp[pl]
  exact zQ this
end
section
variable {w h:Nat} {f:Nat→Nat→Int}
end
section
variable {w h:Nat} {f:Nat→Nat→Int} {s:Nat→Nat} {c:Nat→Int}
end
end iU
namespace iU
open PySem PySem.Spec L2 Pu
noncomputable def ab (i:Int):Int:=if i < 0 then -i else i
noncomputable def gap (n:Nat) (g:Nat→Int) (x:Nat):Int:=ab (g (x - 1) - g (min (x+1) (n - 1)))
noncomputable def cR (w h:Nat) (f:Nat→Nat→Int) (y x:Nat):Int:=gap w (f y) x+gap h (fun y=>f y x) y
section
variable {n w h:Nat} {g:Nat→Int} {f:Nat→Nat→Int} {s:Nat→Nat} {ρ:aq}
theorem wM:cB [row n g]= .ok (.int (n:Int)):=by simp[row,cB]
theorem CP:cB [bY w h f]= .ok (.int (h:Int)):=by simp[bY,cB]
theorem JV {n:Nat} (h1:1≤n):dZ (.int (n:Int)) (.int 1)= .ok (.int ((n - 1:Nat):Int)):=by
  show R.ok (D.int ((n:Int) - 1))=_
  rw[show (n:Int) - 1=((n - 1:Nat):Int) by omega]
theorem ad3 {x:Nat}:maxD [.int ((x:Int) - 1),.int 0]= .ok (.int ((x - 1:Nat):Int)):=by
  show R.ok (D.int (if (0:Int) > (x:Int) - 1 then 0 else (x:Int) - 1))=_
  congr 2
  split <;> omega
theorem min1 {x n:Nat}:minD [.int ((x+1:Nat):Int),.int (n:Int)]= .ok (.int ((min (x+1) n:Nat):Int)):=by
  show R.ok (D.int (if (n:Int) < ((x+1:Nat):Int) then (n:Int) else ((x+1:Nat):Int)))=_
  congr 2
  split <;> omega
theorem j9 {x:Nat} (hx:x < n):bQ (row n g) (.int (x:Int))= .ok (.int (g x)):=by
  refine qI (i:=x) ?_
  rw[List.getElem?_map,List.getElem?_range hx];rfl
theorem sY {y:Nat} (hy:y < h):bQ (bY w h f) (.int (y:Int))= .ok (row w (f y)):=by
  refine qI (i:=y) ?_
  rw[List.getElem?_map,List.getElem?_range hy];rfl
theorem oN {α:Type} {p:Nat→D} {x:Nat} (hx:x < n):bQ (.lst ((List.range n).map p)) (.int (x:Int))= .ok (p x):=by
  refine XM (i:=x) ?_
  rw[List.getElem?_map,List.getElem?_range hx];rfl
theorem Uz (h1:1≤n) (dj:n≤20):sX [row n g]= .ok (.lst ((List.range n).map fun x=> .int (gap n g x))):=by
  refine cI (aK (bx (au (aY (aB rfl) wM) rfl (JV h1)) rfl) (bZ (cC (c:=fun (x:Nat)=>D.int (x:Int)) (h:=fun x=> .int (gap n g x)) (l:=List.range n) (jF (aB (aY (aB rfl) wM)) (by omega)) (by rw[List.length_range];omega) fun x hx=>?_)))
  have hx:=List.mem_range.mp hx
  exact cN rfl (aY (aB (au (x:= .int (g (x - 1))) (y:= .int (g (min (x+1) (n - 1)))) (au rfl (aY (aF (au rfl rfl rfl) (aB rfl)) ad3) (j9 (by omega))) (au rfl (aY (aF (x:= .int ((x+1:Nat):Int)) (au rfl rfl rfl) (aB rfl)) min1) (j9 (by omega))) rfl)) rfl)
theorem Aj (o:Ok w h f):iW [bY w h f]= .ok (bY w h (cR w h f)):=by
  have dj:=o.h2
  have w20:=o.w2
  refine cI (aK (bx (bH (aB rfl) (size_eq o)) rfl)
    (aK (bx (cC (c:=fun y=>row w (f y)) (h:=fun y=> .lst ((List.range w).map fun x=> .int (gap w (f y) x))) (l:=List.range h) (nR rfl) (by rw[List.length_range];omega) fun y hy=>cN rfl (bH (aB rfl) (Uz o.w1 o.w2))) rfl)
    (aK (bx (cC (c:=fun x=>row h fun y=>f y x) (h:=fun x=> .lst ((List.range h).map fun y=> .int (gap h (fun y=>f y x) y))) (l:=List.range w) (nR (bH (aB rfl) (YG o))) (by rw[List.length_range];omega) fun y hy=>cN rfl (bH (aB rfl) (Uz o.h1 o.h2))) rfl)
    (bZ (aY (aB (cC (c:=fun (y:Nat)=>D.int (y:Int)) (h:=fun y=>row w (cR w h f y)) (l:=List.range h) (jF (aB rfl) (by omega)) (by rw[List.length_range];omega) fun y hy=>?_)) rfl)))))
  have hy:=List.mem_range.mp hy
  refine cN rfl (aY (aB (cC (c:=fun (x:Nat)=>D.int (x:Int)) (h:=fun x=> .int (cR w h f y x)) (l:=List.range w) (jF (aB rfl) (by omega)) (by rw[List.length_range];omega) fun x hx=>?_)) rfl)
  have hx:=List.mem_range.mp hx
  exact cN rfl (au (x:= .int (gap w (f y) x)) (y:= .int (gap h (fun y=>f y x) y)) (au (au rfl rfl (oN (α:=D) hy)) rfl (oN (α:=D) hx)) (au (au rfl rfl (oN (α:=D) hx)) rfl (oN (α:=D) hy)) rfl)
noncomputable def Ak (w:Nat) (f:Nat→Nat→Int) (y x i:Nat):Int:=gap w (f y) x+(if i=0 then ab (f (y - 1) x - f y (x - 1)) else if i=1 then 0 else ab (f (y - 1) x - f y (min (x+1) (w - 1))))
theorem Nq {i:Nat} {u:aq→R D} {d:D} {ds:List D} (e:u ρ= .ok d) (h:ρ[i]?=some (some (.lst ds))) (hl:ds.length < 1000000):uR i u ρ= .nx (ρ.set i (some (.lst (ds++[d])))):=by
  unfold uR
  rw[e]
  simp only[zM,jc,h]
  rw[if_pos hl]
theorem Kq {p:Nat→D}:∀{n m:Nat},oH m ((List.range' m n).map p)=(List.range' m n).map fun (x:Nat)=>D.tup [.int (x:Int),p x]
  |0,_=>rfl
  |n+1,m=>by rw[List.range'_succ,List.map_cons,List.map_cons,oH,Kq]
theorem mj {fa:aq→R (List D)} {x:D} {n:Nat} {p:Nat→D} (e:fa ρ= .ok [x]) (h:jY x= .ok ((List.range n).map p)):(fun ρ=>(fa ρ).bind jh) ρ= .ok ((List.range n).map fun (y:Nat)=>D.tup [.int (y:Int),p y]):=by
  show (fa ρ).bind jh=_
  rw[e,R.bK,jh,h,R.bK,List.range_eq_range',Kq]
theorem wN {a b:Str}:wC (.str a) (.str b)= .ok (.bl (a ==b)):=by
  rw[wC,if_pos (by simp[dep])]
  show R.ok (D.bl (gD (.str a) (.str b)))=_
  simp[aM,aN,aO,aP,aQ,aL,aJ]
noncomputable def wo3 (w h:Nat) (f:Nat→Nat→Int) (y x i:Nat):Int:=cR w h f y x
noncomputable def Vx (T:Nat→Nat→Nat→Int) (s:Nat→Nat) (y:Nat):Int:=T y (s y) (s (y - 1)+1 - s y)
noncomputable def cost (h:Nat) (T:Nat→Nat→Nat→Int) (s:Nat→Nat):Int:=T 0 (s 0) 1+((List.range (h - 1)).map fun y=>Vx T s (y+1)).sum
noncomputable def tbl (m:Str) (w h:Nat) (f:Nat→Nat→Int):Nat→Nat→Nat→Int:=if m= "worth" then wo3 w h f else Ak w f
end
section
variable {n w h:Nat} {g:Nat→Int} {f:Nat→Nat→Int} {s:Nat→Nat} {c:Int} {m:Str} {ρ:aq}
theorem Kr {p:Nat→Int} (hh:1≤h):((List.range h).map p).sum=p 0+((List.range (h - 1)).map fun y=>p (y+1)).sum:=by
  obtain⟨k,rfl⟩:∃k,h=k+1:=⟨h - 1,by omega⟩
  rw[List.range_succ_eq_map,List.map_cons,List.sum_cons,List.map_map];rfl
theorem ad4 (hh:1≤h):cost h (tbl "worth" w h f) s=((List.range h).map fun y=>cR w h f y (s y)).sum:=by
  rw[Kr hh];rfl
noncomputable abbrev clip (n:Nat) (X:Int):Int:=if (if X < ((n - 1:Nat):Int) then X else ((n - 1:Nat):Int)) > 0 then (if X < ((n - 1:Nat):Int) then X else ((n - 1:Nat):Int)) else 0
theorem Lx {X Y:Int} {x y:Nat} (o:Ok w h f) (hy:clip h Y=(y:Int)) (hyh:y < h) (hx:clip w X=(x:Int)) (hxw:x < w):gJ [bY w h f,.int X,.int Y]= .ok (.int (f y x)):=by
  refine cI (bZ (au (x:=row w (f y)) (y:= .int (x:Int)) (au rfl (aY (aF rfl (aB (aY (aF (au (aY (aB rfl) CP) rfl (JV o.h1)) (aB rfl)) rfl))) ?_) (sY hyh)) (aY (aF rfl (aB (aY (aF (au (len0 o rfl) rfl (JV o.w1)) (aB rfl)) rfl))) ?_) (j9 hxw)))
  · exact congrArg (fun z=>R.ok (D.int z)) hy
  · exact congrArg (fun z=>R.ok (D.int z)) hx
theorem CQ {x:Nat} (hx:x < n):clip n (x:Int)=(x:Int):=by unfold clip;split <;> split <;> omega
theorem UG {x:Nat} (hx:x < n):clip n ((x+1:Nat):Int)=((min (x+1) (n - 1):Nat):Int):=by unfold clip;split <;> split <;> omega
theorem UJ {x:Nat} (hx:x < n):clip n ((x:Int) - 1)=((x - 1:Nat):Int):=by unfold clip;split <;> split <;> omega
theorem sZ (o:Ok w h f) {x y:Nat} (hx:x < w) (hy:y < h) {e1 e4 e5:Option Ent}:aD zR (ao (bin (aD (bC gJ 3) (ao (fun ρ=>aj ρ 0) (ao (bin (fun ρ=>aj ρ 2) (fun _=> .ok (.int 1)) dZ) (ao (fun ρ=>aj ρ 3) (fun _=> .ok []))))) (aD (bC gJ 3) (ao (fun ρ=>aj ρ 0) (ao (bin (fun ρ=>aj ρ 2) (fun _=> .ok (.int 1)) cT) (ao (fun ρ=>aj ρ 3) (fun _=> .ok []))))) dZ) (fun _=> .ok []))
    [vA (bY w h f),e1,vA (.int (x:Int)),vA (.int (y:Int)),e4,e5]= .ok (.int (gap w (f y) x)):=
  aY (aB (au (x:= .int (f y (x - 1))) (y:= .int (f y (min (x+1) (w - 1)))) (bH (aF rfl (aF (x:= .int ((x:Int) - 1)) (au rfl rfl rfl) (aB rfl))) (Lx o (CQ hy) hy (UJ hx) (by omega))) (bH (aF rfl (aF (x:= .int ((x+1:Nat):Int)) (au rfl rfl rfl) (aB rfl))) (Lx o (CQ hy) hy (UG hx) (by omega))) rfl)) rfl
theorem ad5 (o:Ok w h f) {x y:Nat} (hx:x < w) (hy:y < h) {d:D}:fZ [bY w h f,.str "worth",.int (x:Int),.int (y:Int),d]= .ok (.int (cR w h f y x)):=by
  refine cI (aK (bx (sZ o hx hy) rfl) (rP (jg (bw (b:=true) (au rfl rfl wN)) (bZ (au (x:= .int (gap w (f y) x)) (y:= .int (gap h (fun y=>f y x) y)) rfl (aY (aB (au (x:= .int (f (y - 1) x)) (y:= .int (f (min (y+1) (h - 1)) x)) ?_ ?_ rfl)) rfl) rfl)))))
  · exact bH (aF rfl (aF rfl (aB (x:= .int ((y:Int) - 1)) (au rfl rfl rfl)))) (Lx o (UJ hy) (by omega) (CQ hx) hx)
  · exact bH (aF rfl (aF rfl (aB (x:= .int ((y+1:Nat):Int)) (au rfl rfl rfl)))) (Lx o (UG hy) (by omega) (CQ hx) hx)
theorem acu {c:aq→R Bool} {f g:aq→R D} {r:R D} (e:c ρ= .ok true) (h:f ρ=r):TJ c f g ρ=r:=by rw[TJ,e,R.bK,if_pos rfl,h]
theorem acv {c:aq→R Bool} {f g:aq→R D} {r:R D} (e:c ρ= .ok false) (h:g ρ=r):TJ c f g ρ=r:=by rw[TJ,e,R.bK,if_neg (by decide),h]
theorem abI {i j:Int}:fX (.int i) (.int j)= .ok (.bl (!decide (i=j))):=by
  rw[fX,if_pos (by simp[dep])]
  show R.ok (D.bl (!gD (.int i) (.int j)))=_
  by_cases h:i=j <;> simp[aM,aN,aO,aP,aQ,aL,aJ,h]
theorem acw (o:Ok w h f) {x y:Nat} (hx:x < w) (hy:y < h):fZ [bY w h f,.str "joins",.int (x:Int),.int (y:Int),.non]= .ok (.int (Ak w f y x 1)):=by
  have e:Ak w f y x 1=gap w (f y) x:=by simp[Ak]
  rw[e]
  exact cI (aK (bx (sZ o hx hy) rfl) (aK (cQ (bw (b:=false) (au rfl rfl wN)) rfl) (aK (cQ (Ju (bw (b:=false) (au rfl rfl rfl))) rfl) (bZ rfl))))
theorem ad6 (o:Ok w h f) {x y b:Nat} (hx:x < w) (hy:y+1 < h) (hb:b < w) (h1:b≤x+1) (h2:x≤b+1):fZ [bY w h f,.str "joins",.int (x:Int),.int ((y+1:Nat):Int),.int (b:Int)]= .ok (.int (Ak w f (y+1) x (b+1 - x))):=by
  by_cases hbx:b=x
  · subst hbx
    have e:Ak w f (y+1) b (b+1 - b)=gap w (f (y+1)) b:=by simp[Ak,show b+1 - b=1 by omega]
    rw[e]
    exact cI (aK (bx (sZ o hx hy) rfl) (aK (cQ (bw (b:=false) (au rfl rfl wN)) rfl) (aK (cQ (pN (bw (b:=true) (au rfl rfl rfl)) (bw (au rfl rfl (pZ rfl)))) rfl) (bZ rfl))))
  · have hne:fX (.int (b:Int)) (.int (x:Int))= .ok (.bl true):=by rw[abI,decide_eq_false (by omega)];rfl
    by_cases hlt:b < x
    · have e:Ak w f (y+1) x (b+1 - x)=gap w (f (y+1)) x+ab (f y x - f (y+1) (x - 1)):=by simp[Ak,show b+1 - x=0 by omega]
      rw[e]
      exact cI (aK (bx (sZ o hx hy) rfl) (aK (cQ (bw (b:=false) (au rfl rfl wN)) rfl) (aK (jg (pN (bw (b:=true) (au rfl rfl rfl)) (bw (au rfl rfl hne)))
        (bx (d:= .int (gap w (f (y+1)) x+ab (f y x - f (y+1) (x - 1)))) (au (x:= .int (gap w (f (y+1)) x)) (y:= .int (ab (f y x - f (y+1) (x - 1)))) rfl (aY (aB (au (x:= .int (f y x)) (y:= .int (f (y+1) (x - 1))) (au (au rfl (au (x:= .int ((y+1:Nat):Int)) rfl rfl (JV (by omega))) (sY (y:=y+1 - 1) (by omega))) rfl (j9 hx)) (au (au rfl rfl (sY hy)) (acu (bw (au rfl rfl (abH (by omega)))) (au (x:= .int (x:Int)) rfl rfl (JV (by omega)))) (j9 (by omega))) rfl)) rfl) rfl) rfl)) (bZ rfl))))
    · have e:Ak w f (y+1) x (b+1 - x)=gap w (f (y+1)) x+ab (f y x - f (y+1) (x+1)):=by simp[Ak,show b+1 - x=2 by omega,show min (x+1) (w - 1)=x+1 by omega]
      have hf:ltI (.int (b:Int)) (.int (x:Int))= .ok (.bl false):=by
        show R.ok (D.bl (decide _))=_
        rw[decide_eq_false (by omega)]
      rw[e]
      exact cI (aK (bx (sZ o hx hy) rfl) (aK (cQ (bw (b:=false) (au rfl rfl wN)) rfl) (aK (jg (pN (bw (b:=true) (au rfl rfl rfl)) (bw (au rfl rfl hne)))
        (bx (d:= .int (gap w (f (y+1)) x+ab (f y x - f (y+1) (x+1)))) (au (x:= .int (gap w (f (y+1)) x)) (y:= .int (ab (f y x - f (y+1) (x+1)))) rfl (aY (aB (au (x:= .int (f y x)) (y:= .int (f (y+1) (x+1))) (au (au rfl (au (x:= .int ((y+1:Nat):Int)) rfl rfl (JV (by omega))) (sY (y:=y+1 - 1) (by omega))) rfl (j9 hx)) (au (au rfl rfl (sY hy)) (acv (bw (au rfl rfl hf)) (au (x:= .int (x:Int)) (y:= .int 1) rfl rfl rfl)) (j9 (x:=x+1) (by omega))) rfl)) rfl) rfl) rfl)) (bZ rfl))))
noncomputable def bef (h:Nat) (s:Nat→Nat):List D:=D.non::(List.range (h - 1)).map fun y=>D.int ((s y:Nat):Int)
theorem ad7 (hh:1≤h) (dj:h≤20) {e0 e1 e3:Option Ent}:bin (m9 (ao (fun _=> .ok .non) (fun _=> .ok []))) (GQ (fun ρ=>aj ρ 2) (fun _=> .ok none) (fun ρ=>(((zV (fun _=> .ok (.int 1))):aq→R D) ρ).bind Ka)) cT [e0,e1,vA (sm h s),e3]= .ok (.tup (bef h s)):=by
  have e:GQ (fun ρ=>aj ρ 2) (fun _=> .ok none) (fun ρ=>(((zV (fun _=> .ok (.int 1))):aq→R D) ρ).bind Ka) [e0,e1,vA (sm h s),e3]= .ok (.tup ((List.range (h - 1)).map fun y=>D.int ((s y:Nat):Int))):=by
    show R.ok (D.tup (mC ((List.range h).map fun y=>D.int ((s y:Nat):Int)) none (some (-1))))=_
    have e2:∀{n d:Nat},HT.sIx n d (some (-1))=n - 1:=fun {n d}=>by
      show (if (-1:Int) < 0 then ((-1:Int)+(n:Int)).toNat else min (-1:Int).toNat n)=n - 1
      rw[if_pos (by decide)];omega
    rw[mC,e2,YJ,Nat.sub_zero,List.length_map,List.length_range,List.drop_zero,←List.map_take,List.take_range,Nat.min_eq_left (by omega)]
  exact au (lD (aB rfl)) e (acq (by simp;omega))
theorem ad8 {y:Nat} (hy:y < h):bQ (.tup (bef h s)) (.int (y:Int))= .ok (if y=0 then .non else .int ((s (y - 1):Nat):Int)):=by
  refine qI (i:=y) ?_
  cases y with
  |zero=>rfl
  | succ y=>
    show ((List.range (h - 1)).map fun y=>D.int ((s y:Nat):Int))[y]?=_
    rw[List.getElem?_map,List.getElem?_range (by omega)];rfl
theorem step_eq (hm:m= "worth"∨m= "joins") (o:Ok w h f) (q:u9 w h s) {y:Nat} (hy:y < h):fZ [bY w h f,.str m,.int ((s y:Nat):Int),.int (y:Int),if y=0 then .non else .int ((s (y - 1):Nat):Int)]= .ok (.int (if y=0 then tbl m w h f 0 (s 0) 1 else Vx (tbl m w h f) s y)):=by
  rcases hm with rfl |rfl
  · rw[ad5 o (q.lt y hy) hy]
    by_cases h0:y=0
    · subst h0;rfl
    · rw[if_neg h0];rfl
  · by_cases h0:y=0
    · subst h0
      rw[if_pos rfl,if_pos rfl]
      exact acw o (q.lt 0 hy) hy
    · obtain⟨k,rfl⟩:∃k,y=k+1:=⟨y - 1,by omega⟩
      rw[if_neg h0,if_neg h0]
      obtain⟨k1,k2⟩:=q.st k hy
      exact ad6 o (q.lt _ hy) hy (q.lt k (by omega)) k2 k1
theorem Ra (hm:m= "worth"∨m= "joins") (o:Ok w h f) (q:u9 w h s):mQ [bY w h f,.str m,sm h s]= .ok (.int (cost h (tbl m w h f) s)):=by
  have dj:=o.h2
  have e:((List.range h).map fun y=>if y=0 then tbl m w h f 0 (s 0) 1 else Vx (tbl m w h f) s y).sum=cost h (tbl m w h f) s:=by
    rw[Kr o.h1,if_pos rfl]
    rfl
  rw[←e]
  refine cI (aK (bx (ad7 o.h1 dj) rfl) (bZ (aY (aB (cC (c:=fun (y:Nat)=>D.tup [.int (y:Int),.int ((s y:Nat):Int)]) (h:=fun y=> .int (if y=0 then tbl m w h f 0 (s 0) 1 else Vx (tbl m w h f) s y)) (l:=List.range h) (mj (aB rfl) rfl) (by rw[List.length_range];omega) fun y hy=>?_)) Cz)))
  have hy:=List.mem_range.mp hy
  exact cN rfl (bH (aF rfl (aF rfl (aF rfl (aF rfl (aB (au rfl rfl (ad8 hy))))))) (step_eq hm o q hy))
end
end iU
namespace iU
open PySem PySem.Spec L2 Pu
section
variable {n w h:Nat} {g:Nat→Int} {f:Nat→Nat→Int} {ρ:aq}
theorem UL {i:Nat} {u:aq→R D} {ds es:List D} (h:ρ[i]?=some (some (.lst ds))) (e:u ρ= .ok (.lst es)) (hl:ds.length+es.length≤1000000):Jz i u ρ= .nx (ρ.set i (some (.lst (ds++es)))):=by
  unfold Jz
  simp only[h,e,zM,jc]
  rw[if_pos hl]
theorem YM {i:Nat} {u:aq→R D} {ds:List D} {k:Int} {d:D} (h:ρ[i]?=some (some (.lst ds))) (e:u ρ= .ok (.int k)) (e2:bQ (.lst ds) (.int k)= .ok d):Ug i u ρ= .ok d:=by
  unfold Ug
  simp only[h,e,R.bK,e2]
noncomputable def nr (w x:Nat):List Nat:=List.range' (x - 1) (min (x+2) w - (x - 1))
theorem Hh {x p:Nat} (hx:x < w):p∈nr w x↔p < w∧p≤x+1∧x≤p+1:=by
  unfold nr
  rw[List.mem_range'_1,Nat.add_sub_cancel' (Nat.le_min.mpr ⟨Nat.le_trans (Nat.sub_le x 1) (Nat.le_add_right x 2),Nat.le_trans (Nat.sub_le x 1) (Nat.le_of_lt hx)⟩),Nat.lt_min]
  exact⟨fun h=>⟨h.2.2,Nat.le_of_lt_succ h.2.1,Nat.le_add_of_sub_le h.1⟩,fun h=>⟨Nat.sub_le_of_le_add h.2.2,Nat.lt_succ_of_le h.2.1,h.1⟩⟩
theorem Nr {x:Nat}:(nr w x).length≤3:=by unfold nr;rw[List.length_range'];omega
theorem acy {x:Nat} (hx:x < w) (hw:w≤20):wL [.int (x:Int),.int (w:Int)]= .ok (.lst ((nr w x).map fun (p:Nat)=>D.int (p:Int))):=by
  have e2:minD [.int ((x+2:Nat):Int),.int (w:Int)]= .ok (.int ((min (x+2) w:Nat):Int)):=by
    show R.ok (D.int (if (w:Int) < ((x+2:Nat):Int) then (w:Int) else ((x+2:Nat):Int)))=_
    congr 2
    by_cases hz:w < x+2
    · rw[if_pos (Int.ofNat_lt.mpr hz),Nat.min_eq_right (Nat.le_of_lt hz)]
    · rw[if_neg (fun q=>hz (Int.ofNat_lt.mp q)),Nat.min_eq_left (Nat.le_of_not_lt hz)]
  refine cI (bZ (aY (aF (x:= .int ((x - 1:Nat):Int)) (aY (aF (au rfl rfl rfl) (aB rfl)) ad3) (aB (x:= .int ((min (x+2) w:Nat):Int)) (aY (aF (x:= .int ((x+2:Nat):Int)) (au rfl rfl rfl) (aB rfl)) e2))) ?_))
  show (if _ then _ else _)=_
  have b1:x - 1≤1000:=Nat.le_trans (Nat.sub_le x 1) (Nat.le_trans (Nat.le_of_lt hx) (Nat.le_trans hw (by decide)))
  have b2:min (x+2) w≤1000:=Nat.le_trans (Nat.min_le_right _ _) (Nat.le_trans hw (by decide))
  rw[if_pos ⟨Int.le_trans (by decide) (Int.natCast_nonneg _),Int.ofNat_le.mpr b1,Int.le_trans (by decide) (Int.natCast_nonneg _),Int.ofNat_le.mpr b2⟩]
  congr 2
  unfold upto nr
  rw[Int.toNat_sub,List.range'_eq_map_range,List.map_map]
  refine List.map_congr_left fun i _=>?_
  simp
end
end iU
namespace iU
open PySem PySem.Spec L2 Pu
section
variable {ns:List Int} {a:Int} {w h:Nat} {t:Option Ent}
theorem acz (hns:ns.length≤1000000) (ha:0≤a) (hw:1≤w) {ps:List Nat} {l k:Nat} (g:Good w (ps++[l])) (hl:(ps++[l]).length < 1000000):
    ∃p,aa1 [vA (.lst (ns.map .int)),vA (.int a),vA (.int (w:Int)),t,some (.lst (pl (ps++[l]))),vA (.int (k:Int))]= .nx [vA (.lst (ns.map .int)),vA (.int a),vA (.int (w:Int)),t,some (.lst (pl (ps++[l]++[p]))),vA (.int (k:Int))]∧Good w (ps++[l]++[p]):=by
  obtain⟨e1,d0,d3⟩:=uE (k:=a+1+(k:Int)) (m:=3) hns (by omega) (by omega)
  have hlw:l < w:=g.lt l (by simp)
  generalize hd:dr ns (a+1+(k:Int)) 3=d at *
  generalize hm:(if (l:Int)+d - 1 < (w:Int) - 1 then (l:Int)+d - 1 else (w:Int) - 1)=m
  generalize hv:(if m > 0 then m else 0)=v
  have hv0:0≤v∧v < w∧v≤l+1∧(l:Int)≤v+1:=by
    subst hv;subst hm
    split <;> split <;> omega
  obtain⟨p,hp⟩:=Int.eq_ofNat_of_zero_le hv0.1
  refine⟨p,(Nq (d:= .int (p:Int)) (ds:=pl (ps++[l])) ?_ rfl (by simpa[pl] using hl)).trans ?_,g.snoc (by omega) (by omega)⟩
  · refine aY (aF rfl (aB (x:= .int m) (aY (aF (x:= .int ((w:Int) - 1)) (au rfl rfl rfl) (aB (x:= .int ((l:Int)+d - 1)) (au (x:= .int ((l:Int)+d)) (y:= .int 1) (au (x:= .int (l:Int)) (y:= .int d) (YM rfl rfl acs) (bH (aF rfl (aF (au (au rfl rfl rfl) rfl rfl) (aB rfl))) e1) rfl) rfl rfl))) ?_))) ?_
    · rw[←hm];rfl
    · rw[←hp,←hv];rfl
  · have:pl (ps++[l])++[D.int (p:Int)]=pl (ps++[l]++[p]):=by simp[pl]
    rw[←this];rfl
theorem Nt (hns:ns.length≤1000000) (ha:0≤a) (hw:1≤w):∀{ks:List Nat} {ps:List Nat} {l:Nat} {x:Option Ent},Good w (ps++[l])→ps.length+1+ks.length≤1000→
    ∃ qs x',forL (aG 5) aa1 (ks.map fun (k:Nat)=>D.int (k:Int)) [vA (.lst (ns.map .int)),vA (.int a),vA (.int (w:Int)),t,some (.lst (pl (ps++[l]))),x] =
      .nx [vA (.lst (ns.map .int)),vA (.int a),vA (.int (w:Int)),t,some (.lst (pl (ps++[l]++qs))),x']∧qs.length=ks.length∧Good w (ps++[l]++qs)
  |[],ps,l,x,g,_=>⟨[],x,by rw[List.append_nil];rfl,rfl,by rw[List.append_nil];exact g⟩
  | k::ks,ps,l,x,g,hl=>by
    rw[List.length_cons] at hl
    obtain⟨p,e1,g1⟩:=acz (t:=t) hns ha hw (k:=k) g (by simp;omega)
    obtain⟨qs,x',e2,h2,g2⟩:=Nt hns ha hw (ks:=ks) (ps:=ps++[l]) (l:=p) (x:=vA (.int (k:Int))) g1 (by simp;omega)
    refine⟨p::qs,x',?_,by simp[h2],by simpa using g2⟩
    rw[List.map_cons]
    refine gG rfl e1 (e2.trans ?_)
    simp
theorem ad9 (hns:ns.length≤1000000) (ha:0≤a) (hw:1≤w) (hh1:1≤h) (hh:h≤20):∃s,oK [.lst (ns.map .int),.int a,.int (w:Int),.int (h:Int)]= .ok (sm h s)∧u9 w h s:=by
  obtain⟨e1,d0,d3⟩:=uE (k:=a) (m:=(w:Int)) hns ha (by omega)
  obtain⟨l,hl⟩:=Int.eq_ofNat_of_zero_le d0
  rw[hl] at e1
  have g0:Good w ([]++[l]):=⟨fun p hp=>by simp at hp;omega,fun i x y hx hy=>by simp at hy⟩
  obtain⟨qs,x',e2,h2,g⟩:=Nt (t:=vA (.int (h:Int))) hns ha hw (ks:=List.range (h - 1)) (x:=none) g0 (by simp;omega)
  rw[List.length_range] at h2
  generalize hps:[]++[l]++qs=ps at *
  have hlen:ps.length=h:=by rw[←hps];simp;omega
  have hrow:sm h (fun y=>ps.getD y 0)= .tup (pl ps):=by
    unfold sm row pl
    refine congrArg D.tup (List.ext_getElem (by simp[hlen]) fun i h1 h2=>?_)
    have:i < ps.length:=by simpa using h2
    simp[this]
  refine⟨fun y=>ps.getD y 0,?_,?_,?_⟩
  · rw[hrow]
    refine cI (aK (ρ':=[vA (.lst (ns.map .int)),vA (.int a),vA (.int (w:Int)),vA (.int (h:Int)),some (.lst (pl ([]++[l]))),none]) ?_ (aK (mL (jF (m:=h - 1) (aB (au (x:= .int (h:Int)) (y:= .int 1) rfl rfl ?_)) (by omega)) e2) (bZ (aY (aB rfl) rfl))))
    · exact Uy (aB (x:= .int (l:Int)) (bH (aF rfl (aF rfl (aB rfl))) e1))
    · show R.ok (D.int ((h:Int) - 1))=_
      rw[show (h:Int) - 1=((h - 1:Nat):Int) by omega]
  · intro y hy
    have:y < ps.length:=by omega
    simp only[List.getD_eq_getElem?_getD,List.getElem?_eq_getElem this,Option.getD_some]
    exact g.lt _ (List.getElem_mem _)
  · intro y hy
    have k1:y < ps.length:=by omega
    have k2:y+1 < ps.length:=by omega
    simp only[List.getD_eq_getElem?_getD,List.getElem?_eq_getElem k1,List.getElem?_eq_getElem k2,Option.getD_some]
    exact g.st y _ _ (List.getElem?_eq_getElem k1) (List.getElem?_eq_getElem k2)
end
end iU
namespace iU
open PySem PySem.Spec L2 Pu
open Fl (inn out)
section
variable {w h k:Nat} {C:Nat→Nat→Int} {T:Nat→Nat→Bool} {s:Nat→Nat→Nat} {ρ:aq}
theorem yq {a b:Nat} (h:a < 2 ^ 64):xV (.int (a:Int)) (.int (b:Int))= .ok (.int ((a*b:Nat):Int)):=by
  show gR (.int (a:Int)) (.int (b:Int))=_
  rw[j5 (.inl ⟨by omega,by omega⟩),Int.natCast_mul]
theorem wO {x y:Nat} (hy:y≤20):cX [.int (x:Int),.int (y:Int),.int (w:Int)]= .ok (.int ((inn w x y:Nat):Int)):=
  cI (bZ (au rfl (au (y:= .int 1) (au (au rfl rfl (yq (a:=y) (b:=w) (by omega))) rfl rfl) rfl rfl) (yq (a:=2) (b:=y*w+x+1) (by omega))))
noncomputable abbrev Ar:=Nat×Nat×Int
noncomputable def fD (a:Ar):D:= .tup [.int (a.1:Int),.int (a.2.1:Int),.int a.2.2]
noncomputable def cP (w h:Nat) (T:Nat→Nat→Bool):List (List Bool):=(List.range h).map fun y=>(List.range w).map fun x=>T x y
theorem wQ:tk (cP w h T)= .lst ((List.range h).map fun y=> .lst ((List.range w).map fun x=> .bl (T x y))):=by
  unfold tk cP
  rw[List.map_map]
  refine congrArg D.lst (List.map_congr_left fun y _=>?_)
  show D.lst (((List.range w).map fun x=>T x y).map D.bl)=_
  rw[List.map_map];rfl
theorem Vy {y:Nat} (hy:y < h):bQ (tk (cP w h T)) (.int (y:Int))= .ok (.lst ((List.range w).map fun x=> .bl (T x y))):=by
  rw[wQ];exact oN (α:=Nat) hy
noncomputable def cA (w h:Nat) (C:Nat→Nat→Int) (T:Nat→Nat→Bool) (y x:Nat):List Ar:=
  (if T x y=true then [] else [(inn w x y,out w x y,C y x)])++if y+1 < h then (nr w x).map fun p=>(out w x y,inn w p (y+1),0) else [(out w x y,1,0)]
theorem Nu {y x:Nat}:(cA w h C T y x).length≤4:=by
  unfold cA
  rw[List.length_append]
  have:=Nr (w:=w) (x:=x)
  split <;> split <;> simp <;> omega
noncomputable def UW {a b:Nat}:ltI (.int (a:Int)) (.int (b:Int))= .ok (.bl (decide (a < b))):=by
  show R.ok (D.bl (decide ((a:Int) < (b:Int))))=_
  simp
theorem aea {y x:Nat} (hy:y < h) (hx:x < w) (dj:h≤20) (w20:w≤20) {acc:List D} (hl:acc.length+4≤1000000) {e8:Option Ent}:
    adI [vA (bY w h C),vA (tk (cP w h T)),vA (.int (w:Int)),some (.lst acc),vA (.int (y:Int)),vA (row w (C y)),vA (.int (x:Int)),vA (.int (C y x)),e8] =
      .nx [vA (bY w h C),vA (tk (cP w h T)),vA (.int (w:Int)),some (.lst (acc++(cA w h C T y x).map fD)),vA (.int (y:Int)),vA (row w (C y)),vA (.int (x:Int)),vA (.int (C y x)),vA (.int ((inn w x y:Nat):Int))]:=by
  refine aK (ρ':=[vA (bY w h C),vA (tk (cP w h T)),vA (.int (w:Int)),some (.lst acc),vA (.int (y:Int)),vA (row w (C y)),vA (.int (x:Int)),vA (.int (C y x)),vA (.int ((inn w x y:Nat):Int))]) (bx (bH (aF rfl (aF rfl (aB rfl))) (wO (by omega))) rfl) ?_
  refine aK (ρ':=[vA (bY w h C),vA (tk (cP w h T)),vA (.int (w:Int)),some (.lst (acc++(if T x y=true then [] else [(inn w x y,out w x y,C y x)]).map fD)),vA (.int (y:Int)),vA (row w (C y)),vA (.int (x:Int)),vA (.int (C y x)),vA (.int ((inn w x y:Nat):Int))]) ?_ ?_
  · have e:(m8 (bL (bin (bin (fun ρ=>aj ρ 1) (fun ρ=>aj ρ 4) bQ) (fun ρ=>aj ρ 6) bQ))) (cG [vA (bY w h C),vA (tk (cP w h T)),vA (.int (w:Int)),some (.lst acc),vA (.int (y:Int)),vA (row w (C y)),vA (.int (x:Int)),vA (.int (C y x)),vA (.int ((inn w x y:Nat):Int))])= .ok (!T x y):=
      oF (bw (au (au rfl rfl (Vy hy)) rfl (oN (α:=Nat) (p:=fun x=>D.bl (T x y)) hx)))
    cases t:T x y with
    | true=>
      rw[t] at e
      rw[if_pos rfl,List.map_nil,List.append_nil]
      exact cQ e rfl
    | false=>
      rw[t] at e
      rw[if_neg Bool.false_ne_true]
      exact jg e (Nq (lD (aF rfl (aF (x:= .int ((out w x y:Nat):Int)) (au rfl rfl rfl) (aB rfl)))) rfl (by omega))
  · have hl2:(acc++(if T x y=true then [] else [(inn w x y,out w x y,C y x)]).map fD).length≤acc.length+1:=by
      rw[List.length_append];split <;> simp
    generalize ha:acc++(if T x y=true then [] else [(inn w x y,out w x y,C y x)]).map fD=aeb at hl2
    have e:(bL (bin (bin (fun ρ=>aj ρ 4) (fun _=> .ok (.int 1)) cT) (aD cB (ao (fun ρ=>aj ρ 0) (fun _=> .ok []))) ltI)) (cG [vA (bY w h C),vA (tk (cP w h T)),vA (.int (w:Int)),some (.lst aeb),vA (.int (y:Int)),vA (row w (C y)),vA (.int (x:Int)),vA (.int (C y x)),vA (.int ((inn w x y:Nat):Int))])= .ok (decide (y+1 < h)):=
      bw (au (x:= .int ((y+1:Nat):Int)) (au rfl rfl rfl) (aY (aB rfl) CP) UW)
    have ec:(acc++(cA w h C T y x).map fD)=aeb++(if y+1 < h then (nr w x).map fun p=>(out w x y,inn w p (y+1),0) else [(out w x y,1,0)]).map fD:=by
      rw[←ha];unfold cA;rw[List.map_append,List.append_assoc]
    rw[ec]
    by_cases hy1:y+1 < h
    · rw[decide_eq_true hy1] at e
      rw[if_pos hy1]
      refine jg e (UL rfl ?_ (es:=((nr w x).map fun p=>((out w x y,inn w p (y+1),0):Ar)).map fD) ?_)
      · rw[List.map_map]
        refine cC (l:=nr w x) (c:=fun (p:Nat)=>D.int (p:Int)) (jD (bH (aF rfl (aB rfl)) (acy hx w20))) (by have:=Nr (w:=w) (x:=x);omega) fun p hp=>?_
        exact cN rfl (lD (aF (x:= .int ((out w x y:Nat):Int)) (au rfl rfl rfl) (aF (bH (aF rfl (aF (x:= .int ((y+1:Nat):Int)) (au rfl rfl rfl) (aB rfl))) (wO (by omega))) (aB rfl))))
      · rw[List.length_map,List.length_map];have:=Nr (w:=w) (x:=x);omega
    · rw[decide_eq_false hy1] at e
      rw[if_neg hy1]
      exact cQ e (Nq (lD (aF (x:= .int ((out w x y:Nat):Int)) (au rfl rfl rfl) (aF rfl (aB rfl)))) rfl (by omega))
theorem Nv {y:Nat} (hy:y < h) (dj:h≤20) (w20:w≤20):∀{xs:List Nat} {acc:List D} {e6 e7 e8:Option Ent},(∀x∈xs,x < w)→acc.length+4*xs.length≤1000000→
    ∃ lM qR Hi,forL (dG (dI 2 (bA (aG 6) (bA (aG 7) nilG)))) adI (xs.map fun (x:Nat)=>D.tup [.int (x:Int),.int (C y x)]) [vA (bY w h C),vA (tk (cP w h T)),vA (.int (w:Int)),some (.lst acc),vA (.int (y:Int)),vA (row w (C y)),e6,e7,e8] =
      .nx [vA (bY w h C),vA (tk (cP w h T)),vA (.int (w:Int)),some (.lst (acc++(xs.flatMap (cA w h C T y)).map fD)),vA (.int (y:Int)),vA (row w (C y)),lM,qR,Hi]
  |[],acc,e6,e7,e8,_,_=>⟨e6,e7,e8,by rw[List.flatMap_nil,List.map_nil,List.map_nil,List.append_nil];rfl⟩
  | x::xs,acc,e6,e7,e8,hx,hl=>by
    rw[List.length_cons] at hl
    have hc:=Nu (w:=w) (h:=h) (C:=C) (T:=T) (y:=y) (x:=x)
    obtain⟨lM,qR,Hi,e⟩:=Nv hy dj w20 (xs:=xs) (acc:=acc++(cA w h C T y x).map fD) (e6:=vA (.int (x:Int))) (e7:=vA (.int (C y x))) (e8:=vA (.int ((inn w x y:Nat):Int))) (fun z hz=>hx z (List.mem_cons_of_mem _ hz)) (by rw[List.length_append,List.length_map];omega)
    refine⟨lM,qR,Hi,?_⟩
    rw[List.map_cons,List.flatMap_cons,List.map_append,←List.append_assoc]
    exact gG rfl (aea hy (hx x (List.mem_cons_self ..)) dj w20 (by omega)) e
theorem jx {α β:Type} {f:α→List β} {m:Nat}:∀{l:List α},(∀a∈l,(f a).length≤m)→(l.flatMap f).length≤m*l.length
  |[],_=>Nat.zero_le _
  | a::l,hf=>by
    rw[List.flatMap_cons,List.length_append,List.length_cons,Nat.mul_succ]
    have h1:=hf a (List.mem_cons_self ..)
    have h2:=jx (l:=l) fun b hb=>hf b (List.mem_cons_of_mem _ hb)
    omega
theorem U0 (dj:h≤20) (w20:w≤20):∀{ys:List Nat} {acc:List D} {e4 e5 e6 e7 e8:Option Ent},(∀y∈ys,y < h)→acc.length+80*ys.length≤1000000→
    ∃ e4' e5' lM qR Hi,forL (dG (dI 2 (bA (aG 4) (bA (aG 5) nilG)))) adO (ys.map fun (y:Nat)=>D.tup [.int (y:Int),row w (C y)]) [vA (bY w h C),vA (tk (cP w h T)),vA (.int (w:Int)),some (.lst acc),e4,e5,e6,e7,e8] =
      .nx [vA (bY w h C),vA (tk (cP w h T)),vA (.int (w:Int)),some (.lst (acc++(ys.flatMap fun y=>(List.range w).flatMap (cA w h C T y)).map fD)),e4',e5',lM,qR,Hi]
  |[],acc,e4,e5,e6,e7,e8,_,_=>⟨e4,e5,e6,e7,e8,by rw[List.flatMap_nil,List.map_nil,List.map_nil,List.append_nil];rfl⟩
  | y ::ys,acc,e4,e5,e6,e7,e8,hy,hl=>by
    rw[List.length_cons] at hl
    have hf:((List.range w).flatMap (cA w h C T y)).length≤4*w:=by
      have:=jx (f:=cA w h C T y) (m:=4) (l:=List.range w) fun _ _=>Nu
      rw[List.length_range] at this;exact this
    obtain⟨a6,a7,a8,e1⟩:=Nv (C:=C) (T:=T) (hy y (List.mem_cons_self ..)) dj w20 (xs:=List.range w) (acc:=acc) (e6:=e6) (e7:=e7) (e8:=e8) (fun x hx=>List.mem_range.mp hx) (by rw[List.length_range];omega)
    obtain⟨b4,b5,b6,b7,b8,e2⟩:=U0 dj w20 (ys:=ys) (acc:=acc++((List.range w).flatMap (cA w h C T y)).map fD) (e4:=vA (.int (y:Int))) (e5:=vA (row w (C y))) (e6:=a6) (e7:=a7) (e8:=a8) (fun z hz=>hy z (List.mem_cons_of_mem _ hz)) (by rw[List.length_append,List.length_map];omega)
    refine⟨b4,b5,b6,b7,b8,?_⟩
    rw[List.map_cons,List.flatMap_cons,List.map_append,←List.append_assoc]
    exact gG rfl (mL (mj (aB rfl) (n:=w) (p:=fun x=>D.int (C y x)) rfl) e1) e2
noncomputable def AD (w h:Nat) (C:Nat→Nat→Int) (T:Nat→Nat→Bool):List Ar:=((List.range w).map fun x=>(0,inn w x 0,0))++(List.range h).flatMap fun y=>(List.range w).flatMap (cA w h C T y)
theorem yt (h1:1≤h) {ρ:aq} {u:aq→R D} (e:u ρ= .ok (bY w h C)):aD cB (ao (bin u (fun _=> .ok (.int 0)) bQ) (fun _=> .ok [])) ρ= .ok (.int (w:Int)):=
  aY (aB (au (y:= .int ((0:Nat):Int)) e rfl (sY (by omega)))) wM
theorem Nx {f:aq→R D} {i:Nat} {ds:List D} (e:f ρ= .ok (.lst ds)):xY f i ρ= .nx (ρ.set i (some (.lst ds))):=by unfold xY;rw[e];rfl
theorem Ny (h1:1≤h) (dj:h≤20) (w20:w≤20):kJ [bY w h C,tk (cP w h T)]= .ok (.lst ((AD w h C T).map fD)):=by
  obtain⟨b4,b5,b6,b7,b8,e⟩:=U0 (C:=C) (T:=T) dj w20 (ys:=List.range h) (acc:=((List.range w).map fun x=>((0,inn w x 0,0):Ar)).map fD) (e4:=none) (e5:=none) (e6:=none) (e7:=none) (e8:=none) (fun y hy=>List.mem_range.mp hy) (by rw[List.length_map,List.length_map,List.length_range,List.length_range];omega)
  rw[←List.map_append] at e
  refine cI (aK (bx (yt h1 rfl) rfl) (aK (ρ':=[vA (bY w h C),vA (tk (cP w h T)),vA (.int (w:Int)),some (.lst (((List.range w).map fun x=>((0,inn w x 0,0):Ar)).map fD)),none,none,none,none,none]) (Nx ?_) (aK (mL (mj (aB rfl) (n:=h) (p:=fun y=>row w (C y)) rfl) e) ?_)))
  rotate_left
  · exact bZ rfl
  rw[List.map_map]
  exact cC (l:=List.range w) (jF (aB rfl) (by omega)) (by rw[List.length_range];omega) fun x _=>cN rfl (lD (aF rfl (aF (bH (aF rfl (aF (x:= .int ((0:Nat):Int)) rfl (aB rfl))) (wO (by omega))) (aB rfl))))
end
end iU
namespace iU
open PySem PySem.Spec L2 Pu
open Fl (inn out)
section
variable {w h k:Nat} {C:Nat→Nat→Int} {T:Nat→Nat→Bool} {s:Nat→Nat→Nat} {ρ:aq}
noncomputable def jM (h k:Nat) (s:Nat→Nat→Nat):D:= .lst ((List.range k).map fun i=>sm h (s i))
noncomputable def bn (w h:Nat) (s:Nat→Nat) (m:Nat):Nat:=if m < h then inn w (s m) m else 1
noncomputable def uA (w h:Nat) (C:Nat→Nat→Int) (s:Nat→Nat) (y:Nat):List Ar:=[(bn w h s (y+1),out w (s y) y,0),(out w (s y) y,inn w (s y) y,-C y (s y))]
theorem aec {q:Nat→Nat} {y:Nat} {d1:D} (h1:1≤h) (hy:y < h) (hq:q y < w) (dj:h≤20) {acc:List D} (hl:acc.length+2≤1000000) {b:Nat} {e6:Option Ent}:
    auI [vA (bY w h C),vA d1,some (.lst acc),vA (sm h q),vA (.int (b:Int)),vA (.int (y:Int)),e6] =
      .nx [vA (bY w h C),vA d1,some (.lst (acc++[fD (b,out w (q y) y,0),fD (out w (q y) y,inn w (q y) y,-C y (q y))])),vA (sm h q),vA (.int ((inn w (q y) y:Nat):Int)),vA (.int (y:Int)),vA (.int ((inn w (q y) y:Nat):Int))]:=by
  refine aK (ρ':=[vA (bY w h C),vA d1,some (.lst acc),vA (sm h q),vA (.int (b:Int)),vA (.int (y:Int)),vA (.int ((inn w (q y) y:Nat):Int))]) (bx (bH (aF (x:= .int ((q y:Nat):Int)) (au rfl rfl (j9 hy)) (aF rfl (aB (yt h1 rfl)))) (wO (by omega))) rfl) ?_
  refine aK (UL rfl (jf (aF (lD (aF rfl (aF (x:= .int ((out w (q y) y:Nat):Int)) (au rfl rfl rfl) (aB rfl)))) (aB (lD (aF (x:= .int ((out w (q y) y:Nat):Int)) (au rfl rfl rfl) (aF rfl (aB (x:= .int (-C y (q y))) ?_))))))) hl) (bx rfl rfl)
  have e:(bin (bin (fun ρ=>aj ρ 0) (fun ρ=>aj ρ 5) bQ) (bin (fun ρ=>aj ρ 3) (fun ρ=>aj ρ 5) bQ) bQ) [vA (bY w h C),vA d1,some (.lst acc),vA (sm h q),vA (.int (b:Int)),vA (.int (y:Int)),vA (.int ((inn w (q y) y:Nat):Int))]= .ok (.int (C y (q y))):=
    au (au rfl rfl (sY hy)) (au (r:= .ok (.int ((q y:Nat):Int))) rfl rfl (j9 hy)) (j9 hq)
  rw[zV,e];rfl
theorem Nz {q:Nat→Nat} {d1:D} (h1:1≤h) (hq:∀y < h,q y < w) (dj:h≤20):∀{m:Nat} {acc:List D} {e5 e6:Option Ent},m≤h→acc.length+2*m≤1000000→
    ∃ e4' e5' lM,forL (aG 5) auI ((List.range m).reverse.map fun (y:Nat)=>D.int (y:Int)) [vA (bY w h C),vA d1,some (.lst acc),vA (sm h q),vA (.int ((bn w h q m:Nat):Int)),e5,e6] =
      .nx [vA (bY w h C),vA d1,some (.lst (acc++((List.range m).reverse.flatMap (uA w h C q)).map fD)),vA (sm h q),e4',e5',lM]
  | 0,acc,e5,e6,_,_=>⟨_,e5,e6,by
    show So.nx _=So.nx _
    rw[show (List.range 0).reverse=[] from rfl,List.flatMap_nil,List.map_nil,List.append_nil]⟩
  | m+1,acc,e5,e6,hm,hl=>by
    have eb:bn w h q m=inn w (q m) m:=if_pos (by omega)
    obtain⟨e4',e5',lM,e⟩:=Nz (d1:=d1) h1 hq dj (m:=m) (acc:=acc++(uA w h C q m).map fD) (e5:=vA (.int (m:Int))) (e6:=vA (.int ((inn w (q m) m:Nat):Int))) (by omega) (by rw[List.length_append];show _+2+_≤_;omega)
    refine⟨e4',e5',lM,?_⟩
    rw[List.range_succ,List.reverse_append,List.reverse_singleton,List.singleton_append,List.map_cons,List.flatMap_cons,List.map_append,←List.append_assoc]
    rw[eb] at e
    exact gG rfl (aec h1 (by omega) (hq m (by omega)) dj (by omega)) e
theorem YQ {n:Nat}:qP ((n:Int) - 1) n=(List.range n).reverse.map fun (y:Nat)=>D.int (y:Int):=by
  unfold qP
  rw[List.map_reverse,YH (g:=fun (y:Nat)=>D.int (y:Int))]
  refine List.map_congr_left fun i hi=>?_
  have:=List.mem_range.mp hi
  exact congrArg D.int (by omega)
theorem acA {fa:aq→R (List D)} {n:Nat} (e:fa ρ= .ok [.int (n:Int)]) (h:n≤1000):(fun ρ=>(fa ρ).bind MP) ρ= .ok ((List.range n).reverse.map fun (y:Nat)=>D.int (y:Int)):=by
  show (fa ρ).bind MP=_
  rw[e]
  show (if 0≤(n:Int)∧(n:Int)≤1000 then R.ok (qP ((n:Int) - 1) (n:Int).toNat) else .bad)=_
  rw[if_pos ⟨by omega,by omega⟩,Int.toNat_natCast,YQ]
theorem U3 {d1:D} (h1:1≤h) (dj:h≤20):∀{is:List Nat} {acc:List D} {e3 e4 e5 e6:Option Ent},(∀i∈is,∀y < h,s i y < w)→acc.length+40*is.length≤1000000→
    ∃ e3' e4' e5' lM,forL (aG 3) auO (is.map fun i=>sm h (s i)) [vA (bY w h C),vA d1,some (.lst acc),e3,e4,e5,e6] =
      .nx [vA (bY w h C),vA d1,some (.lst (acc++(is.flatMap fun i=>(List.range h).reverse.flatMap (uA w h C (s i))).map fD)),e3',e4',e5',lM]
  |[],acc,e3,e4,e5,e6,_,_=>⟨e3,e4,e5,e6,by rw[List.flatMap_nil,List.map_nil,List.map_nil,List.append_nil];rfl⟩
  | i ::is,acc,e3,e4,e5,e6,hs,hl=>by
    rw[List.length_cons] at hl
    have hf:((List.range h).reverse.flatMap (uA w h C (s i))).length≤2*h:=by
      have:=jx (f:=uA w h C (s i)) (m:=2) (l:=(List.range h).reverse) fun _ _=>Nat.le_refl _
      rw[List.length_reverse,List.length_range] at this;exact this
    have eb:bn w h (s i) h=1:=if_neg (Nat.lt_irrefl _)
    obtain⟨a4,a5,a6,e1⟩:=Nz (C:=C) (d1:=d1) h1 (hs i (List.mem_cons_self ..)) dj (m:=h) (acc:=acc) (e5:=e5) (e6:=e6) (Nat.le_refl _) (by omega)
    rw[eb] at e1
    obtain⟨b3,b4,b5,b6,e2⟩:=U3 (d1:=d1) h1 dj (is:=is) (acc:=acc++((List.range h).reverse.flatMap (uA w h C (s i))).map fD) (e3:=vA (sm h (s i))) (e4:=a4) (e5:=a5) (e6:=a6) (fun j hj=>hs j (List.mem_cons_of_mem _ hj)) (by rw[List.length_append,List.length_map];omega)
    refine⟨b3,b4,b5,b6,?_⟩
    rw[List.map_cons,List.flatMap_cons,List.map_append,←List.append_assoc]
    exact gG rfl (aK (bx rfl rfl) (mL (acA (aB (aY (aB rfl) wM)) (by omega)) e1)) e2
noncomputable def AU (w h k:Nat) (C:Nat→Nat→Int) (s:Nat→Nat→Nat):List Ar:=(List.range k).flatMap fun i=>(List.range h).reverse.flatMap (uA w h C (s i))
theorem Vz (h1:1≤h) (dj:h≤20) (k20:k≤20) (hs:∀i < k,∀y < h,s i y < w):nZ [bY w h C,jM h k s]= .ok (.lst ((AU w h k C s).map fD)):=by
  obtain⟨b3,b4,b5,b6,e⟩:=U3 (C:=C) (d1:=jM h k s) h1 dj (is:=List.range k) (acc:=[]) (e3:=none) (e4:=none) (e5:=none) (e6:=none) (fun i hi=>hs i (List.mem_range.mp hi)) (by rw[List.length_range];show 0+_≤_;omega)
  rw[List.nil_append] at e
  refine cI (aK (Uy rfl) (aK (mL (jD rfl) e) ?_))
  exact bZ rfl
noncomputable def TT (k:Nat) (s:Nat→Nat→Nat) (x y:Nat):Bool:=((List.range k).map fun i=>D.int ((s i y:Nat):Int)).any fun d=>gD d (.int (x:Int))
theorem YS {x y:Nat}:TT k s x y=true↔∃i,i < k∧s i y=x:=by
  unfold TT
  rw[List.any_map,List.any_eq_true]
  constructor
  · rintro⟨i,hi,e⟩
    have e:(((s i y:Nat):Int) ==(x:Int))=true:=e
    exact⟨i,List.mem_range.mp hi,by have:=eq_of_beq e;omega⟩
  · rintro⟨i,hi,e⟩
    refine⟨i,List.mem_range.mpr hi,?_⟩
    show (((s i y:Nat):Int) ==(x:Int))=true
    rw[e];exact beq_self_eq_true _
theorem aa5 (dj:h≤20) (w20:w≤20) (k20:k≤20):lX [jM h k s,.int (w:Int),.int (h:Int)]= .ok (tk (cP w h (TT k s))):=by
  rw[wQ]
  refine cI (aK (ρ':=[vA (jM h k s),vA (.int (w:Int)),vA (.int (h:Int)),vA (.lst ((List.range h).map fun y=> .lst ((List.range k).map fun i=> .int ((s i y:Nat):Int))))]) (bx ?_ rfl) (bZ ?_))
  · refine cC (l:=List.range h) (jF (aB rfl) (by omega)) (by rw[List.length_range];omega) fun y hy=>cN rfl ?_
    refine cC (l:=List.range k) (c:=fun i=>sm h (s i)) (jD rfl) (by rw[List.length_range];omega) fun i _=>cN rfl (au rfl rfl (j9 (List.mem_range.mp hy)))
  · refine cC (l:=List.range h) (c:=fun y=> .lst ((List.range k).map fun i=> .int ((s i y:Nat):Int))) (jD rfl) (by rw[List.length_range];omega) fun y hy=>cN rfl ?_
    refine cC (l:=List.range w) (jF (aB rfl) (by omega)) (by rw[List.length_range];omega) fun x _=>cN rfl (au rfl rfl ?_)
    show (if iZ (.int (x:Int))=true∧((List.range k).map fun i=>D.int ((s i y:Nat):Int)).all iZ=true then R.ok (D.bl (if false=true then _ else ((List.range k).map fun i=>D.int ((s i y:Nat):Int)).any fun d=>gD d (.int (x:Int)))) else .bad)=_
    rw[if_pos ⟨rfl,by rw[List.all_map,List.all_eq_true];exact fun _ _=>rfl⟩];rfl
theorem Ks {α:Type} {kf:D→R (Option D)} {c g:α→D} {P:α→Bool}:∀{l:List α},(∀a∈l,kf (c a)= .ok (if P a=true then some (g a) else none))→ig kf (l.map c)= .ok ((l.filter P).map g)
  |[],_=>rfl
  | a::l,q=>by
    rw[List.map_cons,ig,q a (by simp),zM,R.bK,Ks fun b hb=>q b (by simp[hb]),R.bK,List.filter_cons]
    cases P a <;> rfl
theorem qT {α:Type} {n:Nat} {caps:List Nat} {fi:aq→R (List D)} {gt:D→aq→R aq} {ft:aq→R Bool} {fe:aq→R D} {c g:α→D} {P:α→Bool} {l:List α} (e1:fi ρ= .ok (l.map c)) (hl:l.length≤1000000)
    (e2:∀a∈l,jP gt ft fe (uw n caps ρ) (c a)= .ok (if P a=true then some (g a) else none)):bB n caps fi gt ft fe ρ= .ok (.lst ((l.filter P).map g)):=by
  rw[bB,e1,R.bK,Ks e2,R.bK,cap,if_pos (by rw[List.length_map];exact Nat.le_trans (List.length_filter_le ..) hl)]
theorem wR {gt:D→aq→R aq} {ft:aq→R Bool} {fe:aq→R D} {x:D} {ρ1:aq} {b:Bool} {d:D} (e1:gt x ρ= .ok ρ1) (e2:ft ρ1= .ok b) (e3:fe ρ1= .ok d):jP gt ft fe ρ x= .ok (if b=true then some d else none):=by
  rw[jP,e1,R.bK,e2,R.bK,e3]
  cases b <;> rfl
theorem VB {m:Nat} (dj:h≤20) (w20:w≤20) (m20:m≤20) (hr:∀y < h,(Fl.pl (fun x=>T x y) w).length=m):gQ [tk (cP w h T),.int (m:Int)]= .ok (jM h m (Fl.sq w T)):=by
  rw[wQ]
  refine cI (aK (ρ':=[vA (.lst ((List.range h).map fun y=> .lst ((List.range w).map fun x=> .bl (T x y)))),vA (.int (m:Int)),vA (.lst ((List.range h).map fun y=> .lst ((Fl.pl (fun x=>T x y) w).map fun (x:Nat)=>D.int (x:Int))))]) (bx ?_ rfl) (bZ ?_))
  · refine cC (l:=List.range h) (c:=fun y=> .lst ((List.range w).map fun x=> .bl (T x y))) (jD rfl) (by rw[List.length_range];omega) fun y hy=>cN rfl ?_
    refine qT (l:=List.range w) (c:=fun (x:Nat)=>D.tup [.int (x:Int),.bl (T x y)]) (P:=fun x=>T x y) (mj (aB rfl) (n:=w) (p:=fun x=> .bl (T x y)) rfl) (by rw[List.length_range];omega) fun x _=>wR rfl (bw rfl) rfl
  · refine cC (l:=List.range m) (jF (aB rfl) (by omega)) (by rw[List.length_range];omega) fun i hi=>cN rfl (aY (aB (x:= .lst ((List.range h).map fun y=>D.int ((Fl.sq w T i y:Nat):Int))) ?_) rfl)
    refine cC (l:=List.range h) (c:=fun y=> .lst ((Fl.pl (fun x=>T x y) w).map fun (x:Nat)=>D.int (x:Int))) (jD rfl) (by rw[List.length_range];omega) fun y hy=>cN rfl (au rfl rfl (XM ?_))
    have hl:i < (Fl.pl (fun x=>T x y) w).length:=by rw[hr y (List.mem_range.mp hy)];exact List.mem_range.mp hi
    rw[List.getElem?_map,List.getElem?_eq_getElem hl]
    unfold Fl.sq
    rw[List.getD_eq_getElem?_getD,List.getElem?_eq_getElem hl];rfl
end
end iU
namespace iU
open PySem PySem.Spec L2 Pu
open Fl (inn out gH eG kZ fY)
section
variable {w h k:Nat} {C:Nat→Nat→Int} {T:Nat→Nat→Bool} {s:Nat→Nat→Nat} {ρ:aq}
theorem JW {a:Ar} (ha:a∈AD w h C T++AU w h k C s):gH w h k (fun x y=>C y x) T s a.1 a.2.1 a.2.2:=by
  rcases List.mem_append.mp ha with ha |ha
  · unfold AD at ha
    rcases List.mem_append.mp ha with ha |ha
    · obtain⟨x,hx,rfl⟩:=List.mem_map.mp ha
      exact .st (List.mem_range.mp hx)
    · obtain⟨y,hy,ha⟩:=List.mem_flatMap.mp ha
      obtain⟨x,hx,ha⟩:=List.mem_flatMap.mp ha
      have hy:=List.mem_range.mp hy
      have hx:=List.mem_range.mp hx
      unfold cA at ha
      rcases List.mem_append.mp ha with ha |ha
      · cases t:T x y with
        |true=>rw[t,if_pos rfl] at ha;cases ha
        | false=>
          rw[t,if_neg Bool.false_ne_true,List.mem_singleton] at ha
          subst ha
          exact .cl hx hy t
      · by_cases hy1:y+1 < h
        · rw[if_pos hy1] at ha
          obtain⟨p,hp,rfl⟩:=List.mem_map.mp ha
          obtain⟨h1,h2,h3⟩:=(Hh hx).mp hp
          exact .dn hx h1 hy1 h2 h3
        · rw[if_neg hy1,List.mem_singleton] at ha
          subst ha
          exact .en hx (by omega)
  · unfold AU at ha
    obtain⟨i,hi,ha⟩:=List.mem_flatMap.mp ha
    obtain⟨y,hy,ha⟩:=List.mem_flatMap.mp ha
    have hi:=List.mem_range.mp hi
    have hy:=List.mem_range.mp (List.mem_reverse.mp hy)
    unfold uA at ha
    rcases List.mem_cons.mp ha with ha |ha
    · subst ha
      unfold bn
      by_cases hy1:y+1 < h
      · rw[if_pos hy1];exact .up hi hy1
      · rw[if_neg hy1];exact .ue hi (by omega)
    · rw[List.mem_singleton] at ha
      subst ha
      exact .bk hi hy
theorem acB {u v:Nat} {c:Int} (a:gH w h k (fun x y=>C y x) T s u v c):(u,v,c)∈AD w h C T++AU w h k C s:=by
  have cell:∀{x y:Nat} {b:Ar},x < w→y < h→b∈cA w h C T y x→b∈AD w h C T++AU w h k C s:=fun {x y b} hx hy hb=>
    List.mem_append_left _ (List.mem_append_right _ (List.mem_flatMap.mpr ⟨y,List.mem_range.mpr hy,List.mem_flatMap.mpr ⟨x,List.mem_range.mpr hx,hb⟩⟩))
  have upw:∀{i y:Nat} {b:Ar},i < k→y < h→b∈uA w h C (s i) y→b∈AD w h C T++AU w h k C s:=fun {i y b} hi hy hb=>
    List.mem_append_right _ (List.mem_flatMap.mpr ⟨i,List.mem_range.mpr hi,List.mem_flatMap.mpr ⟨y,List.mem_reverse.mpr (List.mem_range.mpr hy),hb⟩⟩)
  cases a with
  | @st x hx=>exact List.mem_append_left _ (List.mem_append_left _ (List.mem_map.mpr ⟨x,List.mem_range.mpr hx,rfl⟩))
  | @cl x y hx hy t=>exact cell hx hy (List.mem_append_left _ (by rw[t,if_neg Bool.false_ne_true];exact List.mem_singleton.mpr rfl))
  | @dn x x' y hx hx' hy h1 h2=>exact cell hx (show y < h by omega) (List.mem_append_right _ (by rw[if_pos hy];exact List.mem_map.mpr ⟨x',(Hh hx).mpr ⟨hx',h1,h2⟩,rfl⟩))
  | @en x y hx hy=>exact cell hx (show y < h by omega) (List.mem_append_right _ (by rw[if_neg (by omega)];exact List.mem_singleton.mpr rfl))
  | @ue i y hi hy=>
    refine upw hi (show y < h by omega) (List.mem_cons.mpr (.inl ?_))
    unfold bn;rw[if_neg (by omega)]
  | @up i y hi hy=>
    refine upw hi (show y < h by omega) (List.mem_cons.mpr (.inl ?_))
    unfold bn;rw[if_pos hy]
  | @bk i y hi hy=>exact upw hi hy (List.mem_cons.mpr (.inr (List.mem_singleton.mpr rfl)))
end
section
variable {n:Nat} {ρ:aq} {far:Int} {q least:Nat→Int} {ahead:Nat→Nat} {A:List Ar}
noncomputable def LI (n:Nat) (f:Nat→Int):List D:=(List.range n).map fun v=>D.int (f v)
theorem YT {f:Nat→Int}:(LI n f).length=n:=by unfold LI;rw[List.length_map,List.length_range]
theorem YW {f:Nat→Int} {v:Nat} {a:Int}:(LI n f).set v (.int a)=LI n (Fl.upd f v a):=by
  unfold LI
  refine List.ext_getElem (by simp) fun i h1 h2=>?_
  rw[List.getElem_set,List.getElem_map,List.getElem_map,List.getElem_range]
  by_cases e:v=i
  · rw[if_pos e,e,Fl.lG]
  · rw[if_neg e,Fl.dR (Ne.symm e)]
theorem yu {f:Nat→Int} {v:Nat} (hv:v < n):bQ (.lst (LI n f)) (.int (v:Int))= .ok (.int (f v)):=oN (α:=Nat) hv
noncomputable def cst (a:Nat→Nat):Nat→Int:=fun v=>((a v:Nat):Int)
theorem acC {a:Nat→Nat} {v u:Nat}:Fl.upd (cst a) v (u:Int)=cst (Fl.upd a v u):=funext fun i=>by
  unfold cst
  by_cases e:i=v
  · rw[e,Fl.lG,Fl.lG]
  · rw[Fl.dR e,Fl.dR e]
theorem U4 {i:Nat} {fk fv:aq→R D} {ds:List D} {k:Nat} {d:D} (h:ρ[i]?=some (some (.lst ds))) (e1:fv ρ= .ok d) (e2:fk ρ= .ok (.int (k:Int))) (hk:k < ds.length):JD i fk fv ρ= .nx (ρ.set i (some (.lst (ds.set k d)))):=by
  unfold JD
  simp only[e1,zM,jc,h,e2]
  rw[if_pos ⟨by omega,by omega⟩,Int.toNat_natCast]
noncomputable def rE (A:List Ar) (n:Nat) (least:Nat→Int) (ahead:Nat→Nat) (ch:Bool) (e5 e6 e7:Option Ent):aq:=[vA (.lst (A.map fD)),vA (.int (n:Int)),some (.lst (LI n least)),some (.lst (LI n (cst ahead))),vA (.bl ch),e5,e6,e7]
theorem aed {u v:Nat} {c:Int} {ch:Bool} (hu:u < n) (hv:v < n):
    seB (rE A n least ahead ch (vA (.int (u:Int))) (vA (.int (v:Int))) (vA (.int c)))= .nx (if least u+c < least v then rE A n (Fl.upd least v (least u+c)) (Fl.upd ahead v u) true (vA (.int (u:Int))) (vA (.int (v:Int))) (vA (.int c)) else rE A n least ahead ch (vA (.int (u:Int))) (vA (.int (v:Int))) (vA (.int c))):=by
  have e:(bL (bin (bin (bin (fun ρ=>aj ρ 2) (fun ρ=>aj ρ 5) bQ) (fun ρ=>aj ρ 7) cT) (bin (fun ρ=>aj ρ 2) (fun ρ=>aj ρ 6) bQ) ltI)) (cG (rE A n least ahead ch (vA (.int (u:Int))) (vA (.int (v:Int))) (vA (.int c))))= .ok (decide (least u+c < least v)):=
    bw (au (x:= .int (least u+c)) (y:= .int (least v)) (au (au rfl rfl (yu hu)) rfl rfl) (au rfl rfl (yu hv)) rfl)
  by_cases hc:least u+c < least v
  · rw[if_pos hc]
    rw[decide_eq_true hc] at e
    refine jg e (aK (ρ':=[vA (.lst (A.map fD)),vA (.int (n:Int)),some (.lst (LI n (Fl.upd least v (least u+c)))),some (.lst (LI n (cst ahead))),vA (.bl ch),vA (.int (u:Int)),vA (.int (v:Int)),vA (.int c)]) ?_ (aK (ρ':=[vA (.lst (A.map fD)),vA (.int (n:Int)),some (.lst (LI n (Fl.upd least v (least u+c)))),some (.lst (LI n (cst (Fl.upd ahead v u)))),vA (.bl ch),vA (.int (u:Int)),vA (.int (v:Int)),vA (.int c)]) ?_ (bx rfl rfl)))
    · refine (U4 (ds:=LI n least) (k:=v) (d:= .int (least u+c)) rfl (au (x:= .int (least u)) (YM rfl rfl (yu hu)) rfl rfl) rfl (by rw[YT];exact hv)).trans ?_
      rw[YW];rfl
    · refine (U4 (ds:=LI n (cst ahead)) (k:=v) (d:= .int (u:Int)) rfl rfl rfl (by rw[YT];exact hv)).trans ?_
      rw[YW,acC];rfl
  · rw[if_neg hc]
    rw[decide_eq_false hc] at e
    exact cQ e rfl
noncomputable abbrev Rel (A:List Ar):Nat→Nat→Int→Prop:=fun u v c=>(u,v,c)∈A
theorem JX (hA:∀u v c,Rel A u v c→u < n∧v < n∧v≠0) (hf:∀u v c,Rel A u v c→q v≤q u+c):∀{l:List Ar} {least:Nat→Int} {ahead:Nat→Nat} {ch:Bool} {e5 e6 e7:Option Ent},(∀a∈l,a∈A)→kZ (Rel A) n far q least ahead→
    ∃ mU wU Dv e5' lM qR,forL (dG (dI 3 (bA (aG 5) (bA (aG 6) (bA (aG 7) nilG))))) seB (l.map fD) (rE A n least ahead ch e5 e6 e7)= .nx (rE A n mU wU Dv e5' lM qR)∧kZ (Rel A) n far q mU wU∧
      (Dv=false→ch=false∧mU=least∧wU=ahead∧∀a∈l,least a.2.1≤least a.1+a.2.2)∧Fl.sm n mU≤Fl.sm n least∧(Dv=true→ch=true∨Fl.sm n mU < Fl.sm n least)
  |[],least,ahead,ch,e5,e6,e7,_,S=>⟨least,ahead,ch,e5,e6,e7,rfl,S,fun e=>⟨e,rfl,rfl,fun _ h=>by cases h⟩,Int.le_refl _,fun e=> .inl e⟩
  | (u, v,c)::l,least,ahead,ch,e5,e6,e7,hl,S=>by
    have ha:Rel A u v c:=hl _ (List.mem_cons_self ..)
    obtain⟨hu,hv,v0⟩:=hA u v c ha
    have hl':∀a∈l,a∈A:=fun a h=>hl a (List.mem_cons_of_mem _ h)
    have step:=aed (A:=A) (n:=n) (least:=least) (ahead:=ahead) (ch:=ch) (c:=c) hu hv
    by_cases hc:least u+c < least v
    · rw[if_pos hc] at step
      obtain⟨l',a',c',x5,x6,x7,e,S',h1,h2,h3⟩:=JX hA hf (l:=l) (ch:=true) (e5:=vA (.int (u:Int))) (e6:=vA (.int (v:Int))) (e7:=vA (.int c)) hl' (S.step hA hf ha hc)
      have hsm:=Fl.adU (f:=least) (a:=least u+c) hv
      refine⟨l',a',c',x5,x6,x7,?_,S',fun z=>?_,by omega,fun z=> .inr (by omega)⟩
      · rw[List.map_cons];exact gG rfl step e
      · exact absurd (h1 z).1 (by decide)
    · rw[if_neg hc] at step
      obtain⟨l',a',c',x5,x6,x7,e,S',h1,h2,h3⟩:=JX hA hf (l:=l) (ch:=ch) (e5:=vA (.int (u:Int))) (e6:=vA (.int (v:Int))) (e7:=vA (.int c)) hl' S
      refine⟨l',a',c',x5,x6,x7,?_,S',fun z=>?_,h2,h3⟩
      · rw[List.map_cons];exact gG rfl step e
      · obtain⟨z1,z2,z3,z4⟩:=h1 z
        refine⟨z1,z2,z3,fun a h=>?_⟩
        rcases List.mem_cons.mp h with h |h
        · rw[h];show least v≤least u+c;omega
        · exact z4 a h
theorem abJ (hA:∀u v c,Rel A u v c→u < n∧v < n∧v≠0) (hf:∀u v c,Rel A u v c→q v≤q u+c):∀{N:Nat} {least:Nat→Int} {ahead:Nat→Nat} {e5 e6 e7:Option Ent},kZ (Rel A) n far q least ahead→Fl.sm n least - Fl.sm n q+2≤N→
    ∃mU wU e5' lM qR,gO (bL (fun ρ=>aj ρ 4)) Kp N (rE A n least ahead true e5 e6 e7)= .nx (rE A n mU wU false e5' lM qR)∧kZ (Rel A) n far q mU wU∧∀u v c,Rel A u v c→mU v≤mU u+c
  | 0,least,ahead,e5,e6,e7,S,hN=>by
    have:=Fl.gP S.lo
    have hN:Fl.sm n least - Fl.sm n q+2≤0:=hN
    omega
  | N + 1,least,ahead,e5,e6,e7,S,hN=>by
    have hlo:=Fl.gP S.lo
    obtain⟨l',a',c',x5,x6,x7,e,S',h1,h2,h3⟩:=JX (far:=far) hA hf (l:=A) (ch:=false) (e5:=e5) (e6:=e6) (e7:=e7) (fun _ h=>h) S
    have body:Kp (rE A n least ahead true e5 e6 e7)= .nx (rE A n l' a' c' x5 x6 x7):=
      aK (ρ':=rE A n least ahead false e5 e6 e7) (bx rfl rfl) (mL (jD rfl) e)
    have hw:gO (bL (fun ρ=>aj ρ 4)) Kp (N+1) (rE A n least ahead true e5 e6 e7)=gO (bL (fun ρ=>aj ρ 4)) Kp N (rE A n l' a' c' x5 x6 x7):=by
      rw[gO,show (bL (fun ρ=>aj ρ 4)) (cG (rE A n least ahead true e5 e6 e7))= .ok true from rfl]
      show (match Kp (rE A n least ahead true e5 e6 e7) with
        | .nx ρ'=>gO (bL (fun ρ=>aj ρ 4)) Kp N ρ'
        | .ct ρ'=>gO (bL (fun ρ=>aj ρ 4)) Kp N ρ'
        | .bk ρ'=> .nx ρ'
        |o=>o)=_
      rw[body]
    rw[hw]
    cases c' with
    | false=>
      obtain⟨_,z2,z3,z4⟩:=h1 rfl
      have hlo':=Fl.gP S'.lo
      cases N with
      |zero=>have hN:Fl.sm n least - Fl.sm n q+2≤1:=hN;omega
      | succ N=>
        refine⟨l',a',x5,x6,x7,?_,S',fun u v c ha=>?_⟩
        · rw[gO,show (bL (fun ρ=>aj ρ 4)) (cG (rE A n l' a' false x5 x6 x7))= .ok false from rfl]
        · rw[z2];exact z4 _ ha
    | true=>
      have hlt:=(h3 rfl).resolve_left (by decide)
      exact abJ hA hf S' (by have hN:Fl.sm n least - Fl.sm n q+2≤(N:Int)+1:=hN;omega)
theorem yw {b:D}:∀m:Nat,(List.replicate m [b]).flatten=List.replicate m b
  |0=>rfl
  |m+1=>by rw[List.replicate_succ,List.flatten_cons,yw m];rfl
theorem aa6 {m:Nat} {b:Int}:[D.int 0]++(List.replicate m [D.int b]).flatten=LI (m+1) fun v=>if v=0 then 0 else b:=by
  rw[yw]
  unfold LI
  refine List.ext_getElem (by simp) fun i h1 h2=>?_
  rw[List.getElem_map,List.getElem_range]
  cases i with
  |zero=>rfl
  |succ i=>simp
theorem acD {m:Nat}:(List.replicate m [D.int 0]).flatten=LI m (cst fun _=>0):=by
  rw[yw]
  unfold LI
  refine List.ext_getElem (by simp) fun i h1 h2=>?_
  simp[cst]
theorem Rb (hn:2≤n) (hn2:n≤900) (hA:∀u v c,Rel A u v c→u < n∧v < n∧v≠0) (hf:∀u v c,Rel A u v c→q v≤q u+c) (q0:q 0≤0) (hq0:∀v,v < n→0≤q v) (hq:∀v,v < n→q v≤1000000):
    ∃least ahead,lW [.lst (A.map fD),.int (n:Int)]= .ok (.tup [.lst (LI n least),.lst (LI n (cst ahead))])∧kZ (Rel A) n 1000000 q least ahead∧∀u v c,Rel A u v c→least v≤least u+c:=by
  have S0:kZ (Rel A) n 1000000 q (fun v=>if v=0 then 0 else 1000000) (fun _=>0):=kZ.first q0 hq (by decide)
  have hs1:Fl.sm n (fun v=>if v=0 then 0 else (1000000:Int))≤n*1000000:=by
    rw[←Fl.jQ (a:=1000000) n];exact Fl.gP fun v hv=>S0.hi v hv
  have hs2:=Fl.lF hq0
  obtain⟨l',a',x5,x6,x7,e,S',ex⟩:=abJ hA hf (N:=1000000000) (e5:=none) (e6:=none) (e7:=none) S0 (by omega)
  refine⟨l',a',?_,S',ex⟩
  obtain⟨m,rfl⟩:∃m,n=m+1:=⟨n - 1,by omega⟩
  refine cI (aK (ρ':=[vA (.lst (A.map fD)),vA (.int ((m+1:Nat):Int)),some (.lst (LI (m+1) fun v=>if v=0 then 0 else 1000000)),none,none,none,none,none]) ?_ (aK (ρ':=[vA (.lst (A.map fD)),vA (.int ((m+1:Nat):Int)),some (.lst (LI (m+1) fun v=>if v=0 then 0 else 1000000)),some (.lst (LI (m+1) (cst fun _=>0))),none,none,none,none]) ?_ (aK (bx rfl rfl) (aK e (bZ (lD (aF rfl (aB rfl))))))))
  · rw[←aa6]
    refine Nx (au (jf (aB rfl)) (au (x:= .lst [.int 1000000]) (y:= .int (m:Int)) (jf (aB rfl)) (au rfl rfl ?_) (r:= .ok (.lst (List.replicate m [D.int 1000000]).flatten)) ?_) ?_)
    · show R.ok (D.int (((m+1:Nat):Int) - 1))=_
      rw[show ((m+1:Nat):Int) - 1=(m:Int) by omega]
    · show (if [D.int 1000000]≠[]∧1≤(m:Int)∧(m:Int) < 2 ^ 63∧[D.int 1000000].length*(m:Int).toNat≤1000000 then R.ok (D.lst (List.replicate (m:Int).toNat [D.int 1000000]).flatten) else .bad)=_
      rw[if_pos ⟨by simp,by omega,by omega,by rw[Int.toNat_natCast];show 1*m≤_;omega⟩,Int.toNat_natCast]
    · show (if [D.int 0].length+((List.replicate m [D.int 1000000]).flatten).length≤1000000 then R.ok _ else .bad)=_
      rw[if_pos (by rw[yw,List.length_replicate];show 1+m≤_;omega)]
  · rw[←acD]
    refine Nx (au (x:= .lst [.int 0]) (y:= .int ((m+1:Nat):Int)) (jf (aB rfl)) rfl ?_)
    show (if [D.int 0]≠[]∧1≤((m+1:Nat):Int)∧((m+1:Nat):Int) < 2 ^ 63∧[D.int 0].length*((m+1:Nat):Int).toNat≤1000000 then R.ok (D.lst (List.replicate ((m+1:Nat):Int).toNat [D.int 0]).flatten) else .bad)=_
    rw[if_pos ⟨by simp,by omega,by omega,by rw[Int.toNat_natCast];show 1*(m+1)≤_;omega⟩,Int.toNat_natCast]
end
end iU
namespace iU
open PySem PySem.Spec L2 Pu
open Fl (inn out gH eG kZ fY jL vis fU sS)
theorem U5 {ahead:Nat→Nat} {n:Nat} {G:Nat→Prop} (hG:∀v,G v→v≠0→G (ahead v)) (hn:∀v,G v→v < n):∀{d v:Nat},jL ahead d v→G v→Fl.sm n (fun w=>if vis ahead d v w=true then 1 else 0)=d
  |0,_,_,_=>Fl.nj fun i _=>if_neg Bool.false_ne_true
  | d + 1,v,c,g=>by
    have ih:=U5 hG hn c.2 (hG v g c.1)
    have nv:=Fl.JN c
    have e1:Fl.sm n (fun w=>if vis ahead (d+1) v w=true then (1:Int) else 0)=Fl.sm n (fun w=>if vis ahead d (ahead v) w=true then 1 else 0)+1:=by
      refine Eq.trans ?_ (congrArg (fun z=>_+z) (Fl.oJ (a:=1) (hn v g)))
      rw[←Fl.j7]
      refine Fl.bR fun i _=>?_
      show (if (i ==v || vis ahead d (ahead v) i)=true then (1:Int) else 0)=_
      by_cases z:i=v
      · subst z
        rw[nv,if_pos (by simp),if_pos rfl,if_neg Bool.false_ne_true];omega
      · have:(i ==v)=false:=by simpa using z
        rw[this,Bool.false_or,if_neg z];omega
    rw[e1,ih];rfl
theorem aee {ahead:Nat→Nat} {n:Nat} {G:Nat→Prop} (hG:∀v,G v→v≠0→G (ahead v)) (hn:∀v,G v→v < n) {d v:Nat} (c:jL ahead d v) (g:G v):d≤n:=by
  have h1:=U5 hG hn c g
  have h2:Fl.sm n (fun w=>if vis ahead d v w=true then (1:Int) else 0)≤Fl.sm n fun _=>1:=Fl.gP fun i _=>by split <;> decide
  rw[Fl.jQ n,h1] at h2
  omega
section
variable {w h k n:Nat} {C:Nat→Nat→Int} {T:Nat→Nat→Bool} {s:Nat→Nat→Nat} {ahead:Nat→Nat} {ρ:aq}
theorem tu {f:aq→R D} {i:Nat} {a:Int} (e:f ρ= .ok (.int a)):xZ f i ρ= .nx (ρ.set i (some (.val (.int a)))):=by unfold xZ;rw[e]
theorem acE {f g:aq→R D} {i j:Nat} {a b:Int} (e1:f ρ= .ok (.int a)) (e2:g ρ= .ok (.int b)):M8 i j f g ρ= .nx ((ρ.set i (some (.val (.int a)))).set j (some (.val (.int b)))):=by unfold M8;rw[e1,e2]
theorem acF {p:aq→R Bool} {g k:aq→So} {o:So} (e:p ρ= .ok true) (e2:g ρ=o):M9 p g k ρ=o:=by unfold M9;rw[e];exact e2
theorem acG {p:aq→R Bool} {g k:aq→So} {o:So} (e:p ρ= .ok false) (e2:k ρ=o):M9 p g k ρ=o:=by unfold M9;rw[e];exact e2
theorem div2 {a:Nat}:eX (.int (a:Int)) (.int 2)= .ok (.int ((a / 2:Nat):Int)):=by rw[lE ⟨by decide,by decide⟩];rfl
theorem aa7 {x y:Nat} (hx:x < w) (hy:y < h):(D.lst (((List.range h).map fun y=>D.lst ((List.range w).map fun x=> .bl (T x y))).set y (.lst (((List.range w).map fun x=>D.bl (T x y)).set x (.bl (!T x y))))))=tk (cP w h (sS T x y)):=by
  rw[wQ]
  refine congrArg D.lst (List.ext_getElem (by simp) fun i h1 h2=>?_)
  rw[List.getElem_set,List.getElem_map,List.getElem_map,List.getElem_range]
  by_cases e:y=i
  · rw[if_pos e]
    subst e
    refine congrArg D.lst (List.ext_getElem (by simp) fun j h3 h4=>?_)
    rw[List.getElem_set,List.getElem_map,List.getElem_map,List.getElem_range]
    by_cases e2:x=j
    · rw[if_pos e2,←e2,Fl.Yw]
    · rw[if_neg e2,Fl.rR (fun z=>e2 z.1.symm)]
  · rw[if_neg e]
    refine congrArg D.lst (List.map_congr_left fun j _=>?_)
    rw[Fl.rR (fun z=>e z.2.symm)]
noncomputable def wV (w h n:Nat) (ahead:Nat→Nat) (T:Nat→Nat→Bool) (v:Nat) (e4 e5 e6 e7:Option Ent):aq:=[vA (tk (cP w h T)),vA (.lst (LI n (cst ahead))),vA (.int (w:Int)),vA (.int (v:Int)),e4,e5,e6,e7]
theorem acH {x y:Nat} (hx:x < w) (hy:y < h) {e1 e2 e3 e4 e5:Option Ent}:
    G6 6 7 (Jo (bin (bin (fun ρ=>aj ρ 0) (fun ρ=>aj ρ 6) bQ) (fun ρ=>aj ρ 7) bQ)) [vA (tk (cP w h T)),e1,e2,e3,e4,e5,vA (.int (y:Int)),vA (.int (x:Int))] =
      .nx [vA (tk (cP w h (sS T x y))),e1,e2,e3,e4,e5,vA (.int (y:Int)),vA (.int (x:Int))]:=by
  have e:(bin (bin (fun ρ=>aj ρ 0) (fun ρ=>aj ρ 6) bQ) (fun ρ=>aj ρ 7) bQ) [vA (tk (cP w h T)),e1,e2,e3,e4,e5,vA (.int (y:Int)),vA (.int (x:Int))]= .ok (.bl (T x y)):=
    au (au rfl rfl (Vy hy)) rfl (oN (α:=Nat) (p:=fun x=>D.bl (T x y)) hx)
  unfold G6
  have e0:Jo (bin (bin (fun ρ=>aj ρ 0) (fun ρ=>aj ρ 6) bQ) (fun ρ=>aj ρ 7) bQ) [vA (tk (cP w h T)),e1,e2,e3,e4,e5,vA (.int (y:Int)),vA (.int (x:Int))]= .ok (.bl (!T x y)):=by
    rw[Jo,e];rfl
  have e9:aj [vA (tk (cP w h T)),e1,e2,e3,e4,e5,vA (.int (y:Int)),vA (.int (x:Int))] 0= .ok (.lst ((List.range h).map fun y=> .lst ((List.range w).map fun x=> .bl (T x y)))):=by
    show R.ok (tk (cP w h T))=_
    rw[wQ]
  have e6:aj [vA (tk (cP w h T)),e1,e2,e3,e4,e5,vA (.int (y:Int)),vA (.int (x:Int))] 6= .ok (.int (y:Int)):=rfl
  have e7:aj [vA (tk (cP w h T)),e1,e2,e3,e4,e5,vA (.int (y:Int)),vA (.int (x:Int))] 7= .ok (.int (x:Int)):=rfl
  simp only[e0,e9,e6,e7,Int.toNat_natCast]
  rw[show ((List.range h).map fun y=>D.lst ((List.range w).map fun x=>D.bl (T x y)))[y]?=some (.lst ((List.range w).map fun x=>D.bl (T x y))) by rw[List.getElem?_map,List.getElem?_range hy];rfl]
  show (if 0≤(y:Int)∧0≤(x:Int)∧(x:Int) < (((List.range w).map fun x=>D.bl (T x y)).length:Nat) then So.nx _ else .bad)=_
  rw[if_pos ⟨by omega,by omega,by rw[List.length_map,List.length_range];omega⟩,aa7 hx hy]
  rfl
theorem aef {v:Nat} (hv:v < n) (hw:0 < w) (w20:w≤20) (hc:ahead v / 2=v / 2→∃x y,x < w∧y < h∧v / 2=y*w+x+1) {e4 e5 e6 e7:Option Ent}:
    ∃e4' e5' lM qR,YD (wV w h n ahead T v e4 e5 e6 e7)= .nx (wV w h n ahead (if ahead v / 2=v / 2 then sS T ((v / 2 - 1) % w) ((v / 2 - 1) / w) else T) (ahead v) e4' e5' lM qR):=by
  have e0:(bin (fun ρ=>aj ρ 1) (fun ρ=>aj ρ 3) bQ) (wV w h n ahead T v e4 e5 e6 e7)= .ok (.int ((ahead v:Nat):Int)):=au rfl rfl (yu hv)
  have et:(bL (bin (bin (fun ρ=>aj ρ 4) (fun _=> .ok (.int 2)) eX) (bin (fun ρ=>aj ρ 3) (fun _=> .ok (.int 2)) eX) wC)) (wV w h n ahead T v (vA (.int ((ahead v:Nat):Int))) e5 e6 e7)= .ok (decide (ahead v / 2=v / 2)):=by
    refine bw (au (au rfl rfl div2) (au rfl rfl div2) ?_)
    rw[acp,show (decide (((ahead v / 2:Nat):Int)=((v / 2:Nat):Int)))=decide (ahead v / 2=v / 2) from decide_eq_decide.mpr ⟨fun z=>by omega,fun z=>by omega⟩]
  by_cases hh:ahead v / 2=v / 2
  · obtain⟨x,y,hx,hy,ev⟩:=hc hh
    have ec:v / 2 - 1=y*w+x:=by omega
    rw[if_pos hh,ec,Fl.wJ hx,Fl.wK hx]
    rw[decide_eq_true hh] at et
    refine⟨vA (.int ((ahead v:Nat):Int)),vA (.int ((y*w+x:Nat):Int)),vA (.int (y:Int)),vA (.int (x:Int)),?_⟩
    refine aK (tu e0) (aK (ρ':=wV w h n ahead (sS T x y) v (vA (.int ((ahead v:Nat):Int))) (vA (.int ((y*w+x:Nat):Int))) (vA (.int (y:Int))) (vA (.int (x:Int)))) (acF et ?_) (tu rfl))
    refine aK (ρ':=wV w h n ahead T v (vA (.int ((ahead v:Nat):Int))) (vA (.int ((y*w+x:Nat):Int))) e6 e7) (tu ?_) (aK (ρ':=wV w h n ahead T v (vA (.int ((ahead v:Nat):Int))) (vA (.int ((y*w+x:Nat):Int))) (vA (.int (y:Int))) (vA (.int (x:Int)))) (acE ?_ ?_) (acH hx hy))
    · refine au (au rfl rfl div2) rfl ?_
      show R.ok (D.int (((v / 2:Nat):Int) - 1))=_
      rw[ev]
      exact congrArg (fun z=>R.ok (D.int z)) (by omega)
    · refine au rfl rfl ?_
      show eX (.int ((y*w+x:Nat):Int)) (.int (w:Int))=_
      rw[lE ⟨by omega,by omega⟩]
      exact congrArg (fun z=>R.ok (D.int z)) (by rw[←Int.natCast_ediv,Fl.wK hx])
    · refine au rfl rfl ?_
      show fV (.int ((y*w+x:Nat):Int)) (.int (w:Int))=_
      rw[mK (by omega)]
      exact congrArg (fun z=>R.ok (D.int z)) (by rw[←Int.natCast_emod,Fl.wJ hx])
  · rw[if_neg hh]
    rw[decide_eq_false hh] at et
    exact⟨vA (.int ((ahead v:Nat):Int)),e5,e6,e7,aK (tu e0) (aK (acG et rfl) (tu rfl))⟩
theorem U6 {G:Nat→Prop} (hw:0 < w) (w20:w≤20) (hG:∀v,G v→v≠0→G (ahead v)) (hn:∀v,G v→v < n) (hc:∀v,G v→v≠0→ahead v / 2=v / 2→∃x y,x < w∧y < h∧v / 2=y*w+x+1):
    ∀ {d N v:Nat} {T:Nat→Nat→Bool} {e4 e5 e6 e7:Option Ent},jL ahead d v→G v→d < N→
      ∃e4' e5' lM qR,Ds (bL (bin (fun ρ=>aj ρ 3) (fun _=> .ok (.int 0)) fX)) YD N (wV w h n ahead T v e4 e5 e6 e7)= .nx (wV w h n ahead (fU w ahead d v T) 0 e4' e5' lM qR)
  |_,0,_,_,_,_,_,_,_,_,hN=>absurd hN (Nat.not_lt_zero _)
  | 0,N+1,v,T,e4,e5,e6,e7,ch,g,hN=>by
    have ch:v=0:=ch
    subst ch
    refine⟨e4,e5,e6,e7,?_⟩
    rw[Ds,show (bL (bin (fun ρ=>aj ρ 3) (fun _=> .ok (.int 0)) fX)) (wV w h n ahead T 0 e4 e5 e6 e7)= .ok false from bw (au (x:= .int 0) rfl rfl (pZ rfl))]
    rfl
  | d +1,N+1,v,T,e4,e5,e6,e7,ch,g,hN=>by
    obtain⟨v0,Dv⟩:=ch
    obtain⟨x4,x5,x6,x7,eb⟩:=aef (T:=T) (h:=h) (hn v g) hw w20 (hc v g v0) (e4:=e4) (e5:=e5) (e6:=e6) (e7:=e7)
    obtain⟨y4,y5,y6,y7,e⟩:=U6 hw w20 hG hn hc (d:=d) (N:=N) (v:=ahead v) (T:=if ahead v / 2=v / 2 then sS T ((v / 2 - 1) % w) ((v / 2 - 1) / w) else T) (e4:=x4) (e5:=x5) (e6:=x6) (e7:=x7) Dv (hG v g v0) (by omega)
    refine⟨y4,y5,y6,y7,?_⟩
    rw[Ds,show (bL (bin (fun ρ=>aj ρ 3) (fun _=> .ok (.int 0)) fX)) (wV w h n ahead T v e4 e5 e6 e7)= .ok true from bw (au (x:= .int (v:Int)) rfl rfl (by rw[abI];congr 2;simp;omega))]
    show (match YD (wV w h n ahead T v e4 e5 e6 e7) with
      | .nx ρ'=>Ds (bL (bin (fun ρ=>aj ρ 3) (fun _=> .ok (.int 0)) fX)) YD N ρ'
      |_=> .bad)=_
    rw[eb];exact e
theorem abK {f:Nat→Int}:D.lst (LI n f)=il ((List.range n).map f):=by unfold LI il;rw[List.map_map];rfl
theorem aeg {G:Nat→Prop} {d:Nat} (hw:0 < w) (hh:0 < h) (w20:w≤20) (n2:2≤n) (n9:n≤900) (hG:∀v,G v→v≠0→G (ahead v)) (hn:∀v,G v→v < n) (hc:∀v,G v→v≠0→ahead v / 2=v / 2→∃x y,x < w∧y < h∧v / 2=y*w+x+1) (ch:jL ahead d 1) (g:G 1):
    Yv dW 6 (tk (cP w h T)) (.lst (LI n (cst ahead)))=some (tk (cP w h (fU w ahead d 1 T))):=by
  have hd:=aee hG hn ch g
  obtain⟨e4,e5,e6,e7,e⟩:=U6 (h:=h) hw w20 hG hn hc (d:=d) (N:=1000) (v:=1) (T:=T) (e4:=none) (e5:=none) (e6:=none) (e7:=none) ch g (by omega)
  have eg:dW (some (.val (tk (cP w h T)))::some (.val (.lst (LI n (cst ahead))))::List.replicate 6 none)= .nx (wV w h n ahead (fU w ahead d 1 T) 0 e4 e5 e6 e7):=by
    refine aK (ρ':=[vA (tk (cP w h T)),vA (.lst (LI n (cst ahead))),vA (.int (w:Int)),none,none,none,none,none]) (tu (aY (aB (au (y:= .int ((0:Nat):Int)) rfl rfl (Vy hh))) ?_)) (aK (tu rfl) e)
    simp[cB]
  have hz:(List.range n).map (cst ahead)≠[]∧∀row∈cP w h T,row≠[]:=by
    refine⟨fun z=>?_,fun row hr z=>?_⟩
    · have:=congrArg List.length z
      rw[List.length_map,List.length_range] at this
      simp at this;omega
    · unfold cP at hr
      obtain⟨y,_,rfl⟩:=List.mem_map.mp hr
      have:=congrArg List.length z
      rw[List.length_map,List.length_range] at this
      simp at this;omega
  rw[abK] at eg ⊢
  unfold Yv
  rw[JK,Uo]
  simp only
  rw[if_pos hz,eg]
  show (if (JG (tk (cP w h (fU w ahead d 1 T)))).isSome=true then some (tk (cP w h (fU w ahead d 1 T))) else none)=_
  rw[JK];rfl
end
end iU
namespace Fl
section
variable {W H k:Nat} {c:Nat→Nat→Int} {T T':Nat→Nat→Bool} {s:Nat→Nat→Nat} {p:Nat→Int}
theorem eG.congr (e:∀x y,x < W→y < H→T' x y=T x y) (S:eG W H k T s):eG W H k T' s:=⟨S.lt,S.Yc,S.nr,fun x y hx hy=>by rw[e x y hx hy];exact S.tk x y hx hy⟩
theorem gH.congr (e:∀x y,x < W→y < H→T' x y=T x y) {u v:Nat} {w:Int} (a:gH W H k c T' s u v w):gH W H k c T s u v w:=by
  cases a with
  |st hx=>exact .st hx
  |cl hx hy t=>exact .cl hx hy (by rw[←e _ _ hx hy];exact t)
  |dn hx hx' hy h1 h2=>exact .dn hx hx' hy h1 h2
  |en hx hy=>exact .en hx hy
  |ue hi hy=>exact .ue hi hy
  |up hi hy=>exact .up hi hy
  |bk hi hy=>exact .bk hi hy
theorem fY.congr (e:∀x y,x < W→y < H→T' x y=T x y) (P:fY W H k c T s p):fY W H k c T' s p:=⟨P.z,P.nn,fun u v w a=>P.ar u v w (a.congr e)⟩
end
theorem kZ.weak {A B:Nat→Nat→Int→Prop} {n:Nat} {far:Int} {q least:Nat→Int} {ahead:Nat→Nat} (h:∀u v c,A u v c→B u v c) (S:kZ A n far q least ahead):kZ B n far q least ahead:=
  ⟨S.z,S.lo,S.hi,fun v hv h0 hl=>let ⟨c,a,l⟩:=S.ar v hv h0 hl;⟨c,h _ _ _ a,l⟩,S.ch⟩
end Fl
namespace iU
open PySem PySem.Spec L2 Pu
open Fl (inn out gH eG kZ fY jL vis fU sS)
section
variable {w h k m:Nat} {C:Nat→Nat→Int} {s:Nat→Nat→Nat} {p:Nat→Int} {ρ:aq}
theorem acI {iT iA iL iH iS n m:Nat} {f1:aq→R (List D)} {F1:List D→R D} {f2 f3 f5:aq→R D} {gC:aq→So} {ds:List D} {dT dA dL dH Km dS:D} {z:Int} {zs:List Int}
    (e1:f1 ρ= .ok ds) (hl:ds.length=n) (e2:F1 ds= .ok dT) (e3:f2 (ρ.set iT (some (.val dT)))= .ok dA) (e4:f3 ((ρ.set iT (some (.val dT))).set iA (some (.val dA)))= .ok (.tup [dL,dH])) (e5:Yv gC m dT dH=some Km) (e6:JH dL=some (z::zs))
    (e7:f5 ((((ρ.set iT (some (.val Km))).set iA none).set iL (some (.val dL))).set iH none)= .ok dS):
    G8 iT iA iL iH iS f1 n F1 f2 f3 gC m f5 ρ= .nx (((((ρ.set iT (some (.val Km))).set iA none).set iL (some (.val dL))).set iH none).set iS (some (.val dS))):=by
  unfold G8
  rw[e1,R.bK,if_pos hl,e2]
  simp only[e3,e4,e5,e6,e7]
noncomputable def nn (w h:Nat):Nat:=2*(w*h+1)
structure Al (w h:Nat) (C:Nat→Nat→Int) (k:Nat) (s:Nat→Nat→Nat) (p:Nat→Int):Prop where
  sm:eG w h k (TT k s) s
  po:fY w h k (fun x y=>C y x) (TT k s) s p
noncomputable def YX (w h:Nat) (C:Nat→Nat→Int) (m k:Nat) (s:Nat→Nat→Nat) (e5 e6 e7 e8:Option Ent):aq:=[vA (bY w h C),vA (.int (m:Int)),vA (.int (w:Int)),vA (.int (h:Int)),vA (jM h k s),e5,e6,e7,e8]
theorem aeh:(AD w h C (TT k s)).length≤w+4*w*h:=by
  unfold AD
  rw[List.length_append,List.length_map,List.length_range]
  have:=jx (f:=fun y=>(List.range w).flatMap (cA w h C (TT k s) y)) (m:=4*w) (l:=List.range h) fun y _=>by
    have:=jx (f:=cA w h C (TT k s) y) (m:=4) (l:=List.range w) fun _ _=>Nu
    rw[List.length_range] at this;exact this
  rw[List.length_range] at this
  omega
theorem aei:(AU w h k C s).length≤2*h*k:=by
  unfold AU
  have:=jx (f:=fun i=>(List.range h).reverse.flatMap (uA w h C (s i))) (m:=2*h) (l:=List.range k) fun i _=>by
    have:=jx (f:=uA w h C (s i)) (m:=2) (l:=(List.range h).reverse) fun _ _=>Nat.le_refl _
    rw[List.length_reverse,List.length_range] at this;exact this
  rw[List.length_range] at this;exact this
theorem Am {a b c d:Nat} (h1:a≤c) (h2:b≤d):a*b≤c*d:=Nat.mul_le_mul h1 h2
theorem acJ (hw:1≤w) (hh:1≤h) (w20:w≤20) (dj:h≤20) (hk:k < w) (hc:∀x y,x < w→y < h→0≤C y x) (hC:3*(Fl.sm h fun y=>Fl.sm w fun x=>C y x) < 1000000) (I:Al w h C k s p) {e5 e6 e7 e8:Option Ent}:
    ∃s' p' lM qR Hi,flB (YX w h C m k s e5 e6 e7 e8)= .nx (YX w h C m (k+1) s' (vA (.lst (LI (nn w h) p'))) lM qR Hi)∧Al w h C (k+1) s' p':=by
  obtain⟨S,Q⟩:=I
  have hwh:w*h≤20*20:=Am w20 dj
  have hwp:0 < w*h:=Nat.mul_pos hw hh
  have hA:∀u v c,Rel (AD w h C (TT k s)++AU w h k C s) u v c→u < nn w h∧v < nn w h∧v≠0:=fun u v c a=>(JW a).nodes S hw hh
  have hf:∀u v c,Rel (AD w h C (TT k s)++AU w h k C s) u v c→p v≤p u+c:=fun u v c a=>Q.ar _ _ _ (JW a)
  have hc':∀x y,x < w→y < h→0≤(fun x y=>C y x) x y:=hc
  have hS0:0≤Fl.sm h fun y=>Fl.sm w fun x=>C y x:=Fl.lF fun y hy=>Fl.lF fun x hx=>hc x y hx hy
  obtain⟨p',ah,eS,Sc,ex⟩:=Rb (n:=nn w h) (A:=AD w h C (TT k s)++AU w h k C s) (q:=p) (by unfold nn;omega) (by unfold nn;omega) hA hf (by rw[Q.z];exact Int.le_refl _) Q.nn (fun v hv=>by
    have:=Q.le hw hh S hc' hk hv
    have hC':3*(Fl.sm h fun y=>Fl.sm w fun x=>(fun x y=>C y x) x y) < 1000000:=hC
    have afd:0≤(Fl.sm h fun y=>Fl.sm w fun x=>(fun x y=>C y x) x y):=hS0
    omega)
  obtain⟨P,d,G,ch,g1,hG⟩:=Fl.searched hw hh S Q hc' hk hC (Sc.weak fun u v c a=>JW a) fun u v c a=>ex u v c (acB a)
  obtain⟨B,P'⟩:=Fl.augment hw hh S P hG ch g1
  have S':=B.sms hh
  have et:∀x y,x < w→y < h→TT (k+1) (Fl.sq w (fU w ah d 1 (TT k s))) x y=fU w ah d 1 (TT k s) x y:=fun x y hx hy=>by
    have:=(S'.tk x y hx hy)
    cases e1:fU w ah d 1 (TT k s) x y with
    |true=>exact YS.mpr (this.mp e1)
    | false=>
      cases e2:TT (k+1) (Fl.sq w (fU w ah d 1 (TT k s))) x y with
      |false=>rfl
      |true=>rw[this.mpr (YS.mp e2)] at e1;cases e1
  have G2:∀v,G v∧v < nn w h→v≠0→G (ah v)∧ah v < nn w h:=fun v g v0=>by
    obtain⟨g',c,a,_⟩:=hG v g.1 v0
    exact⟨g',(a.nodes S hw hh).1⟩
  have eC:=aeg (T:=TT k s) (n:=nn w h) (G:=fun v=>G v∧v < nn w h) hw hh w20 (by unfold nn;omega) (by unfold nn;omega) G2 (fun v g=>g.2) (fun v g v0 e=>by
    obtain⟨_,c,a,_⟩:=hG v g.1 v0
    obtain⟨x,y,hx,hy,hcl⟩:=a.cell S e
    refine⟨x,y,hx,hy,?_⟩
    rcases hcl with⟨_,z,_⟩ |⟨_,z,_⟩
    · rw[z,Fl.iR]
    · rw[z,Fl.jw]) ch ⟨g1,by unfold nn;omega⟩
  refine⟨Fl.sq w (fU w ah d 1 (TT k s)),p',vA (tk (cP w h (fU w ah d 1 (TT k s)))),none,none,?_,⟨S'.congr et,P'.congr et⟩⟩
  obtain⟨N0,hN0⟩:∃N0,nn w h=N0+1:=⟨nn w h - 1,by unfold nn;omega⟩
  have e6:JH (.lst (LI (nn w h) p'))=some (p' 0::(List.range N0).map fun i=>p' (i+1)):=by
    rw[abK,Uo,hN0,List.range_succ_eq_map,List.map_cons,List.map_map];rfl
  have lA:=aeh (w:=w) (h:=h) (C:=C) (k:=k) (s:=s)
  have lU:=aei (w:=w) (h:=h) (C:=C) (k:=k) (s:=s)
  have b1:4*w*h≤4*20*20:=Am (Am (Nat.le_refl 4) w20) dj
  have b2:2*h*k≤2*20*20:=Am (Am (Nat.le_refl 2) dj) (by omega)
  refine (acI (ds:=[jM h k s,.int (w:Int),.int (h:Int)]) (aF rfl (aF rfl (aB rfl))) rfl (aa5 dj w20 (by omega)) (dA:= .lst ((AD w h C (TT k s)++AU w h k C s).map fD)) ?_ (dL:= .lst (LI (nn w h) p')) (dH:= .lst (LI (nn w h) (cst ah))) ?_ eC e6 (dS:=jM h (k+1) (Fl.sq w (fU w ah d 1 (TT k s)))) ?_).trans rfl
  · rw[List.map_append]
    refine au (bH (aF rfl (aB rfl)) (Ny hh dj w20)) (bH (aF rfl (aB rfl)) (Vz hh dj (by omega) fun i hi y hy=>S.lt i y hi hy)) (acr ?_)
    rw[List.length_map,List.length_map]
    omega
  · refine bH (aF rfl (aB (x:= .int ((nn w h:Nat):Int)) (au rfl (au (y:= .int 1) (au rfl rfl (yq (a:=w) (b:=h) (by omega))) rfl rfl) (yq (a:=2) (b:=w*h+1) (by omega))))) eS
  · refine bH (aF rfl (aB (x:= .int ((k+1:Nat):Int)) (au (x:= .int (k:Int)) (y:= .int 1) (aY (aB rfl) ?_) rfl rfl))) (VB dj w20 (by omega) fun y hy=>B.row hh hy)
    show cB [jM h k s]=_
    simp[jM,cB]
theorem acK {p:aq→R Bool} {b:aq→So} {n:Nat} {ρ ρ':aq} (e1:p (cG ρ)= .ok true) (e2:b ρ= .nx ρ'):gO p b (n+1) ρ=gO p b n ρ':=by rw[gO,e1];simp only[e2]
theorem acL {p:aq→R Bool} {b:aq→So} {n:Nat} {ρ:aq} (e1:p (cG ρ)= .ok false):gO p b (n+1) ρ= .nx ρ:=by rw[gO,e1]
theorem U7 (hw:1≤w) (hh:1≤h) (w20:w≤20) (dj:h≤20) (hm:m≤w) (hc:∀x y,x < w→y < h→0≤C y x) (hC:3*(Fl.sm h fun y=>Fl.sm w fun x=>C y x) < 1000000):
    ∀ {N k:Nat} {s:Nat→Nat→Nat} {p:Nat→Int} {e5 e6 e7 e8:Option Ent},Al w h C k s p→k≤m→m - k < N→(k=0∨e5=vA (.lst (LI (nn w h) p)))→1≤m→
      ∃s' p' lM qR Hi,gO (bL (bin (aD cB (ao (fun ρ=>aj ρ 4) (fun _=> .ok []))) (fun ρ=>aj ρ 1) ltI)) flB N (YX w h C m k s e5 e6 e7 e8)= .nx (YX w h C m m s' (vA (.lst (LI (nn w h) p'))) lM qR Hi)∧Al w h C m s' p'
  |0,k,s,p,e5,e6,e7,e8,I,hk,hN,h0,m1=>absurd hN (Nat.not_lt_zero _)
  | N +1,k,s,p,e5,e6,e7,e8,I,hk,hN,h0,m1=>by
    have et:(bL (bin (aD cB (ao (fun ρ=>aj ρ 4) (fun _=> .ok []))) (fun ρ=>aj ρ 1) ltI)) (cG (YX w h C m k s e5 e6 e7 e8))= .ok (decide (k < m)):=by
      refine bw (au (x:= .int (k:Int)) (y:= .int (m:Int)) (aY (aB rfl) ?_) rfl UW)
      show cB [jM h k s]=_
      simp[jM,cB]
    by_cases hkm:k < m
    · obtain⟨s',p',x6,x7,x8,eb,I'⟩:=acJ (m:=m) hw hh w20 dj (show k < w by omega) hc hC I (e5:=e5) (e6:=e6) (e7:=e7) (e8:=e8)
      obtain⟨s2,p2,y6,y7,y8,e,I2⟩:=U7 hw hh w20 dj hm hc hC (N:=N) (e6:=x6) (e7:=x7) (e8:=x8) I' hkm (by omega) (.inr rfl) m1
      refine⟨s2,p2,y6,y7,y8,?_,I2⟩
      rw[decide_eq_true hkm] at et
      rw[acK et eb];exact e
    · have e:k=m:=by omega
      subst e
      rw[decide_eq_false hkm] at et
      refine⟨s,p,e6,e7,e8,?_,I⟩
      rw[acL et,←h0.resolve_left (by omega)]
theorem acM (hw:1≤w) (hh:1≤h) (w20:w≤20) (dj:h≤20) (m1:1≤m) (hm:m≤w) (hc:∀x y,x < w→y < h→0≤C y x) (hC:3*(Fl.sm h fun y=>Fl.sm w fun x=>C y x) < 1000000):
    ∃s p,lK [bY w h C,.int (m:Int)]= .ok (.tup [jM h m s,.lst (LI (nn w h) p)])∧Al w h C m s p:=by
  have hT:∀x y,TT 0 (fun _ _=>0) x y=false:=fun x y=>rfl
  have I0:Al w h C 0 (fun _ _=>0) (fun _=>0):=⟨eG.none hT,fY.none (fun x y hx hy=>hc x y hx hy) hT⟩
  obtain⟨s',p',x6,x7,x8,e,I⟩:=U7 hw hh w20 dj hm hc hC (N:=64) (e5:=vA (.lst [])) (e6:=none) (e7:=none) (e8:=none) I0 (Nat.zero_le _) (by omega) (.inl rfl) m1
  refine⟨s',p',?_,I⟩
  refine cI (aK (Jw (yt hh rfl) (aY (aB rfl) CP)) (aK (bx (jf rfl) rfl) (aK (bx (jf rfl) rfl) (aK e (bZ (lD (aF rfl (aB rfl))))))))
end
end iU
namespace iU
open PySem PySem.Spec L2 Pu
open Fl (inn out gH eG kZ fY)
section
variable {w h m:Nat} {f C:Nat→Nat→Int} {s:Nat→Nat→Nat} {p:Nat→Int} {ρ:aq}
theorem YZ {n:Nat} {g:Nat→Int} (hg:∀x < n,0≤g x∧g x≤99) {x:Nat} (hx:x < n):0≤gap n g x∧gap n g x≤99:=by
  have h1:=hg (x - 1) (by omega)
  have h2:=hg (min (x+1) (n - 1)) (by omega)
  unfold gap ab
  split <;> omega
theorem Y0 (o:Ok w h f) {x y:Nat} (hx:x < w) (hy:y < h):0≤cR w h f y x∧cR w h f y x≤198:=by
  have h1:=YZ (o.c y hy) hx
  have h2:=YZ (n:=h) (g:=fun y=>f y x) (fun y hy=>o.c y hy x hx) hy
  unfold cR
  omega
theorem acO (o:Ok w h f):3*(Fl.sm h fun y=>Fl.sm w fun x=>cR w h f y x) < 1000000:=by
  have h1:(Fl.sm h fun y=>Fl.sm w fun x=>cR w h f y x)≤h*(w*198):=by
    rw[←Fl.jQ (a:=(w:Int)*198) h]
    refine Fl.gP fun y hy=>?_
    rw[←Fl.jQ (a:=198) w]
    exact Fl.gP fun x hx=>(Y0 o hx hy).2
  have h2:(h:Int)*(w*198)≤20*(20*198):=by
    have hw:=o.w2
    have hh:=o.h2
    have e1:(w:Int)*198≤20*198:=by omega
    have e2:(h:Int)*(w*198)≤h*(20*198):=Int.mul_le_mul_of_nonneg_left e1 (by omega)
    omega
  omega
theorem wW {g:Nat→Int}:∀n:Nat,((List.range n).map g).sum=Fl.sm n g
  |0=>rfl
  | n+1=>by
    rw[List.range_succ,List.map_append,List.sum_append,wW n]
    show _+(g n+0)=Fl.sm n g+g n
    omega
noncomputable def pri (w:Nat) (C:Nat→Nat→Int) (p:Nat→Int) (y x:Nat):Int:=if p (out w x y) - p (inn w x y) - C y x < 0 then 0 else p (out w x y) - p (inn w x y) - C y x
theorem aej {y x:Nat}:0≤pri w C p y x:=by unfold pri;split <;> omega
theorem NK {y x:Nat}:p (out w x y) - p (inn w x y)≤C y x+pri w C p y x:=by unfold pri;split <;> omega
theorem aek {k:Nat} {T:Nat→Nat→Bool} (hh:1≤h) (P:fY w h k (fun x y=>C y x) T s p) {q:Nat→Nat} (Q:u9 w h q):p 1≤Fl.sm h fun y=>C y (q y)+pri w C p y (q y):=by
  have ht:=P.top hh (Q.lt 0 hh)
  have t:=Fl.Nh (W:=w) (H:=h) (s:=fun _=>q) hh p 0
  have d0:Fl.sm h (Fl.dl w h (fun _=>q) p 0)≤0:=by
    rw[←Fl.nW h]
    refine Fl.gP fun y hy=>?_
    show (if y+1 < h then p (inn w (q (y+1)) (y+1)) else p 1) - p (out w (q y) y)≤0
    by_cases hy1:y+1 < h
    · rw[if_pos hy1]
      obtain⟨h1,h2⟩:=Q.st y hy1
      have:=P.ar _ _ _ (.dn (Q.lt y hy) (Q.lt _ hy1) hy1 h1 h2)
      omega
    · rw[if_neg hy1]
      have:=P.ar _ _ _ (.en (Q.lt y hy) (show y+1=h by omega))
      omega
  have le:Fl.sm h (fun y=>p (out w (q y) y) - p (inn w (q y) y))≤Fl.sm h fun y=>C y (q y)+pri w C p y (q y):=Fl.gP fun y _=>NK
  have t:Fl.sm h (fun y=>p (out w (q y) y) - p (inn w (q y) y))=p 1 - p (inn w (q 0) 0) - Fl.sm h (Fl.dl w h (fun _=>q) p 0):=t
  omega
theorem total (hh:1≤h) (I:Al w h C m s p):(m:Int)*p 1 - (Fl.sm h fun y=>Fl.sm w fun x=>pri w C p y x)=Fl.sm m fun i=>Fl.sm h fun y=>C y (s i y):=by
  have e1:=I.po.Sf I.sm hh
  have co:=I.po.cells I.sm
  have e2:(Fl.sm h fun y=>Fl.sm w fun x=>pri w C p y x)=Fl.Sf w h (TT m s) p - Fl.sm h fun y=>Fl.sm w fun x=>if TT m s x y=true then C y x else 0:=by
    unfold Fl.Sf
    rw[←Fl.zZ]
    refine Fl.bR fun y hy=>?_
    rw[←Fl.zZ]
    refine Fl.bR fun x hx=>?_
    obtain⟨c1,c2⟩:=co x y hx hy
    have c1:TT m s x y=true→p (inn w x y)+C y x≤p (out w x y):=c1
    have c2:TT m s x y=false→p (out w x y)≤p (inn w x y)+C y x:=c2
    unfold pri
    cases t:TT m s x y with
    |true=>have:=c1 t;rw[if_pos rfl,if_pos rfl,if_neg (by omega)]
    | false=>
      have:=c2 t
      rw[if_neg Bool.false_ne_true,if_neg Bool.false_ne_true]
      split <;> omega
  have e3:(Fl.sm h fun y=>Fl.sm w fun x=>if TT m s x y=true then C y x else 0)=Fl.sm m fun i=>Fl.sm h fun y=>C y (s i y):=by
    rw[Fl.bR fun y hy=>I.sm.row hy fun x=>C y x]
    exact Fl.pP m h
  omega
theorem Al.seam (I:Al w h C m s p) {i:Nat} (hi:i < m):u9 w h (s i):=⟨fun y hy=>I.sm.lt i y hi hy,fun y hy=>I.sm.nr i y hi hy⟩
theorem NP {lt:Int→Int→Bool}:∀{l:List Int} {a:Int},bestOf lt (a::l)∈a::l:=by
  intro l
  induction l with
  |nil=>intro a;exact List.mem_cons_self ..
  | cons b l ih=>
    intro a
    have e:bestOf lt (a::b::l)=bestOf lt ((if lt b a then b else a)::l):=rfl
    rw[e]
    have:=ih (a:=if lt b a then b else a)
    rcases List.mem_cons.mp this with z |z
    · rw[z];split
      · exact List.mem_cons_of_mem _ (List.mem_cons_self ..)
      · exact List.mem_cons_self ..
    · exact List.mem_cons_of_mem _ (List.mem_cons_of_mem _ z)
theorem NQ {l:List Nat} {g:Nat→Int} (hl:l≠[]):∃x∈l,lR ltB [.lst (l.map fun x=>D.int (g x))]= .ok (.int (g x)):=by
  cases l with
  |nil=>exact absurd rfl hl
  | cons a l=>
    have e:intsOf ((a::l).map fun x=>D.int (g x))=some ((a::l).map g):=by
      have:=uF ((a::l).map g)
      rw[List.map_map] at this;exact this
    have hm:=NP (lt:=ltB) (l:=l.map g) (a:=g a)
    rw[←List.map_cons] at hm
    obtain⟨x,hx,ex⟩:=List.mem_map.mp hm
    refine⟨x,hx,?_⟩
    show (match intsOf ((a::l).map fun x=>D.int (g x)) with
      |some bs=>if 0 < bs.length then R.ok (D.int (bestOf ltB bs)) else .bad
      |none=> .bad)=_
    rw[e]
    show (if 0 < ((a::l).map g).length then R.ok (D.int (bestOf ltB ((a::l).map g))) else .bad)=_
    rw[if_pos (by simp),←ex]
theorem aa8 {l:List Nat} {g:Nat→Int} (hl:l≠[]):∃x∈l,lR ltB [.tup (l.map fun x=>D.int (g x))]= .ok (.int (g x)):=by
  cases l with
  |nil=>exact absurd rfl hl
  | cons a l=>
    have e:intsOf ((a::l).map fun x=>D.int (g x))=some ((a::l).map g):=by
      have:=uF ((a::l).map g)
      rw[List.map_map] at this;exact this
    have hm:=NP (lt:=ltB) (l:=l.map g) (a:=g a)
    rw[←List.map_cons] at hm
    obtain⟨x,hx,ex⟩:=List.mem_map.mp hm
    refine⟨x,hx,?_⟩
    show (match intsOf ((a::l).map fun x=>D.int (g x)) with
      |some bs=>if 0 < bs.length then R.ok (D.int (bestOf ltB bs)) else .bad
      |none=> .bad)=_
    rw[e]
    show (if 0 < ((a::l).map g).length then R.ok (D.int (bestOf ltB ((a::l).map g))) else .bad)=_
    rw[if_pos (by simp),←ex]
theorem aa9 {g:Nat→Int} {x:Nat} (hx:x < w):mC ((List.range w).map fun x=>D.int (g x)) (some ((x - 1:Nat):Int)) (some ((x+2:Nat):Int))=(nr w x).map fun x=>D.int (g x):=by
  rw[aa4 (by rw[List.length_map,List.length_range];omega),List.length_map,List.length_range]
  refine List.ext_getElem ?_ fun i h1 h2=>?_
  · unfold nr
    rw[List.length_take,List.length_drop,List.length_map,List.length_map,List.length_range,List.length_range']
    omega
  · rw[List.getElem_take,List.getElem_drop,List.getElem_map,List.getElem_map,List.getElem_range]
    unfold nr
    rw[List.getElem_range']
    rw[Nat.one_mul]
theorem aeR {x:Nat}:maxD [.int 0,.int ((x:Int) - 1)]= .ok (.int ((x - 1:Nat):Int)):=by
  show R.ok (D.int (if (0:Int) < (x:Int) - 1 then (x:Int) - 1 else 0))=_
  congr 2
  split <;> omega
theorem ael {g:aq→R D} {fl fu:aq→R (Option Int)} {ds:List D} {l u:Option Int} (e1:g ρ= .ok (.lst ds)) (e2:fl ρ= .ok l) (e3:fu ρ= .ok u):wH g fl fu ρ= .ok (.lst (mC ds l u)):=by
  rw[wH,e1,R.bK,e2,R.bK,e3,R.bK];rfl
theorem aeS {x:Nat} (hx:x < w):nr w x≠[]:=fun z=>by
  have:x∈nr w x:=(Hh hx).mpr ⟨hx,by omega,by omega⟩
  rw[z] at this;cases this
theorem aem (w20:w≤20) {g r b b':Nat→Int} (hg:∀x < w,b x≤g x) (hb:∀x < w,∀x' < w,x'≤x+1→x≤x'+1→b' x≤r x+b x') {d0:D}:
    ∃g':Nat→Int,lsB [vA d0,vA (.lst ((List.range w).map fun x=>D.int (g x))),vA (row w r)]= .nx [vA d0,vA (.lst ((List.range w).map fun x=>D.int (g' x))),vA (row w r)]∧∀x < w,b' x≤g' x:=by
  have key:∀x,x < w→∃z:Int,lR ltB [.lst ((nr w x).map fun x=>D.int (g x))]= .ok (.int z)∧b' x≤r x+z:=fun x hx=>by
    obtain⟨x',hx',e⟩:=NQ (g:=g) (aeS hx)
    obtain⟨h1,h2,h3⟩:=(Hh hx).mp hx'
    exact⟨g x',e,by have:=hb x hx x' h1 h2 h3;have:=hg x' h1;omega⟩
  have ch:∃z:Nat→Int,∀x,x < w→lR ltB [.lst ((nr w x).map fun x=>D.int (g x))]= .ok (.int (z x))∧b' x≤r x+z x:=
    ⟨fun x=>if hx:x < w then Classical.choose (key x hx) else 0,fun x hx=>by
      have e:(if hx:x < w then Classical.choose (key x hx) else 0)=Classical.choose (key x hx):=dif_pos hx
      show lR ltB _=R.ok (D.int (if hx:x < w then Classical.choose (key x hx) else 0))∧b' x≤r x+(if hx:x < w then Classical.choose (key x hx) else 0)
      rw[e];exact Classical.choose_spec (key x hx)⟩
  obtain⟨z,hz⟩:=ch
  refine⟨fun x=>r x+z x,bx ?_ rfl,fun x hx=>(hz x hx).2⟩
  refine cC (l:=List.range w) (c:=fun (x:Nat)=>D.tup [.int (x:Int),.int (r x)]) (mj (aB rfl) (n:=w) (p:=fun x=>D.int (r x)) rfl) (by rw[List.length_range];omega) fun x hx=>cN rfl ?_
  have hx:=List.mem_range.mp hx
  refine au (x:= .int (r x)) (y:= .int (z x)) rfl (aY (aB (ael (l:=some ((x - 1:Nat):Int)) (u:=some ((x+2:Nat):Int)) rfl ?_ rfl)) ?_) rfl
  · show (aD maxD (ao (fun _=> .ok (.int 0)) (ao (bin (fun ρ=>aj ρ 0) (fun _=> .ok (.int 1)) dZ) (fun _=> .ok []))) _).bind Ka=_
    rw[aY (ds:=[.int 0,.int ((x:Int) - 1)]) (aF rfl (aB (au rfl rfl rfl))) aeR];rfl
  · rw[aa9 hx];exact (hz x hx).1
theorem U8 (w20:w≤20) {r b:Nat→Nat→Int} (hb:∀y,y+1 < h→∀x < w,∀x' < w,x'≤x+1→x≤x'+1→b y x≤r y x+b (y+1) x') {d0:D}:
    ∀ {m:Nat} {g:Nat→Int} {e2:Option Ent},m < h→(∀x < w,b m x≤g x)→
      ∃(g':Nat→Int) (e2':Option Ent),forL (aG 2) lsB ((List.range m).reverse.map fun y=>row w (r y)) [vA d0,vA (.lst ((List.range w).map fun x=>D.int (g x))),e2]= .nx [vA d0,vA (.lst ((List.range w).map fun x=>D.int (g' x))),e2']∧∀x < w,b 0 x≤g' x
  |0,g,e2,_,hg=>⟨g,e2,rfl,hg⟩
  | m+1,g,e2,hm,hg=>by
    obtain⟨g1,e1,hg1⟩:=aem (d0:=d0) w20 (b:=b (m+1)) (b':=b m) (r:=r m) hg (hb m hm)
    obtain⟨g',e2',e,hg'⟩:=U8 (d0:=d0) w20 hb (m:=m) (g:=g1) (e2:=vA (row w (r m))) (by omega) hg1
    refine⟨g',e2',?_,hg'⟩
    rw[List.range_succ,List.reverse_append,List.reverse_singleton,List.singleton_append,List.map_cons]
    exact gG rfl e1 e
theorem Y4 {α:Type} {g:Nat→α} {n:Nat}:((List.range (n+1)).map g).dropLast.reverse=(List.range n).reverse.map g:=by
  rw[List.range_succ,List.map_append,List.map_singleton,List.dropLast_concat,List.map_reverse]
theorem acQ {ds:List D} {d:D}:bQ (.lst (ds++[d])) (.int (-1))= .ok d:=by
  refine zQ ?_
  unfold L2.atI ixN
  have hl:(ds++[d]).length=ds.length+1:=by simp
  rw[if_neg (by decide),if_pos (by omega)]
  show (ds++[d])[(-1+((ds++[d]).length:Int)).toNat]?=_
  rw[show (-1+((ds++[d]).length:Int)).toNat=ds.length by omega]
  simp
theorem NT (hw:1≤w) (hh:1≤h) (w20:w≤20) {r b:Nat→Nat→Int} (hb:∀y,y+1 < h→∀x < w,∀x' < w,x'≤x+1→x≤x'+1→b y x≤r y x+b (y+1) x') (hl:∀x < w,b (h - 1) x≤r (h - 1) x):
    ∃z:Int,iV [.lst ((List.range h).map fun y=>row w (r y))]= .ok (.int z)∧∃x < w,b 0 x≤z:=by
  obtain⟨n,rfl⟩:∃n,h=n+1:=⟨h - 1,by omega⟩
  obtain⟨g',e2',e,hg'⟩:=U8 (h:=n+1) (d0:= .lst ((List.range (n+1)).map fun y=>row w (r y))) w20 hb (m:=n) (g:=r n) (e2:=none) (Nat.lt_succ_self n) hl
  have hne:List.range w≠[]:=fun z=>by have:=congrArg List.length z;rw[List.length_range] at this;simp at this;omega
  obtain⟨x,hx,ex⟩:=NQ (g:=g') hne
  refine⟨g' x,?_,x,List.mem_range.mp hx,hg' x (List.mem_range.mp hx)⟩
  refine cI (aK (ρ':=[vA (.lst ((List.range (n+1)).map fun y=>row w (r y))),vA (.lst ((List.range w).map fun x=>D.int (r n x))),none]) (bx (aY (aB (au (x:= .lst ((List.range (n+1)).map fun y=>row w (r y))) (y:= .int (-1)) (r:= .ok (row w (r n))) rfl rfl ?_)) rfl) rfl) (aK (mL (jD (ds:=(List.range n).reverse.map fun y=>row w (r y)) ?_) e) (bZ (aY (aB rfl) ex))))
  · rw[List.range_succ,List.map_append,List.map_singleton];exact acQ
  · show (R.ok (D.lst ((List.range (n+1)).map fun y=>row w (r y)))).bind abA=_
    show R.ok (D.lst ((List.range (n+1)).map fun y=>row w (r y)).dropLast.reverse)=_
    rw[Y4]
end
end iU
namespace iU
open PySem PySem.Spec L2 Pu
open Fl (inn out gH eG kZ fY)
section
variable {w h m:Nat} {f C:Nat→Nat→Int} {s:Nat→Nat→Nat} {p:Nat→Int} {ρ:aq} {ns:List Int}
theorem oO (o:Ok w h f) (h1:1≤m) (h6:m≤6):f9 [bY w h f,.int (m:Int)]= .ok .non:=
  abw (aK (rO (bH (aB rfl) (Ux o))) (cQ (qN (oF (bw (bH (aB rfl) u6))) (oF (bw (GC rfl rfl (uG (by omega)) rfl (uG (by omega)))))) rfl))
theorem rT {a b:Nat}:nP (.int (a:Int)) (.int (b:Int))= .ok (.bl (decide (b < a))):=by
  show R.ok (D.bl (decide ((b:Int) < (a:Int))))=_
  simp
theorem Rc (o:Ok w h f) (h1:1≤m) (h6:m≤6) (hm:w < m):lZ [bY w h f,.int (m:Int)]= .ok .non:=by
  refine cI (aK (rO (bH (aF rfl (aB rfl)) (oO o h1 h6))) (rP (jg (bw (b:=true) (au rfl (yt o.h1 rfl) ?_)) (bZ rfl))))
  rw[rT,decide_eq_true hm]
theorem Y5 (o:Ok w h f) (h1:1≤m) (h6:m≤6) (hm:w < m):pY [bY w h f,.int (m:Int)]= .ok .non:=by
  refine cI (aK (rO (bH (aF rfl (aB rfl)) (oO o h1 h6))) (aK (bx (yt o.h1 rfl) rfl) (rP (jg (bw (b:=true) (au rfl rfl ?_)) (bZ rfl)))))
  rw[rT,decide_eq_true hm]
theorem Rf (o:Ok w h f) (h1:1≤m) (h6:m≤6) (hm:m≤w) {d:D} (e:lK [bY w h (cR w h f),.int (m:Int)]= .ok (.tup [jM h m s,d])):lZ [bY w h f,.int (m:Int)]= .ok (jM h m s):=by
  refine cI (aK (rO (bH (aF rfl (aB rfl)) (oO o h1 h6))) (aK (cQ (bw (b:=false) (au rfl (yt o.h1 rfl) ?_)) rfl) (bZ (au (bH (aF (bH (aB rfl) (Aj o)) (aB rfl)) e) rfl rfl))))
  rw[rT,decide_eq_false (by omega)]
theorem abb {n x y:Nat} {c:Int} (hi:inn w x y < n) (ho:out w x y < n):lY [.int c,.lst (LI n p),.int ((inn w x y:Nat):Int)]= .ok (.int (if p (out w x y) - p (inn w x y) - c < 0 then 0 else p (out w x y) - p (inn w x y) - c)):=by
  refine cI (bZ (aY (aF (au (x:= .int (p (out w x y) - p (inn w x y))) (y:= .int c) (au (x:= .int (p (out w x y))) (y:= .int (p (inn w x y))) (au (y:= .int ((out w x y:Nat):Int)) rfl (au rfl rfl rfl) (yu ho)) (au rfl rfl (yu hi)) rfl) rfl rfl) (aB rfl)) ?_))
  show R.ok (D.int (if p (out w x y) - p (inn w x y) - c < 0 then 0 else p (out w x y) - p (inn w x y) - c))=_
  rfl
theorem Y6 (o:Ok w h f) (h1:1≤m) (h6:m≤6) (hm:m≤w) (e:lK [bY w h (cR w h f),.int (m:Int)]= .ok (.tup [jM h m s,.lst (LI (nn w h) p)])):pY [bY w h f,.int (m:Int)]= .ok (.tup [bY w h (pri w (cR w h f) p),.int (p 1)]):=by
  have w20:=o.w2
  have dj:=o.h2
  refine cI (aK (rO (bH (aF rfl (aB rfl)) (oO o h1 h6))) (aK (bx (yt o.h1 rfl) rfl) (aK (cQ (bw (b:=false) (au rfl rfl ?_)) rfl) (aK (bx (bH (aB rfl) (Aj o)) rfl) (aK (bx (bH (aF rfl (aB rfl)) e) rfl) (aK (bx (d:= .lst ((List.range h).map fun y=>row w (pri w (cR w h f) p y))) ?_ rfl) (bZ (lD (aF (x:=bY w h (pri w (cR w h f) p)) (aY (aB rfl) rfl) (aB (au (y:= .int ((1:Nat):Int)) rfl rfl (yu ?_))))))))))))
  · rw[rT,decide_eq_false (by omega)]
  · refine cC (l:=List.range h) (c:=fun (y:Nat)=>D.tup [.int (y:Int),row w (cR w h f y)]) (mj (aB rfl) (n:=h) (p:=fun y=>row w (cR w h f y)) rfl) (by rw[List.length_range];omega) fun y hy=>cN rfl ?_
    have hy:=List.mem_range.mp hy
    refine aY (aB (x:= .lst ((List.range w).map fun x=>D.int (pri w (cR w h f) p y x))) ?_) rfl
    refine cC (l:=List.range w) (c:=fun (x:Nat)=>D.tup [.int (x:Int),.int (cR w h f y x)]) (mj (aB rfl) (n:=w) (p:=fun x=>D.int (cR w h f y x)) rfl) (by rw[List.length_range];omega) fun x hx=>cN rfl ?_
    have hx:=List.mem_range.mp hx
    exact bH (aF rfl (aF rfl (aB (bH (aF rfl (aF rfl (aB rfl))) (wO (by omega)))))) (abb (Fl.sO hx hy) (Fl.qQ hx hy))
  · unfold nn;have:=Nat.mul_pos o.w1 o.h1;omega
theorem qU {α:Type}:∀l:List α,l.filter (fun _=>false)=[]
  |[]=>rfl
  |a::l=>by rw[List.filter_cons,if_neg Bool.false_ne_true,qU l]
theorem ne_nil:fX (.lst []) (.lst [])= .ok (.bl false):=xQ rfl (by simp[dep,deps])
theorem acR:cB [jM h m s]= .ok (.int (m:Int)):=by simp[jM,cB]
noncomputable abbrev Hj (w h:Nat) (S:Nat→Nat→Int):D:= .lst ((List.range h).map fun y=>row w (S y))
theorem abd {g:Nat→D}:xX ((List.range m).map g) (((List.range m).map g).drop 1)=(List.range (m - 1)).map fun i=>D.tup [g i,g (i+1)]:=by
  unfold xX
  refine List.ext_getElem (by simp) fun i h1 h2=>?_
  simp
theorem aen {q r:Nat→Nat} (dj:h≤20) (hqr:∀y < h,q y < r y) {e0 e1 e2 e3 e4 e5 e6 e7 e8 jH qW ji lg jd:Option Ent}:
    lwI [e0,e1,e2,e3,e4,e5,e6,e7,e8,vA (sm h q),vA (sm h r),jH,qW,ji,lg,jd]= .nx [e0,e1,e2,e3,e4,e5,e6,e7,e8,vA (sm h q),vA (sm h r),jH,qW,ji,lg,jd]:=by
  refine cQ (bw (au (x:= .lst []) ?_ (jf rfl) ne_nil)) rfl
  have e:=qT (ρ:=cG [e0,e1,e2,e3,e4,e5,e6,e7,e8,vA (sm h q),vA (sm h r),jH,qW,ji,lg,jd]) (n:=2) (caps:=[]) (fi:=fun ρ=>((ao (fun ρ=>aj ρ 9) (ao (fun ρ=>aj ρ 10) (fun _=> .ok []))) ρ).bind zip2) (gt:=dG (dI 2 (bA (aG 0) (bA (aG 1) nilG)))) (ft:=bL (bin (fun ρ=>aj ρ 0) (fun ρ=>aj ρ 1) LC)) (fe:=fun _=> .ok (.int 1))
    (l:=List.range h) (c:=fun y=>D.tup [.int ((q y:Nat):Int),.int ((r y:Nat):Int)]) (g:=fun _=> .int 1) (P:=fun _=>false) (JT (l:=List.range h) (p:=fun y=>D.int ((q y:Nat):Int)) (q:=fun y=>D.int ((r y:Nat):Int)) (aF rfl (aB rfl)) rfl rfl) (by rw[List.length_range];omega) fun y hy=>wR (b:=false) rfl (bw (au rfl rfl ?_)) rfl
  · rw[qU] at e;exact e
  · have:=hqr y (List.mem_range.mp hy)
    show R.ok (D.bl (decide (((r y:Nat):Int)≤((q y:Nat):Int))))=_
    rw[decide_eq_false (by omega)]
theorem NZ (dj:h≤20) {e0 e1 e2 e3 e4 e5 e6 e7 e8 jH qW ji lg jd:Option Ent}:∀{is:List Nat} {e9 e10:Option Ent},(∀i∈is,∀y < h,s i y < s (i+1) y)→
    ∃e9' ae2,forL (dG (dI 2 (bA (aG 9) (bA (aG 10) nilG)))) lwI (is.map fun i=>D.tup [sm h (s i),sm h (s (i+1))]) [e0,e1,e2,e3,e4,e5,e6,e7,e8,e9,e10,jH,qW,ji,lg,jd]= .nx [e0,e1,e2,e3,e4,e5,e6,e7,e8,e9',ae2,jH,qW,ji,lg,jd]
  |[],e9,e10,_=>⟨e9,e10,rfl⟩
  | i::is,e9,e10,hs=>by
    obtain⟨a9,a10,e⟩:=NZ dj (is:=is) (e9:=vA (sm h (s i))) (e10:=vA (sm h (s (i+1)))) (e0:=e0) (e1:=e1) (e2:=e2) (e3:=e3) (e4:=e4) (e5:=e5) (e6:=e6) (e7:=e7) (e8:=e8) (jH:=jH) (qW:=qW) (ji:=ji) (lg:=lg) (jd:=jd) fun j hj=>hs j (List.mem_cons_of_mem _ hj)
    exact⟨a9,a10,by rw[List.map_cons];exact gG rfl (aen dj (hs i (List.mem_cons_self ..))) e⟩
theorem N5 {S:Nat→Nat→Int} {q:Nat→Nat} (dj:h≤20) (hq:∀y < h,q y < w) {u:aq→R (List D)} (e1:(fun ρ=>(u ρ).bind jh) ρ= .ok ((List.range h).map fun (y:Nat)=>D.tup [.int (y:Int),.int ((q y:Nat):Int)])) {cap:Nat} (e2:uw 2 [cap] ρ=[none,none,vA (Hj w h S)]):
    aD ni (ao (bB 2 [cap] (fun ρ=>(u ρ).bind jh) (dG (dI 2 (bA (aG 0) (bA (aG 1) nilG)))) (fun _=> .ok true) (bin (bin (fun ρ=>aj ρ 2) (fun ρ=>aj ρ 0) bQ) (fun ρ=>aj ρ 1) bQ)) (fun _=> .ok [])) ρ= .ok (.int (Fl.sm h fun y=>S y (q y))):=by
  refine aY (aB (x:= .lst ((List.range h).map fun y=>D.int (S y (q y)))) ?_) ?_
  · refine cC (l:=List.range h) (c:=fun (y:Nat)=>D.tup [.int (y:Int),.int ((q y:Nat):Int)]) e1 (by rw[List.length_range];omega) fun y hy=>?_
    have hy:=List.mem_range.mp hy
    rw[e2]
    exact cN rfl (au (x:=row w (S y)) (y:= .int ((q y:Nat):Int)) (au rfl rfl (oN (α:=Nat) (p:=fun y=>row w (S y)) hy)) rfl (j9 (hq y hy)))
  · rw[Cz,wW]
theorem aeo (hns:ns.length≤1000000) (o:Ok w h f) {S:Nat→Nat→Int} {z:Int} (hS:∀q,u9 w h q→z≤Fl.sm h fun y=>S y (q y)) {k:Nat} {e1 e4 e5 e6 e7 e9 e10 jH ji jd:Option Ent}:
    ∃abe,lwK [vA (.lst (ns.map .int)),e1,vA (.int (w:Int)),vA (.int (h:Int)),e4,e5,e6,e7,vA (.int z),e9,e10,jH,vA (Hj w h S),ji,vA (.int (k:Int)),jd]= .nx [vA (.lst (ns.map .int)),e1,vA (.int (w:Int)),vA (.int (h:Int)),e4,e5,e6,e7,vA (.int z),e9,e10,jH,vA (Hj w h S),ji,vA (.int (k:Int)),abe]:=by
  obtain⟨q,e,Q⟩:=ad9 (ns:=ns) (a:=70+9*(k:Int)) (w:=w) (h:=h) hns (by omega) o.w1 o.h1 o.h2
  refine⟨vA (sm h q),aK (ρ':=[vA (.lst (ns.map .int)),e1,vA (.int (w:Int)),vA (.int (h:Int)),e4,e5,e6,e7,vA (.int z),e9,e10,jH,vA (Hj w h S),ji,vA (.int (k:Int)),vA (sm h q)]) (bx (bH (aF rfl (aF (x:= .int (70+9*(k:Int))) (au rfl (au (r:= .ok (.int (9*(k:Int)))) rfl rfl ?_) rfl) (aF rfl (aB rfl)))) e) rfl) (cQ (bw (b:=false) (au (N5 (S:=S) (q:=q) o.h2 Q.lt (mj (aB rfl) (n:=h) (p:=fun y=>D.int ((q y:Nat):Int)) rfl) rfl) rfl ?_)) rfl)⟩
  · show gR (.int 9) (.int (k:Int))=_
    rw[j5 (.inl ⟨by decide,by decide⟩)]
  · have:=hS q Q
    show R.ok (D.bl (decide ((Fl.sm h fun y=>S y (q y)) < z)))=_
    rw[decide_eq_false (by omega)]
theorem N6 (hns:ns.length≤1000000) (o:Ok w h f) {S:Nat→Nat→Int} {z:Int} (hS:∀q,u9 w h q→z≤Fl.sm h fun y=>S y (q y)) {e1 e4 e5 e6 e7 e9 e10 jH ji:Option Ent}:∀{ks:List Nat} {lg jd:Option Ent},
    ∃ae3 abe,forL (aG 14) lwK (ks.map fun (k:Nat)=>D.int (k:Int)) [vA (.lst (ns.map .int)),e1,vA (.int (w:Int)),vA (.int (h:Int)),e4,e5,e6,e7,vA (.int z),e9,e10,jH,vA (Hj w h S),ji,lg,jd]= .nx [vA (.lst (ns.map .int)),e1,vA (.int (w:Int)),vA (.int (h:Int)),e4,e5,e6,e7,vA (.int z),e9,e10,jH,vA (Hj w h S),ji,ae3,abe]
  |[],lg,jd=>⟨lg,jd,rfl⟩
  | k::ks,lg,jd=>by
    obtain⟨a15,ea⟩:=aeo (k:=k) hns o hS (e1:=e1) (e4:=e4) (e5:=e5) (e6:=e6) (e7:=e7) (e9:=e9) (e10:=e10) (jH:=jH) (ji:=ji) (jd:=jd)
    obtain⟨b14,b15,eb⟩:=N6 hns o hS (ks:=ks) (lg:=vA (.int (k:Int))) (jd:=a15) (e1:=e1) (e4:=e4) (e5:=e5) (e6:=e6) (e7:=e7) (e9:=e9) (e10:=e10) (jH:=jH) (ji:=ji)
    exact⟨b14,b15,by rw[List.map_cons];exact gG rfl ea eb⟩
end
end iU
namespace iU
open PySem PySem.Spec L2 Pu
open Fl (inn out gH eG kZ fY)
section
variable {w h m:Nat} {f C:Nat→Nat→Int} {s:Nat→Nat→Nat} {p:Nat→Int} {ρ:aq} {ns:List Int}
theorem abf (o:Ok w h f) (I:Al w h C m s p) (m20:m≤20) {e0 e2 e3 e6 e7 e8 e9 e10 jH qW ji lg jd:Option Ent}:
    (uo (bL (bin (aD cB (ao (fun ρ=>aj ρ 5) (fun _=> .ok []))) (fun ρ=>aj ρ 4) fX)) (bL (bin (bB 1 [1] (d7 (fun ρ=>aj ρ 5)) (aG 0) (m8 (bL (aD (bC lJ 2) (ao (fun ρ=>aj ρ 0) (ao (fun ρ=>aj ρ 1) (fun _=> .ok [])))))) (fun ρ=>aj ρ 0)) (kO (fun _=> .ok [])) fX))) (cG [e0,vA (bY w h f),e2,e3,vA (.int (m:Int)),vA (jM h m s),e6,e7,e8,e9,e10,jH,qW,ji,lg,jd])= .ok false:=by
  refine qN (bw (au (aY (aB rfl) acR) rfl (pZ rfl))) (bw (au (x:= .lst []) ?_ (jf rfl) ne_nil))
  have e:=qT (ρ:=cG [e0,vA (bY w h f),e2,e3,vA (.int (m:Int)),vA (jM h m s),e6,e7,e8,e9,e10,jH,qW,ji,lg,jd]) (n:=1) (caps:=[1]) (fi:=d7 (fun ρ=>aj ρ 5)) (gt:=aG 0) (ft:=m8 (bL (aD (bC lJ 2) (ao (fun ρ=>aj ρ 0) (ao (fun ρ=>aj ρ 1) (fun _=> .ok [])))))) (fe:=fun ρ=>aj ρ 0)
    (l:=List.range m) (c:=fun i=>sm h (s i)) (g:=fun i=>sm h (s i)) (P:=fun _=>false) (jD rfl) (by rw[List.length_range];omega) fun i hi=>wR (b:=false) rfl (oF (b:=true) (bw (bH (aF rfl (aB rfl)) (Vw o (I.seam (List.mem_range.mp hi)))))) rfl
  rw[qU] at e;exact e
theorem abg (w1:1≤w) (dj:h≤20) {R':Nat→Nat→Int} (hR:∀y < h,∀x < w,0≤R' y x) {e0 e1 e4 e5 e6 e8 e9 e10 jH qW ji lg jd:Option Ent}:
    (uo (bL (bin (aD cB (ao (fun ρ=>aj ρ 7) (fun _=> .ok []))) (fun ρ=>aj ρ 3) fX)) (bL (bin (bB 1 [2] (d7 (fun ρ=>aj ρ 7)) (aG 0) (uo (bL (bin (aD cB (ao (fun ρ=>aj ρ 0) (fun _=> .ok []))) (fun ρ=>aj ρ 1) fX)) (bL (bin (aD (lR ltB) (ao (fun ρ=>aj ρ 0) (fun _=> .ok []))) (fun _=> .ok (.int 0)) ltI))) (fun ρ=>aj ρ 0)) (kO (fun _=> .ok [])) fX))) (cG [e0,e1,vA (.int (w:Int)),vA (.int (h:Int)),e4,e5,e6,vA (bY w h R'),e8,e9,e10,jH,qW,ji,lg,jd])= .ok false:=by
  refine qN (bw (au (aY (aB rfl) CP) rfl (pZ rfl))) (bw (au (x:= .lst []) ?_ (jf rfl) ne_nil))
  have e:=qT (ρ:=cG [e0,e1,vA (.int (w:Int)),vA (.int (h:Int)),e4,e5,e6,vA (bY w h R'),e8,e9,e10,jH,qW,ji,lg,jd]) (n:=1) (caps:=[2]) (fi:=d7 (fun ρ=>aj ρ 7)) (gt:=aG 0) (ft:=uo (bL (bin (aD cB (ao (fun ρ=>aj ρ 0) (fun _=> .ok []))) (fun ρ=>aj ρ 1) fX)) (bL (bin (aD (lR ltB) (ao (fun ρ=>aj ρ 0) (fun _=> .ok []))) (fun _=> .ok (.int 0)) ltI))) (fe:=fun ρ=>aj ρ 0)
    (l:=List.range h) (c:=fun y=>row w (R' y)) (g:=fun y=>row w (R' y)) (P:=fun _=>false) (nR rfl) (by rw[List.length_range];omega) fun y hy=>?_
  · rw[qU] at e;exact e
  · have hne:List.range w≠[]:=fun z=>by have:=congrArg List.length z;rw[List.length_range] at this;simp at this;omega
    obtain⟨x,hx,ex⟩:=aa8 (g:=R' y) hne
    have h0:=hR y (List.mem_range.mp hy) x (List.mem_range.mp hx)
    refine wR (b:=false) rfl (qN (bw (au (aY (aB rfl) wM) rfl (pZ rfl))) (bw (au (aY (aB rfl) ex) rfl ?_))) rfl
    show R.ok (D.bl (decide (R' y x < 0)))=_
    rw[decide_eq_false (by omega)]
theorem acS (w20:w≤20) (dj:h≤20) {R':Nat→Nat→Int} {e0 e1 e2 e3 e4 e5 e6 e8 e9 e10 qW ji lg jd:Option Ent}:
    (bB 2 [] (fun ρ=>((ao (fun ρ=>aj ρ 11) (ao (fun ρ=>aj ρ 7) (fun _=> .ok []))) ρ).bind zip2) (dG (dI 2 (bA (aG 0) (bA (aG 1) nilG)))) (fun _=> .ok true) (aD mq (ao (bB 2 [] (fun ρ=>((ao (fun ρ=>aj ρ 0) (ao (fun ρ=>aj ρ 1) (fun _=> .ok []))) ρ).bind zip2) (dG (dI 2 (bA (aG 0) (bA (aG 1) nilG)))) (fun _=> .ok true) (bin (fun ρ=>aj ρ 0) (fun ρ=>aj ρ 1) cT)) (fun _=> .ok [])))) [e0,e1,e2,e3,e4,e5,e6,vA (bY w h R'),e8,e9,e10,vA (bY w h C),qW,ji,lg,jd]= .ok (Hj w h fun y x=>C y x+R' y x):=by
  refine cC (l:=List.range h) (c:=fun y=>D.tup [row w (C y),row w (R' y)]) (JT (l:=List.range h) (p:=fun y=>row w (C y)) (q:=fun y=>row w (R' y)) (aF rfl (aB rfl)) rfl rfl) (by rw[List.length_range];omega) fun y _=>cN rfl ?_
  refine aY (aB (x:= .lst ((List.range w).map fun x=>D.int (C y x+R' y x))) ?_) rfl
  exact cC (l:=List.range w) (c:=fun x=>D.tup [.int (C y x),.int (R' y x)]) (JT (l:=List.range w) (p:=fun x=>D.int (C y x)) (q:=fun x=>D.int (R' y x)) (aF rfl (aB rfl)) rfl rfl) (by rw[List.length_range];omega) fun x _=>cN rfl (au rfl rfl rfl)
theorem aep (hns:ns.length≤1000000) (o:Ok w h f) (m1:1≤m) (m6:m≤6) (hm:m≤w) (I:Al w h (cR w h f) m s p):
    lwT [vA (.lst (ns.map .int)),vA (bY w h f),vA (.int (w:Int)),vA (.int (h:Int)),vA (.int (m:Int)),vA (jM h m s),vA (.tup [bY w h (pri w (cR w h f) p),.int (p 1)]),none,none,none,none,none,none,none,none,none]= .rt (.bl true):=by
  have w20:=o.w2
  have dj:=o.h2
  have ways:∀q,u9 w h q→p 1≤Fl.sm h fun y=>cR w h f y (q y)+pri w (cR w h f) p y (q y):=fun q Q=>aek o.h1 I.po Q
  obtain⟨z,ez,x0,hx0,hz⟩:=NT (r:=fun y x=>cR w h f y x+pri w (cR w h f) p y x) (b:=fun y x=>p 1 - p (inn w x y)) o.w1 o.h1 w20 (fun y hy x hx x' hx' d1 d2=>by
    have a:=I.po.ar _ _ _ (.dn hx hx' hy d1 d2)
    have b:=NK (w:=w) (C:=cR w h f) (p:=p) (y:=y) (x:=x)
    omega) (fun x hx=>by
    have hh:=o.h1
    have a:=I.po.ar _ _ _ (.en hx (show h - 1+1=h by omega))
    have b:=NK (w:=w) (C:=cR w h f) (p:=p) (y:=h - 1) (x:=x)
    omega)
  have hz:p 1 - p (inn w x0 0)≤z:=hz
  have ht:=I.po.top o.h1 hx0
  obtain⟨a9,a10,e8⟩:=NZ (s:=s) dj (is:=List.range (m - 1)) (e9:=none) (e10:=none) (e0:=vA (.lst (ns.map .int))) (e1:=vA (bY w h f)) (e2:=vA (.int (w:Int))) (e3:=vA (.int (h:Int))) (e4:=vA (.int (m:Int))) (e5:=vA (jM h m s)) (e6:=vA (.tup [bY w h (pri w (cR w h f) p),.int (p 1)])) (e7:=vA (bY w h (pri w (cR w h f) p))) (e8:=vA (.int (p 1))) (jH:=none) (qW:=none) (ji:=none) (lg:=none) (jd:=none) (fun i hi y hy=>I.sm.Yc i y (by have:=List.mem_range.mp hi;omega) hy)
  obtain⟨b14,b15,jd⟩:=N6 (S:=fun y x=>cR w h f y x+pri w (cR w h f) p y x) hns o ways (ks:=List.range 3) (lg:=none) (jd:=none) (e1:=vA (bY w h f)) (e4:=vA (.int (m:Int))) (e5:=vA (jM h m s)) (e6:=vA (.tup [bY w h (pri w (cR w h f) p),.int (p 1)])) (e7:=vA (bY w h (pri w (cR w h f) p))) (e9:=a9) (e10:=a10) (jH:=vA (bY w h (cR w h f))) (ji:=vA (.int (Fl.sm m fun i=>Fl.sm h fun y=>cR w h f y (s i y))))
  refine aK (bx rfl rfl) (aK (cQ (abf o I (by omega)) rfl) (aK (mL ?_ e8) (aK (cQ (abg o.w1 dj fun y _ x _=>aej) rfl) (aK (bx (bH (aB rfl) (Aj o)) rfl) (aK (bx (acS w20 dj) rfl) (aK (cQ (bw (b:=false) (au (bH (aB rfl) ez) rfl ?_)) rfl) (aK (bx (d:= .int (Fl.sm m fun i=>Fl.sm h fun y=>cR w h f y (s i y))) ?_ rfl) (aK (cQ (bw (b:=false) (au (x:= .int ((m:Int)*p 1 - Fl.sm h fun y=>Fl.sm w fun x=>pri w (cR w h f) p y x)) ?_ rfl ?_)) rfl) (aK (mL (jF (m:=3) (aB rfl) (by decide)) jd) (bZ ?_))))))))))
  · show (zip2 [jM h m s,.lst (mC ((List.range m).map fun i=>sm h (s i)) (some ((1:Nat):Int)) none)])=_
    rw[YK (by rw[List.length_map,List.length_range];exact m1)]
    show R.ok (xX ((List.range m).map fun i=>sm h (s i)) (((List.range m).map fun i=>sm h (s i)).drop 1))=_
    rw[abd]
  · show R.ok (D.bl (decide (z < p 1)))=_
    rw[decide_eq_false (by omega)]
  · refine aY (aB (x:= .lst ((List.range m).map fun i=>D.int (Fl.sm h fun y=>cR w h f y (s i y)))) ?_) (by rw[Cz,wW])
    refine cC (l:=List.range m) (c:=fun i=>sm h (s i)) (jD rfl) (by rw[List.length_range];omega) fun i hi=>cN rfl ?_
    rw[←wW,←ad4 o.h1]
    exact bH (aF rfl (aF rfl (aB rfl))) (Ra (.inl rfl) o (I.seam (List.mem_range.mp hi)))
  · refine au (x:= .int ((m:Int)*p 1)) (y:= .int (Fl.sm h fun y=>Fl.sm w fun x=>pri w (cR w h f) p y x)) (au rfl rfl ?_) (aY (aB (x:= .lst ((List.range h).map fun y=>D.int (Fl.sm w fun x=>pri w (cR w h f) p y x))) ?_) (by rw[Cz,wW])) rfl
    · show gR (.int (m:Int)) (.int (p 1))=_
      rw[j5 (.inl ⟨by omega,by omega⟩)]
    · refine cC (l:=List.range h) (c:=fun y=>row w (pri w (cR w h f) p y)) (nR rfl) (by rw[List.length_range];omega) fun y _=>cN rfl (aY (aB rfl) ?_)
      show ni [.tup ((List.range w).map fun x=> .int (pri w (cR w h f) p y x))]=_
      rw[abU,wW]
  · exact pZ (total o.h1 I)
  · refine au (x:= .lst []) ?_ (jf rfl) (Mq rfl (by simp[dep,deps]))
    have e:=qT (ρ:=cG [vA (.lst (ns.map .int)),vA (bY w h f),vA (.int (w:Int)),vA (.int (h:Int)),vA (.int (m:Int)),vA (jM h m s),vA (.tup [bY w h (pri w (cR w h f) p),.int (p 1)]),vA (bY w h (pri w (cR w h f) p)),vA (.int (p 1)),a9,a10,vA (bY w h (cR w h f)),vA (Hj w h fun y x=>cR w h f y x+pri w (cR w h f) p y x),vA (.int (Fl.sm m fun i=>Fl.sm h fun y=>cR w h f y (s i y))),b14,b15]) (n:=1) (caps:=[8,12]) (fi:=d7 (fun ρ=>aj ρ 5)) (gt:=aG 0)
      (ft:=bL (bin (aD ni (ao (bB 2 [2] (fun ρ=>((ao (fun ρ=>aj ρ 0) (fun _=> .ok [])) ρ).bind jh) (dG (dI 2 (bA (aG 0) (bA (aG 1) nilG)))) (fun _=> .ok true) (bin (bin (fun ρ=>aj ρ 2) (fun ρ=>aj ρ 0) bQ) (fun ρ=>aj ρ 1) bQ)) (fun _=> .ok []))) (fun ρ=>aj ρ 1) ltI)) (fe:=fun ρ=>aj ρ 0)
      (l:=List.range m) (c:=fun i=>sm h (s i)) (g:=fun i=>sm h (s i)) (P:=fun _=>false) (jD rfl) (by rw[List.length_range];omega) fun i hi=>?_
    · rw[qU] at e;exact e
    · have Q:=I.seam (List.mem_range.mp hi)
      have:=ways _ Q
      refine wR (b:=false) (ρ1:=[vA (sm h (s i)),vA (.int (p 1)),vA (Hj w h fun y x=>cR w h f y x+pri w (cR w h f) p y x)]) rfl (bw (au (N5 (S:=fun y x=>cR w h f y x+pri w (cR w h f) p y x) (q:=s i) dj Q.lt (mj (aB rfl) (n:=h) (p:=fun y=>D.int ((s i y:Nat):Int)) rfl) rfl) rfl ?_)) rfl
      show R.ok (D.bl (decide ((Fl.sm h fun y=>cR w h f y (s i y)+pri w (cR w h f) p y (s i y)) < p 1)))=_
      rw[decide_eq_false (by omega)]
end
theorem Hl {b:Bool}:fX (.bl b) (.bl b)= .ok (.bl false):=xQ rfl (by simp[dep])
theorem abh (ns:List Int) (hns:ns.length≤63):Lw [.lst (ns.map .int)]= .ok (.bl true):=by
  have hn:ns.length≤1000000:=by omega
  obtain⟨w,h,f,e0,o,hw,hh⟩:=acn (ns:=ns) hn
  obtain⟨d1,a1,a2⟩:=uE (k:=60) (m:=5) hn (by omega) (by omega)
  obtain⟨m,em⟩:=Int.eq_ofNat_of_zero_le (show 0≤1+dr ns 60 5 by omega)
  have m1:1≤m:=by omega
  have m6:m≤6:=by omega
  have e2:(bin (fun _=> .ok (.int 1)) (aD (bC bW 3) (ao (fun ρ=>aj ρ 0) (ao (fun _=> .ok (.int 60)) (ao (fun _=> .ok (.int 5)) (fun _=> .ok []))))) cT) [vA (.lst (ns.map .int)),vA (bY w h f),vA (.int (w:Int)),vA (.int (h:Int)),none,none,none,none,none,none,none,none,none,none,none,none]= .ok (.int (m:Int)):=
    au rfl (bH (aF rfl (aF rfl (aB rfl))) d1) (congrArg (fun z=>R.ok (D.int z)) em)
  by_cases hm:m≤w
  · obtain⟨s,p,ef,I⟩:=acM (C:=cR w h f) o.w1 o.h1 o.w2 o.h2 m1 hm (fun x y hx hy=>(Y0 o hx hy).1) (acO o)
    have et:(bin (fun ρ=>aj ρ 4) (fun ρ=>aj ρ 2) nP) (cG [vA (.lst (ns.map .int)),vA (bY w h f),vA (.int (w:Int)),vA (.int (h:Int)),vA (.int (m:Int)),vA (jM h m s),vA (.tup [bY w h (pri w (cR w h f) p),.int (p 1)]),none,none,none,none,none,none,none,none,none])= .ok (.bl false):=
      au rfl rfl (by rw[rT,decide_eq_false (by omega)])
    refine cI (aK (bx (bH (aF rfl (aF rfl (aF rfl (aB rfl)))) e0) rfl) (aK (bx (bH (aB rfl) (size_eq o)) rfl) (aK (bx e2 rfl) (aK (Jw (bH (aF rfl (aB rfl)) (Rf o m1 m6 hm ef)) (bH (aF rfl (aB rfl)) (Y6 o m1 m6 hm ef))) (aK (cQ (qN (bw (au (x:= .bl false) (au rfl rfl rfl) et Hl)) (bw (au (x:= .bl false) (au rfl rfl rfl) et Hl))) rfl) (aK (cQ (bw (au rfl rfl rfl)) rfl) (aep hn o m1 m6 hm I)))))))
  · have et:(bin (fun ρ=>aj ρ 4) (fun ρ=>aj ρ 2) nP) (cG [vA (.lst (ns.map .int)),vA (bY w h f),vA (.int (w:Int)),vA (.int (h:Int)),vA (.int (m:Int)),vA .non,vA .non,none,none,none,none,none,none,none,none,none])= .ok (.bl true):=
      au rfl rfl (by rw[rT,decide_eq_true (by omega)])
    refine cI (aK (bx (bH (aF rfl (aF rfl (aF rfl (aB rfl)))) e0) rfl) (aK (bx (bH (aB rfl) (size_eq o)) rfl) (aK (bx e2 rfl) (aK (Jw (bH (aF rfl (aB rfl)) (Rc o m1 m6 (by omega))) (bH (aF rfl (aB rfl)) (Y5 o m1 m6 (by omega)))) (aK (cQ (qN (bw (au (x:= .bl true) (au rfl rfl rfl) et Hl)) (bw (au (x:= .bl true) (au rfl rfl rfl) et Hl))) rfl) (rP (jg (bw (b:=true) (au rfl rfl rfl)) (bZ rfl))))))))
end iU
namespace iU
open PySem PySem.Spec L2 Pu
open PyProof.Rows hiding St
theorem tD {us:List Value} {n:Nat} (hl:us.length=n+1):∃a u,us=a::u∧u.length=n:=by
  cases us with
  |nil=>cases hl
  |cons a u=>exact⟨a,u,rfl,Nat.succ.inj hl⟩
theorem zE {F:FuncData} {ps:List Str} {us:List Value} (hl:us.length=1) (h:∀a0,bindArgs F ⟨[a0],[]⟩=pure (ps.zip [a0])):bindArgs F ⟨us,[]⟩=pure (ps.zip us):=by
  obtain⟨a0,u1,rfl,h1⟩:=tD hl
  cases List.eq_nil_of_length_eq_zero h1
  exact h a0
theorem Ao {F:FuncData} {ps:List Str} {us:List Value} (hl:us.length=2) (h:∀a0 a1,bindArgs F ⟨[a0,a1],[]⟩=pure (ps.zip [a0,a1])):bindArgs F ⟨us,[]⟩=pure (ps.zip us):=by
  obtain⟨a0,u1,rfl,h1⟩:=tD hl
  obtain⟨a1,u2,rfl,h2⟩:=tD h1
  cases List.eq_nil_of_length_eq_zero h2
  exact h a0 a1
theorem N7 {F:FuncData} {ps:List Str} {us:List Value} (hl:us.length=3) (h:∀a0 a1 a2,bindArgs F ⟨[a0,a1,a2],[]⟩=pure (ps.zip [a0,a1,a2])):bindArgs F ⟨us,[]⟩=pure (ps.zip us):=by
  obtain⟨a0,u1,rfl,h1⟩:=tD hl
  obtain⟨a1,u2,rfl,h2⟩:=tD h1
  obtain⟨a2,u3,rfl,h3⟩:=tD h2
  cases List.eq_nil_of_length_eq_zero h3
  exact h a0 a1 a2
theorem lk4 {F:FuncData} {ps:List Str} {us:List Value} (hl:us.length=4) (h:∀a0 a1 a2 a3,bindArgs F ⟨[a0,a1,a2,a3],[]⟩=pure (ps.zip [a0,a1,a2,a3])):bindArgs F ⟨us,[]⟩=pure (ps.zip us):=by
  obtain⟨a0,u1,rfl,h1⟩:=tD hl
  obtain⟨a1,u2,rfl,h2⟩:=tD h1
  obtain⟨a2,u3,rfl,h3⟩:=tD h2
  obtain⟨a3,u4,rfl,h4⟩:=tD h3
  cases List.eq_nil_of_length_eq_zero h4
  exact h a0 a1 a2 a3
theorem lk5 {F:FuncData} {ps:List Str} {us:List Value} (hl:us.length=5) (h:∀a0 a1 a2 a3 a4,bindArgs F ⟨[a0,a1,a2,a3,a4],[]⟩=pure (ps.zip [a0,a1,a2,a3,a4])):bindArgs F ⟨us,[]⟩=pure (ps.zip us):=by
  obtain⟨a0,u1,rfl,h1⟩:=tD hl
  obtain⟨a1,u2,rfl,h2⟩:=tD h1
  obtain⟨a2,u3,rfl,h3⟩:=tD h2
  obtain⟨a3,u4,rfl,h4⟩:=tD h3
  obtain⟨a4,u5,rfl,h5⟩:=tD h4
  cases List.eq_nil_of_length_eq_zero h5
  exact h a0 a1 a2 a3 a4
noncomputable def top (i:Nat):Stmt:=PySem.Challenge.pw_seamhall_k46_whole_papers.main.body.getD i (.Pass ⟨0,0,0,0⟩)
noncomputable abbrev jj:Stmt:=top 44
theorem VD:FnScope ["_law_picture_here","_law_x","_law_y"] ["_law_picture_here","_law_x","_law_y"] (defScope jj):=⟨rfl,rfl,rfl,by decide +kernel,rfl,by decide +kernel,by decide +kernel⟩
noncomputable abbrev gj:Stmt:=top 45
theorem tE:FnScope ["_law_picture_here","_law_mode","_law_x","_law_y","_law_before","_law_found"] ["_law_picture_here","_law_mode","_law_x","_law_y","_law_before"] (defScope gj):=⟨rfl,rfl,rfl,by decide +kernel,rfl,by decide +kernel,by decide +kernel⟩
noncomputable abbrev gk:Stmt:=top 46
theorem Aq:FnScope ["_law_picture_here","_law_mode","_law_seam","_law_befores"] ["_law_picture_here","_law_mode","_law_seam"] (defScope gk):=⟨rfl,rfl,rfl,by decide +kernel,rfl,by decide +kernel,by decide +kernel⟩
noncomputable abbrev fG:Stmt:=top 41
theorem dO:FnScope ["_law_script","_law_k","_law_many","_law_cell","_law_turn","_law_rest"] ["_law_script","_law_k","_law_many"] (defScope fG):=⟨rfl,rfl,rfl,by decide +kernel,rfl,by decide +kernel,by decide +kernel⟩
noncomputable abbrev cZ:Stmt:=top 48
theorem jA:FnScope ["_law_rows","_law_here","_law_row"] ["_law_rows"] (defScope cZ):=⟨rfl,rfl,rfl,by decide +kernel,rfl,by decide +kernel,by decide +kernel⟩
noncomputable abbrev dX:Stmt:=top 42
theorem oR:FnScope ["_law_script","_law_at_here","_law_broad","_law_tall","_law_most","_law_rows","_law_y"] ["_law_script","_law_at_here","_law_broad","_law_tall"] (defScope dX):=⟨rfl,rfl,rfl,by decide +kernel,rfl,by decide +kernel,by decide +kernel⟩
noncomputable abbrev gn:Stmt:=top 43
theorem N8:FnScope ["_law_script","_law_at_here","_law_broad","_law_tall"] ["_law_script","_law_at_here","_law_broad","_law_tall"] (defScope gn):=⟨rfl,rfl,rfl,by decide +kernel,rfl,by decide +kernel,by decide +kernel⟩
noncomputable abbrev iu:Stmt:=top 47
theorem vd:FnScope ["_law_script","_law_at_here","_law_broad","_law_tall","_law_way_here","_law_k"] ["_law_script","_law_at_here","_law_broad","_law_tall"] (defScope iu):=⟨rfl,rfl,rfl,by decide +kernel,rfl,by decide +kernel,by decide +kernel⟩
noncomputable abbrev iw:Stmt:=top 7
theorem Rg:FnScope ["thing"] ["thing"] (defScope iw):=⟨rfl,rfl,rfl,by decide +kernel,rfl,by decide +kernel,by decide +kernel⟩
noncomputable abbrev jR:Stmt:=top 19
theorem Y7:FnScope ["thing","wide","high"] ["thing","wide","high"] (defScope jR):=⟨rfl,rfl,rfl,by decide +kernel,rfl,by decide +kernel,by decide +kernel⟩
noncomputable abbrev jk:Stmt:=top 9
theorem VF:FnScope ["thing"] ["thing"] (defScope jk):=⟨rfl,rfl,rfl,by decide +kernel,rfl,by decide +kernel,by decide +kernel⟩
noncomputable abbrev jl:Stmt:=top 8
theorem VG:FnScope ["thing"] ["thing"] (defScope jl):=⟨rfl,rfl,rfl,by decide +kernel,rfl,by decide +kernel,by decide +kernel⟩
noncomputable abbrev jT:Stmt:=top 10
theorem Y8:FnScope ["thing"] ["thing"] (defScope jT):=⟨rfl,rfl,rfl,by decide +kernel,rfl,by decide +kernel,by decide +kernel⟩
noncomputable abbrev fH:Stmt:=top 11
theorem KZ:FnScope ["thing"] ["thing"] (defScope fH):=⟨rfl,rfl,rfl,by decide +kernel,rfl,by decide +kernel,by decide +kernel⟩
noncomputable abbrev dY:Stmt:=top 12
theorem Ho:FnScope ["thing"] ["thing"] (defScope dY):=⟨rfl,rfl,rfl,by decide +kernel,rfl,by decide +kernel,by decide +kernel⟩
noncomputable abbrev jm:Stmt:=top 13
theorem VH:FnScope ["picture"] ["picture"] (defScope jm):=⟨rfl,rfl,rfl,by decide +kernel,rfl,by decide +kernel,by decide +kernel⟩
noncomputable abbrev jo:Stmt:=top 39
theorem Hq:FnScope ["thing","picture","wide","high"] ["thing","picture"] (defScope jo):=⟨rfl,rfl,rfl,by decide +kernel,rfl,by decide +kernel,by decide +kernel⟩
noncomputable abbrev oU:Stmt:=top 20
theorem acT:FnScope ["place","wide"] ["place","wide"] (defScope oU):=⟨rfl,rfl,rfl,by decide +kernel,rfl,by decide +kernel,by decide +kernel⟩
noncomputable abbrev gq:Stmt:=top 26
theorem Oa:FnScope ["x","y","wide"] ["x","y","wide"] (defScope gq):=⟨rfl,rfl,rfl,by decide +kernel,rfl,by decide +kernel,by decide +kernel⟩
noncomputable abbrev gA:Stmt:=top 27
theorem iY:FnScope ["costs","taken","wide","arcs","y","row","x","cost","into"] ["costs","taken"] (defScope gA):=⟨rfl,rfl,rfl,by decide +kernel,rfl,by decide +kernel,by decide +kernel⟩
noncomputable abbrev jq:Stmt:=top 28
theorem jr:FnScope ["costs","seams","arcs","seam","beneath","y","into"] ["costs","seams"] (defScope jq):=⟨rfl,rfl,rfl,by decide +kernel,rfl,by decide +kernel,by decide +kernel⟩
noncomputable abbrev dB:Stmt:=top 31
theorem fJ:FnScope ["taken","ahead","wide","node","before","cell","y","x"] ["taken","ahead"] (defScope dB):=⟨rfl,rfl,rfl,by decide +kernel,rfl,by decide +kernel,by decide +kernel⟩
noncomputable abbrev dM:Stmt:=top 32
theorem tK:FnScope ["taken","many","rows"] ["taken","many"] (defScope dM):=⟨rfl,rfl,rfl,by decide +kernel,rfl,by decide +kernel,by decide +kernel⟩
noncomputable abbrev iz:Stmt:=top 29
theorem jz:FnScope ["arcs","many","least","ahead","changed","node","following","cost"] ["arcs","many"] (defScope iz):=⟨rfl,rfl,rfl,by decide +kernel,rfl,by decide +kernel,by decide +kernel⟩
noncomputable abbrev fK:Stmt:=top 30
theorem Dw:FnScope ["seams","wide","high","rows"] ["seams","wide","high"] (defScope fK):=⟨rfl,rfl,rfl,by decide +kernel,rfl,by decide +kernel,by decide +kernel⟩
noncomputable abbrev oV:Stmt:=top 33
theorem wX:FnScope ["costs","many","wide","high","seams","least","taken","arcs","ahead"] ["costs","many"] (defScope oV):=⟨rfl,rfl,rfl,by decide +kernel,rfl,by decide +kernel,by decide +kernel⟩
noncomputable abbrev gB:Stmt:=top 34
theorem Oc:FnScope ["picture","many"] ["picture","many"] (defScope gB):=⟨rfl,rfl,rfl,by decide +kernel,rfl,by decide +kernel,by decide +kernel⟩
noncomputable abbrev iB:Stmt:=top 36
theorem Rh:FnScope ["cost","least","into"] ["cost","least","into"] (defScope iB):=⟨rfl,rfl,rfl,by decide +kernel,rfl,by decide +kernel,by decide +kernel⟩
noncomputable abbrev oW:Stmt:=top 16
theorem U9:FnScope ["line","last"] ["line"] (defScope oW):=⟨rfl,rfl,rfl,by decide +kernel,rfl,by decide +kernel,by decide +kernel⟩
noncomputable abbrev jU:Stmt:=top 14
theorem Ku:FnScope ["picture","wide","high"] ["picture"] (defScope jU):=⟨rfl,rfl,rfl,by decide +kernel,rfl,by decide +kernel,by decide +kernel⟩
noncomputable abbrev jV:Stmt:=top 17
theorem uH:FnScope ["picture","wide","high","across","down"] ["picture"] (defScope jV):=⟨rfl,rfl,rfl,by decide +kernel,rfl,by decide +kernel,by decide +kernel⟩
noncomputable abbrev jW:Stmt:=top 37
theorem qX:FnScope ["picture","many","wide","costs","seams","least","table"] ["picture","many"] (defScope jW):=⟨rfl,rfl,rfl,by decide +kernel,rfl,by decide +kernel,by decide +kernel⟩
noncomputable abbrev iC:Stmt:=top 35
theorem Ri:FnScope ["picture","many"] ["picture","many"] (defScope iC):=⟨rfl,rfl,rfl,by decide +kernel,rfl,by decide +kernel,by decide +kernel⟩
noncomputable abbrev oX:Stmt:=top 49
theorem kh:FnScope ["_law_script","_law_picture_here","_law_broad","_law_tall","_law_many","_law_seams","_law_told","_law_table","_law_least","_law_one","_law_other","_law_worth","_law_sums","_law_cost_here","_law_k","_law_way_here"] ["_law_script"] (defScope oX):=⟨rfl,rfl,rfl,by decide +kernel,rfl,by decide +kernel,by decide +kernel⟩
structure Txt (K:PySem.W.Frag) (mg:Str→Option Value):Prop where
  uI:∃t,mg "END" =some (.int 1 t)
  Hr:∃t,mg "FAR" =some (.int 1000000 t)
  mV:∃t,mg "MOST_CELL" =some (.int 99 t)
  mW:∃t,mg "MOST_LONG" =some (.int 20 t)
  jt:∃t,mg "MOST_TOGETHER" =some (.int 6 t)
  p7:∃t,mg "START" =some (.int 0 t)
  rG:mg "abs" =none
  rJ:mg "all" =none
  Av:mg "bool" =none
  dD:mg "enumerate" =none
  Ht:mg "int" =none
  gK:mg "isinstance" =none
  c7:mg "len" =none
  wY:mg "list" =none
  oY:mg "max" =none
  m7:mg "min" =none
  dN:mg "range" =none
  oZ:mg "reversed" =none
  qJ:mg "sum" =none
  eV:mg "tuple" =none
  uJ:mg "zip" =none
  Hu:∀d:D,PySem.W.kitOne K (.type (lC d)) (.type "int")=some (Cy (lC d))
  Aw:∀d:D,PySem.W.kitOne K (.type (lC d)) (.type "bool")=some (xP (lC d))
  rW:∀d:D,PySem.W.kitOne K (.type (lC d)) (.type "tuple")=some (nQ (lC d))
  Hv:∀d:D,PySem.W.kitOne K (.type (lC d)) (.type "list")=some (Mp (lC d))
section
variable {P:Program} {w:World} {K:PySem.W.Frag} {mg:Str→Option Value} {base:Heap}
theorem VJ {f:Addr} {cdv:Value} {A:Around} {outer:List PySem.Env} {s:Shared} {H:Hp} {E:XK} (T:Txt K mg)  (hr:Room 0 (A.deeper (envOfC "_law_at" (defScope jj) s.heap.objs.size f cdv))):eF (cxOf CX0 P w K mg base ["_law_picture_here","_law_x","_law_y"] "_law_at" (defScope jj) f cdv A outer s H E).nox (defBody jj) Ad:=by
  exact (aW (bO (bV (bV (dv 0) (aX (sJ rfl) rfl T.oY boot_max (ak aH (ak (aX (zU rfl) rfl T.m7 boot_min (ak (aR dh (aX cW rfl T.c7 PySem.boot_len (ak (dv 0) aA)) aH) (ak (dv 2) aA))) aA)))) (aX (sJ rfl) rfl T.oY boot_max (ak aH (ak (aX (zU rfl) rfl T.m7 boot_min (ak (aR dh (aX cW rfl T.c7 PySem.boot_len (ak (bV (dv 0) aH) aA)) aH) (ak (dv 1) aA))) aA))))))
theorem VL {f:Addr} {fd:FuncData} (Fn:Fun K "_law_at" "_law_at" jj f fd) (hmg:mg "_law_at" =some (.ref f)) (hb:Binds K fd ["_law_picture_here","_law_x","_law_y"] []) (T:Txt K mg)  :bf P w K mg base 1 "_law_at" 3 gJ:=
  cM (k:=0) (g:=Ad) Fn hmg hb VD rfl rfl fun cdv A outer s H E hr=>VJ T  hr
theorem Od {f:Addr} {cdv:Value} {A:Around} {outer:List PySem.Env} {s:Shared} {H:Hp} {E:XK} (T:Txt K mg) (jN:bf P w K mg base 1 "_law_at" 3 gJ) (hr:Room 1 (A.deeper (envOfC "_law_step" (defScope gj) s.heap.objs.size f cdv))):eF (cxOf CX0 P w K mg base ["_law_picture_here","_law_mode","_law_x","_law_y","_law_before","_law_found"] "_law_step" (defScope gj) f cdv A outer s H E).nox (defBody gj) uU:=by
  exact (aU (cD 5 tE.nd (aX zT rfl T.rG boot_abs (ak (aR dh (bM jN hr (by decide) (ak (dv 0) (ak (aR dh (dv 2) aH) (ak (dv 3) aA)))) (bM jN hr (by decide) (ak (dv 0) (ak (aR cj (dv 2) aH) (ak (dv 3) aA))))) aA))) (aU (fB (cH (Lr (gF hr)) (dv 1) Xq) (aW (bO (aR cj (dv 5) (aX zT rfl T.rG boot_abs (ak (aR dh (bM jN hr (by decide) (ak (dv 0) (ak (dv 2) (ak (aR dh (dv 3) aH) aA)))) (bM jN hr (by decide) (ak (dv 0) (ak (dv 2) (ak (aR cj (dv 3) aH) aA))))) aA))))) cY) (aU (fB (DW.dt (LK (cH aaC (dv 4) rY) (Jp (cH (lQ (gF hr)) (dv 4) (dv 2))))) (aW (cD 5 tE.nd (aR cj (dv 5) (aX zT rfl T.rG boot_abs (ak (aR dh (bV (bV (dv 0) (aR dh (dv 3) aH)) (dv 2)) (bV (bV (dv 0) (dv 3)) (aeE (cH qH (dv 4) (dv 2)) (aR dh (dv 2) aH) (aR cj (dv 2) aH)))) aA))))) cY) (aW (bO (dv 5))))))
theorem Oe {f:Addr} {fd:FuncData} (Fn:Fun K "_law_step" "_law_step" gj f fd) (hmg:mg "_law_step" =some (.ref f)) (hb:Binds K fd ["_law_picture_here","_law_mode","_law_x","_law_y","_law_before"] []) (T:Txt K mg) (jN:bf P w K mg base 1 "_law_at" 3 gJ):bf P w K mg base 2 "_law_step" 5 fZ:=
  cM (k:=1) (g:=uU) Fn hmg hb tE rfl rfl fun cdv A outer s H E hr=>Od T jN hr
theorem Og {f:Addr} {cdv:Value} {A:Around} {outer:List PySem.Env} {s:Shared} {H:Hp} {E:XK} (T:Txt K mg) (mX:bf P w K mg base 2 "_law_step" 5 fZ) (hr:Room 2 (A.deeper (envOfC "_law_cost" (defScope gk) s.heap.objs.size f cdv))):eF (cxOf CX0 P w K mg base ["_law_picture_here","_law_mode","_law_seam","_law_befores"] "_law_cost" (defScope gk) f cdv A outer s H E).nox (defBody gk) uV:=by
  exact (aU (cD 3 Aq.nd (aR cj (lu (ak rY aA)) (aaD (dv 2) Ms (xT (GK aH))))) (aW (bO (aX (wB rfl) rfl T.qJ boot_sum (ak (cu ["_law_y","_law_x"] [3,1,0] rfl (by kernel_rfl) (by kernel_rfl) (lV rfl T.dD (ak (dv 2) aA)) (iI (cF (bh (by decide)) (cF (bh (by decide)) iG))) (fun _ _ _ _ nd=>mF rfl (cV (bD 0 nd) (cV (bD 1 nd) kj))) (fun _ _ _ _=>cg) (fun _ _ _ _=>(bM mX hr (by decide) (ak (dv 4) (ak (dv 3) (ak (dv 1) (ak (dv 0) (ak (bV (dv 2) (dv 0)) aA)))))))) aA)))))
theorem Oh {f:Addr} {fd:FuncData} (Fn:Fun K "_law_cost" "_law_cost" gk f fd) (hmg:mg "_law_cost" =some (.ref f)) (hb:Binds K fd ["_law_picture_here","_law_mode","_law_seam"] []) (T:Txt K mg) (mX:bf P w K mg base 2 "_law_step" 5 fZ):bf P w K mg base 3 "_law_cost" 3 mQ:=
  cM (k:=2) (g:=uV) Fn hmg hb Aq rfl rfl fun cdv A outer s H E hr=>Og T mX hr
theorem K1 {f:Addr} {cdv:Value} {A:Around} {outer:List PySem.Env} {s:Shared} {H:Hp} {E:XK} (T:Txt K mg)  (hr:Room 0 (A.deeper (envOfC "_law_drawn" (defScope fG) s.heap.objs.size f cdv))):eF (cxOf CX0 P w K mg base ["_law_script","_law_k","_law_many","_law_cell","_law_turn","_law_rest"] "_law_drawn" (defScope fG) f cdv A outer s H E).nox (defBody fG) sV:=by
  exact (aU (cD 3 dO.nd (aR qL aH (dv 1))) (aU (fB (cH (lQ (gF hr)) (dv 0) (jX aA)) (aU (cD 3 dO.nd (bV (dv 0) (aR oh (dv 1) (aX cW rfl T.c7 PySem.boot_len (ak (dv 0) aA))))) (aU (cD 4 dO.nd (aR lq (dv 1) (aX cW rfl T.c7 PySem.boot_len (ak (dv 0) aA)))) (aU (fB (DW.dt (LK (cH abr (dv 3) (aR Xu aH aH)) (Jp (cH qH (dv 4) aH)))) (aU (cD 5 dO.nd (aR lq (dv 3) (aR Xu aH aH))) (aU (Ei 64 PassesOwn.never (DW.dt (LK (cH xG (dv 5) aH) (Jp (cH xG (dv 4) aH)))) (aU (cD 5 dO.nd (aR lq (dv 5) aH)) (aW (cD 4 dO.nd (aR dh (dv 4) aH))))) (aW (fB (cH xG (dv 5) aH) (aW (bO (aR oh (aR oh (dv 5) aH) (dv 2)))) cY)))) cY) (aW (cD 3 dO.nd (aR jZ (dv 3) (aR qL aH (aR lq (dv 1) (aX cW rfl T.c7 PySem.boot_len (ak (dv 0) aA)))))))))) cY) (aU (cD 3 dO.nd (aR oh (aR jZ (aR qL (aR oh (dv 3) aH) aH) (aR qL aH (aR jZ (dv 1) aH))) aH)) (aU (cD 3 dO.nd (aR oh (aR jZ (aR qL (dv 3) (dv 3)) (aR lq (dv 3) aH)) aH)) (aW (bO (aR oh (aR lq (aR oh (aR jZ (aR qL (dv 3) (dv 3)) (aR lq (dv 3) aH)) aH) aH) (dv 2))))))))
theorem K3 {f:Addr} {fd:FuncData} (Fn:Fun K "_law_drawn" "_law_drawn" fG f fd) (hmg:mg "_law_drawn" =some (.ref f)) (hb:Binds K fd ["_law_script","_law_k","_law_many"] []) (T:Txt K mg)  :bf P w K mg base 1 "_law_drawn" 3 bW:=
  cM (k:=0) (g:=sV) Fn hmg hb dO rfl rfl fun cdv A outer s H E hr=>K1 T  hr
theorem CV {f:Addr} {cdv:Value} {A:Around} {outer:List PySem.Env} {s:Shared} {H:Hp} {E:XK} (T:Txt K mg)  (hr:Room 0 (A.deeper (envOfC "_law_least_sum" (defScope cZ) s.heap.objs.size f cdv))):eF (cxOf CX0 P w K mg base ["_law_rows","_law_here","_law_row"] "_law_least_sum" (defScope cZ) f cdv A outer s H E).nox (defBody cZ) nq:=by
  exact (aU (cD 1 jA.nd (gU abS rfl T.wY boot_list (ak (bV (dv 0) (GK aH)) aA))) (aU (mJ PassesOwn.never rfl (fj (acg (dv 0))) (pJ 2 jA.nd) (aW (cD 1 jA.nd (cu ["_law_x","_law_cost_here"] [1] rfl (by kernel_rfl) (by kernel_rfl) (lV rfl T.dD (ak (dv 2) aA)) (iI (cF (bh (by decide)) (cF (bh (by decide)) iG))) (fun _ _ _ _ nd=>mF rfl (cV (bD 0 nd) (cV (bD 1 nd) kj))) (fun _ _ _ _=>cg) (fun _ _ _ _=>(aR cj (dv 1) (aX (Jx rfl) rfl T.m7 boot_min (ak (Kf (dv 2) (xT (aX (sJ rfl) rfl T.oY boot_max (ak aH (ak (aR dh (dv 0) aH) aA)))) (xT (aR cj (dv 0) aH))) aA)))))))) (aW (bO (aX (Jx rfl) rfl T.m7 boot_min (ak (dv 1) aA))))))
theorem CW {f:Addr} {fd:FuncData} (Fn:Fun K "_law_least_sum" "_law_least_sum" cZ f fd) (hmg:mg "_law_least_sum" =some (.ref f)) (hb:Binds K fd ["_law_rows"] []) (T:Txt K mg)  :bf P w K mg base 1 "_law_least_sum" 1 iV:=
  cM (k:=0) (g:=nq) Fn hmg hb jA rfl rfl fun cdv A outer s H E hr=>CV T  hr
theorem Hw {f:Addr} {cdv:Value} {A:Around} {outer:List PySem.Env} {s:Shared} {H:Hp} {E:XK} (T:Txt K mg) (bU:bf P w K mg base 1 "_law_drawn" 3 bW) (hr:Room 1 (A.deeper (envOfC "_law_picture" (defScope dX) s.heap.objs.size f cdv))):eF (cxOf CX0 P w K mg base ["_law_script","_law_at_here","_law_broad","_law_tall","_law_most","_law_rows","_law_y"] "_law_picture" (defScope dX) f cdv A outer s H E).nox (defBody dX) pQ:=by
  exact (aU (abT 4 5 rfl oR.nd (bV (jX (ak aH (ak aH (ak aH (ak aH aA))))) (bM bU hr (by decide) (ak (dv 0) (ak (dv 1) (ak aH aA))))) aA) (aU (mJ PassesOwn.never rfl (eO rfl T.dN (ak (dv 3) aA)) (pJ 6 oR.nd) (aW (Gw 5 (gU iQ rfl T.eV boot_tuple (ak (cu ["_law_x"] [1,2,4,0,6] rfl (by kernel_rfl) (by kernel_rfl) (eO rfl T.dN (ak (dv 2) aA)) (bh (by decide)) (fun _ _ _ _ nd=>bD 0 nd) (fun _ _ _ _=>cg) (fun _ _ _ _=>(bM bU hr (by decide) (ak (dv 4) (ak (aR jZ (aR jZ (aR jZ (dv 1) aH) (aR qL (dv 2) (dv 5))) (dv 0)) (ak (dv 3) aA)))))) aA))))) (aW (bO (gU iQ rfl T.eV boot_tuple (ak (dv 5) aA))))))
theorem Hx {f:Addr} {fd:FuncData} (Fn:Fun K "_law_picture" "_law_picture" dX f fd) (hmg:mg "_law_picture" =some (.ref f)) (hb:Binds K fd ["_law_script","_law_at_here","_law_broad","_law_tall"] []) (T:Txt K mg) (bU:bf P w K mg base 1 "_law_drawn" 3 bW):bf P w K mg base 2 "_law_picture" 4 iM:=
  cM (k:=1) (g:=pQ) Fn hmg hb oR rfl rfl fun cdv A outer s H E hr=>Hw T bU hr
theorem Oi {f:Addr} {cdv:Value} {A:Around} {outer:List PySem.Env} {s:Shared} {H:Hp} {E:XK} (T:Txt K mg) (bU:bf P w K mg base 1 "_law_drawn" 3 bW) (jJ:bf P w K mg base 2 "_law_picture" 4 iM) (hr:Room 2 (A.deeper (envOfC "_law_some" (defScope gn) s.heap.objs.size f cdv))):eF (cxOf CX0 P w K mg base ["_law_script","_law_at_here","_law_broad","_law_tall"] "_law_some" (defScope gn) f cdv A outer s H E).nox (defBody gn) uW:=by
  exact (aW (bO (bM jJ hr (by decide) (ak (dv 0) (ak (aR jZ (dv 1) aH) (ak (aR jZ aH (bM bU hr (by decide) (ak (dv 0) (ak (dv 1) (ak (dv 2) aA))))) (ak (aR jZ aH (bM bU hr (by decide) (ak (dv 0) (ak (aR jZ (dv 1) aH) (ak (dv 3) aA))))) aA)))))))
theorem Oj {f:Addr} {fd:FuncData} (Fn:Fun K "_law_some" "_law_some" gn f fd) (hmg:mg "_law_some" =some (.ref f)) (hb:Binds K fd ["_law_script","_law_at_here","_law_broad","_law_tall"] []) (T:Txt K mg) (bU:bf P w K mg base 1 "_law_drawn" 3 bW) (jJ:bf P w K mg base 2 "_law_picture" 4 iM):bf P w K mg base 3 "_law_some" 4 mR:=
  cM (k:=2) (g:=uW) Fn hmg hb N8 rfl rfl fun cdv A outer s H E hr=>Oi T bU jJ hr
theorem Rj {f:Addr} {cdv:Value} {A:Around} {outer:List PySem.Env} {s:Shared} {H:Hp} {E:XK} (T:Txt K mg) (bU:bf P w K mg base 1 "_law_drawn" 3 bW) (hr:Room 1 (A.deeper (envOfC "_law_way" (defScope iu) s.heap.objs.size f cdv))):eF (cxOf CX0 P w K mg base ["_law_script","_law_at_here","_law_broad","_law_tall","_law_way_here","_law_k"] "_law_way" (defScope iu) f cdv A outer s H E).nox (defBody iu) yd:=by
  exact (aU (TY 4 vd.nd (ak (bM bU hr (by decide) (ak (dv 0) (ak (dv 1) (ak (dv 2) aA)))) aA)) (aU (mJ PassesOwn.never rfl (eO rfl T.dN (ak (aR dh (dv 3) aH) aA)) (pJ 5 vd.nd) (aW (Gw 4 (aX (sJ rfl) rfl T.oY boot_max (ak aH (ak (aX (zU rfl) rfl T.m7 boot_min (ak (aR dh (dv 2) aH) (ak (aR dh (aR cj (Yn 4 (GK aH)) (bM bU hr (by decide) (ak (dv 0) (ak (aR cj (aR cj (dv 1) aH) (dv 5)) (ak aH aA))))) aH) aA))) aA)))))) (aW (bO (gU iQ rfl T.eV boot_tuple (ak (dv 4) aA))))))
theorem Rk {f:Addr} {fd:FuncData} (Fn:Fun K "_law_way" "_law_way" iu f fd) (hmg:mg "_law_way" =some (.ref f)) (hb:Binds K fd ["_law_script","_law_at_here","_law_broad","_law_tall"] []) (T:Txt K mg) (bU:bf P w K mg base 1 "_law_drawn" 3 bW):bf P w K mg base 2 "_law_way" 4 oK:=
  cM (k:=1) (g:=yd) Fn hmg hb vd rfl rfl fun cdv A outer s H E hr=>Rj T bU hr
theorem Rn {f:Addr} {cdv:Value} {A:Around} {outer:List PySem.Env} {s:Shared} {H:Hp} {E:XK} (T:Txt K mg)  (hr:Room 0 (A.deeper (envOfC "is_whole" (defScope iw) s.heap.objs.size f cdv))):eF (cxOf CX0 P w K mg base ["thing"] "is_whole" (defScope iw) f cdv A outer s H E).nox (defBody iw) yg:=by
  exact (aW (bO (zL (Cw (ans:=Cy) T.Hu (dv 0) rfl T.gK boot_isinstance rfl T.Ht boot_int) (zK (Xv (Cw (ans:=xP) T.Aw (dv 0) rfl T.gK boot_isinstance rfl T.Av boot_bool))))))
theorem Ro {f:Addr} {fd:FuncData} (Fn:Fun K "is_whole" "is_whole" iw f fd) (hmg:mg "is_whole" =some (.ref f)) (hb:Binds K fd ["thing"] []) (T:Txt K mg)  :bf P w K mg base 1 "is_whole" 1 eN:=
  cM (k:=0) (g:=yg) Fn hmg hb Rg rfl rfl fun cdv A outer s H E hr=>Rn T  hr
theorem Y9 {f:Addr} {cdv:Value} {A:Around} {outer:List PySem.Env} {s:Shared} {H:Hp} {E:XK} (T:Txt K mg) (dg:bf P w K mg base 1 "is_whole" 1 eN) (hr:Room 1 (A.deeper (envOfC "is_way" (defScope jR) s.heap.objs.size f cdv))):eF (cxOf CX0 P w K mg base ["thing","wide","high"] "is_way" (defScope jR) f cdv A outer s H E).nox (defBody jR) Eo:=by
  exact (aU (fB (DW.dt (xH (oA (mD (Cw (ans:=nQ) T.rW (dv 0) rfl T.gK boot_isinstance rfl T.eV boot_tuple))) (su (cH (lQ (gF hr)) (aX cW rfl T.c7 PySem.boot_len (ak (dv 0) aA)) (dv 2))))) (aW (bO kY)) cY) (aU (fB (oA (mD (aX (zO rfl) rfl T.rJ boot_all (ak (cu ["place"] [1] rfl (by kernel_rfl) (by kernel_rfl) (fj (dv 0)) (bh (by decide)) (fun _ _ _ _ nd=>bD 0 nd) (fun _ _ _ _=>cg) (fun _ _ _ _=>(zL (bM dg hr (by decide) (ak (dv 0) aA)) (zK (Ef um qH aH (dv 0) (dv 1)))))) aA)))) (aW (bO kY)) cY) (aW (bO (aX (zO rfl) rfl T.rJ boot_all (ak (cu ["y"] [0] rfl (by kernel_rfl) (by kernel_rfl) (Xw rfl T.dN (ak aH (ak (dv 2) aA))) (bh (by decide)) (fun _ _ _ _ nd=>bD 0 nd) (fun _ _ _ _=>cg) (fun _ _ _ _=>(qK um (aX zT rfl T.rG boot_abs (ak (aR dh (bV (dv 1) (dv 0)) (bV (dv 1) (aR dh (dv 0) aH))) aA)) aH))) aA))))))
theorem Za {f:Addr} {fd:FuncData} (Fn:Fun K "is_way" "is_way" jR f fd) (hmg:mg "is_way" =some (.ref f)) (hb:Binds K fd ["thing","wide","high"] []) (T:Txt K mg) (dg:bf P w K mg base 1 "is_whole" 1 eN):bf P w K mg base 2 "is_way" 3 pR:=
  cM (k:=1) (g:=Eo) Fn hmg hb Y7 rfl rfl fun cdv A outer s H E hr=>Y9 T dg hr
theorem VN {f:Addr} {cdv:Value} {A:Around} {outer:List PySem.Env} {s:Shared} {H:Hp} {E:XK} (T:Txt K mg)  (hr:Room 0 (A.deeper (envOfC "is_line" (defScope jk) s.heap.objs.size f cdv))):eF (cxOf CX0 P w K mg base ["thing"] "is_line" (defScope jk) f cdv A outer s H E).nox (defBody jk) Ae:=by
  obtain⟨aeB,Rp⟩:=T.mW
  exact (aW (bO (zL (Cw (ans:=nQ) T.rW (dv 0) rfl T.gK boot_isinstance rfl T.eV boot_tuple) (zK (Ef um um aH (aX cW rfl T.c7 PySem.boot_len (ak (dv 0) aA)) (jB rfl Rp))))))
theorem VP {f:Addr} {fd:FuncData} (Fn:Fun K "is_line" "is_line" jk f fd) (hmg:mg "is_line" =some (.ref f)) (hb:Binds K fd ["thing"] []) (T:Txt K mg)  :bf P w K mg base 1 "is_line" 1 iJ:=
  cM (k:=0) (g:=Ae) Fn hmg hb VF rfl rfl fun cdv A outer s H E hr=>VN T  hr
theorem VR {f:Addr} {cdv:Value} {A:Around} {outer:List PySem.Env} {s:Shared} {H:Hp} {E:XK} (T:Txt K mg) (dg:bf P w K mg base 1 "is_whole" 1 eN) (hr:Room 1 (A.deeper (envOfC "is_cell" (defScope jl) s.heap.objs.size f cdv))):eF (cxOf CX0 P w K mg base ["thing"] "is_cell" (defScope jl) f cdv A outer s H E).nox (defBody jl) Af:=by
  obtain⟨aeC,Rq⟩:=T.mV
  exact (aW (bO (zL (bM dg hr (by decide) (ak (dv 0) aA)) (zK (Ef um um aH (dv 0) (jB rfl Rq))))))
theorem V0 {f:Addr} {fd:FuncData} (Fn:Fun K "is_cell" "is_cell" jl f fd) (hmg:mg "is_cell" =some (.ref f)) (hb:Binds K fd ["thing"] []) (T:Txt K mg) (dg:bf P w K mg base 1 "is_whole" 1 eN):bf P w K mg base 2 "is_cell" 1 nY:=
  cM (k:=1) (g:=Af) Fn hmg hb VG rfl rfl fun cdv A outer s H E hr=>VR T dg hr
theorem Zb {f:Addr} {cdv:Value} {A:Around} {outer:List PySem.Env} {s:Shared} {H:Hp} {E:XK} (T:Txt K mg) (qY:bf P w K mg base 2 "is_cell" 1 nY) (iK:bf P w K mg base 1 "is_line" 1 iJ) (hr:Room 2 (A.deeper (envOfC "is_row" (defScope jT) s.heap.objs.size f cdv))):eF (cxOf CX0 P w K mg base ["thing"] "is_row" (defScope jT) f cdv A outer s H E).nox (defBody jT) Ep:=by
  exact (aW (bO (zL (bM iK hr (by decide) (ak (dv 0) aA)) (zK (aX (zO rfl) rfl T.rJ boot_all (ak (cu ["cell"] [] rfl (by kernel_rfl) (by kernel_rfl) (fj (dv 0)) (bh (by decide)) (fun _ _ _ _ nd=>bD 0 nd) (fun _ _ _ _=>cg) (fun _ _ _ _=>(bM qY hr (by decide) (ak (dv 0) aA)))) aA))))))
theorem Zc {f:Addr} {fd:FuncData} (Fn:Fun K "is_row" "is_row" jT f fd) (hmg:mg "is_row" =some (.ref f)) (hb:Binds K fd ["thing"] []) (T:Txt K mg) (qY:bf P w K mg base 2 "is_cell" 1 nY) (iK:bf P w K mg base 1 "is_line" 1 iJ):bf P w K mg base 3 "is_row" 1 pU:=
  cM (k:=2) (g:=Ep) Fn hmg hb Y8 rfl rfl fun cdv A outer s H E hr=>Zb T qY iK hr
theorem K4 {f:Addr} {cdv:Value} {A:Around} {outer:List PySem.Env} {s:Shared} {H:Hp} {E:XK} (T:Txt K mg) (iK:bf P w K mg base 1 "is_line" 1 iJ) (tM:bf P w K mg base 3 "is_row" 1 pU) (hr:Room 3 (A.deeper (envOfC "is_picture" (defScope fH) s.heap.objs.size f cdv))):eF (cxOf CX0 P w K mg base ["thing"] "is_picture" (defScope fH) f cdv A outer s H E).nox (defBody fH) sW:=by
  exact (aU (fB (DW.dt (xH (oA (mD (bM iK hr (by decide) (ak (dv 0) aA)))) (su (oA (mD (aX (zO rfl) rfl T.rJ boot_all (ak (cu ["row"] [] rfl (by kernel_rfl) (by kernel_rfl) (fj (dv 0)) (bh (by decide)) (fun _ _ _ _ nd=>bD 0 nd) (fun _ _ _ _=>cg) (fun _ _ _ _=>(bM tM hr (by decide) (ak (dv 0) aA)))) aA))))))) (aW (bO kY)) cY) (aW (bO (aX (zO rfl) rfl T.rJ boot_all (ak (cu ["row"] [0] rfl (by kernel_rfl) (by kernel_rfl) (fj (dv 0)) (bh (by decide)) (fun _ _ _ _ nd=>bD 0 nd) (fun _ _ _ _=>cg) (fun _ _ _ _=>(qK (Lr (gF hr)) (aX cW rfl T.c7 PySem.boot_len (ak (dv 0) aA)) (aX cW rfl T.c7 PySem.boot_len (ak (bV (dv 1) aH) aA))))) aA)))))
theorem K5 {f:Addr} {fd:FuncData} (Fn:Fun K "is_picture" "is_picture" fH f fd) (hmg:mg "is_picture" =some (.ref f)) (hb:Binds K fd ["thing"] []) (T:Txt K mg) (iK:bf P w K mg base 1 "is_line" 1 iJ) (tM:bf P w K mg base 3 "is_row" 1 pU):bf P w K mg base 4 "is_picture" 1 jG:=
  cM (k:=3) (g:=sW) Fn hmg hb KZ rfl rfl fun cdv A outer s H E hr=>K4 T iK tM hr
theorem Hy {f:Addr} {cdv:Value} {A:Around} {outer:List PySem.Env} {s:Shared} {H:Hp} {E:XK} (T:Txt K mg) (lN:bf P w K mg base 4 "is_picture" 1 jG) (hr:Room 4 (A.deeper (envOfC "need_picture" (defScope dY) s.heap.objs.size f cdv))):eF (cxOf CX0 P w K mg base ["thing"] "need_picture" (defScope dY) f cdv A outer s H E).nox (defBody dY) pW:=by
  exact (aW (fB (oA (mD (bM lN hr (by decide) (ak (dv 0) aA)))) (aW Mg) cY))
theorem Hz {f:Addr} {fd:FuncData} (Fn:Fun K "need_picture" "need_picture" dY f fd) (hmg:mg "need_picture" =some (.ref f)) (hb:Binds K fd ["thing"] []) (T:Txt K mg) (lN:bf P w K mg base 4 "is_picture" 1 jG):bf P w K mg base 5 "need_picture" 1 dU:=
  cM (k:=4) (g:=pW) Fn hmg hb Ho rfl rfl fun cdv A outer s H E hr=>Hy T lN hr
theorem V1 {f:Addr} {cdv:Value} {A:Around} {outer:List PySem.Env} {s:Shared} {H:Hp} {E:XK} (T:Txt K mg) (dF:bf P w K mg base 5 "need_picture" 1 dU) (hr:Room 5 (A.deeper (envOfC "size_of" (defScope jm) s.heap.objs.size f cdv))):eF (cxOf CX0 P w K mg base ["picture"] "size_of" (defScope jm) f cdv A outer s H E).nox (defBody jm) Ag:=by
  exact (aU (Cv (bM dF hr (by decide) (ak (dv 0) aA))) (aW (bO (lu (ak (aX cW rfl T.c7 PySem.boot_len (ak (bV (dv 0) aH) aA)) (ak (aX cW rfl T.c7 PySem.boot_len (ak (dv 0) aA)) aA))))))
theorem V2 {f:Addr} {fd:FuncData} (Fn:Fun K "size_of" "size_of" jm f fd) (hmg:mg "size_of" =some (.ref f)) (hb:Binds K fd ["picture"] []) (T:Txt K mg) (dF:bf P w K mg base 5 "need_picture" 1 dU):bf P w K mg base 6 "size_of" 1 d9:=
  cM (k:=5) (g:=Ag) Fn hmg hb VH rfl rfl fun cdv A outer s H E hr=>V1 T dF hr
theorem V3 {f:Addr} {cdv:Value} {A:Around} {outer:List PySem.Env} {s:Shared} {H:Hp} {E:XK} (T:Txt K mg) (tO:bf P w K mg base 2 "is_way" 3 pR) (cU:bf P w K mg base 6 "size_of" 1 d9) (hr:Room 6 (A.deeper (envOfC "is_seam" (defScope jo) s.heap.objs.size f cdv))):eF (cxOf CX0 P w K mg base ["thing","picture","wide","high"] "is_seam" (defScope jo) f cdv A outer s H E).nox (defBody jo) Ah:=by
  exact (aU (rM 2 3 rfl Hq.nd (bM cU hr (by decide) (ak (dv 1) aA))) (aW (bO (bM tO hr (by decide) (ak (dv 0) (ak (dv 2) (ak (dv 3) aA)))))))
theorem V4 {f:Addr} {fd:FuncData} (Fn:Fun K "is_seam" "is_seam" jo f fd) (hmg:mg "is_seam" =some (.ref f)) (hb:Binds K fd ["thing","picture"] []) (T:Txt K mg) (tO:bf P w K mg base 2 "is_way" 3 pR) (cU:bf P w K mg base 6 "size_of" 1 d9):bf P w K mg base 7 "is_seam" 2 lJ:=
  cM (k:=6) (g:=Ah) Fn hmg hb Hq rfl rfl fun cdv A outer s H E hr=>V3 T tO cU hr
theorem acU {f:Addr} {cdv:Value} {A:Around} {outer:List PySem.Env} {s:Shared} {H:Hp} {E:XK} (T:Txt K mg)  (hr:Room 0 (A.deeper (envOfC "near" (defScope oU) s.heap.objs.size f cdv))):eF (cxOf CX0 P w K mg base ["place","wide"] "near" (defScope oU) f cdv A outer s H E).nox (defBody oU) Ni:=by
  exact (aW (bO (aaO rfl rfl T.wY rfl T.dN (ak (aX (sJ rfl) rfl T.oY boot_max (ak (aR dh (dv 0) aH) (ak aH aA))) (ak (aX (zU rfl) rfl T.m7 boot_min (ak (aR cj (dv 0) aH) (ak (dv 1) aA))) aA)))))
theorem acV {f:Addr} {fd:FuncData} (Fn:Fun K "near" "near" oU f fd) (hmg:mg "near" =some (.ref f)) (hb:Binds K fd ["place","wide"] []) (T:Txt K mg)  :bf P w K mg base 1 "near" 2 wL:=
  cM (k:=0) (g:=Ni) Fn hmg hb acT rfl rfl fun cdv A outer s H E hr=>acU T  hr
theorem Ol {f:Addr} {cdv:Value} {A:Around} {outer:List PySem.Env} {s:Shared} {H:Hp} {E:XK} (T:Txt K mg)  (hr:Room 0 (A.deeper (envOfC "node_into" (defScope gq) s.heap.objs.size f cdv))):eF (cxOf CX0 P w K mg base ["x","y","wide"] "node_into" (defScope gq) f cdv A outer s H E).nox (defBody gq) uX:=by
  exact (aW (bO (aR pO aH (aR cj (aR cj (aR pO (dv 1) (dv 2)) (dv 0)) aH))))
theorem Om {f:Addr} {fd:FuncData} (Fn:Fun K "node_into" "node_into" gq f fd) (hmg:mg "node_into" =some (.ref f)) (hb:Binds K fd ["x","y","wide"] []) (T:Txt K mg)  :bf P w K mg base 1 "node_into" 3 cX:=
  cM (k:=0) (g:=uX) Fn hmg hb Oa rfl rfl fun cdv A outer s H E hr=>Ol T  hr
theorem Oo {f:Addr} {cdv:Value} {A:Around} {outer:List PySem.Env} {s:Shared} {H:Hp} {E:XK} (T:Txt K mg) (Ax:bf P w K mg base 1 "near" 2 wL) (cJ:bf P w K mg base 1 "node_into" 3 cX) (hr:Room 1 (A.deeper (envOfC "arcs_down" (defScope gA) s.heap.objs.size f cdv))):eF (cxOf CX0 P w K mg base ["costs","taken","wide","arcs","y","row","x","cost","into"] "arcs_down" (defScope gA) f cdv A outer s H E).nox (defBody gA) uY:=by
  obtain⟨V5,yx⟩:=T.uI
  obtain⟨Va,wZ⟩:=T.p7
  exact (aU (cD 2 iY.nd (aX cW rfl T.c7 PySem.boot_len (ak (bV (dv 0) aH) aA))) (aU (aaQ 3 iY.nd ["x"] [2] rfl (by kernel_rfl) (by kernel_rfl) (eO rfl T.dN (ak (dv 2) aA)) (bh (by decide)) (fun _ _ _ _ nd=>bD 0 nd) (fun _ _ _ _=>cg) (fun _ _ _ _=>(lu (ak (jB rfl wZ) (ak (bM cJ hr (by decide) (ak (dv 0) (ak aH (ak (dv 1) aA)))) (ak aH aA)))))) (aU (mJ PassesOwn.never rfl (lV rfl T.dD (ak (dv 0) aA)) (Js 4 5 rfl iY.nd) (aW (mJ PassesOwn.never rfl (lV rfl T.dD (ak (dv 5) aA)) (Js 6 7 rfl iY.nd) (aU (cD 8 iY.nd (bM cJ hr (by decide) (ak (dv 6) (ak (dv 4) (ak (dv 2) aA))))) (aU (fB (oA (mD (bV (bV (dv 1) (dv 4)) (dv 6)))) (aW (Gw 3 (lu (ak (dv 8) (ak (aR cj (dv 8) aH) (ak (dv 7) aA)))))) cY) (aW (fB (cH qH (aR cj (dv 4) aH) (aX cW rfl T.c7 PySem.boot_len (ak (dv 0) aA))) (aW (Uh 3 iY.nd (cu ["place"] [8,2,4] rfl (by kernel_rfl) (by kernel_rfl) (fj (bM Ax hr (by decide) (ak (dv 6) (ak (dv 2) aA)))) (bh (by decide)) (fun _ _ _ _ nd=>bD 0 nd) (fun _ _ _ _=>cg) (fun _ _ _ _=>(lu (ak (aR cj (dv 1) aH) (ak (bM cJ hr (by decide) (ak (dv 0) (ak (aR cj (dv 3) aH) (ak (dv 2) aA)))) (ak aH aA)))))))) (aW (Gw 3 (lu (ak (aR cj (dv 8) aH) (ak (jB rfl yx) (ak aH aA))))))))))))) (aW (bO (dv 3))))))
theorem Oq {f:Addr} {fd:FuncData} (Fn:Fun K "arcs_down" "arcs_down" gA f fd) (hmg:mg "arcs_down" =some (.ref f)) (hb:Binds K fd ["costs","taken"] []) (T:Txt K mg) (Ax:bf P w K mg base 1 "near" 2 wL) (cJ:bf P w K mg base 1 "node_into" 3 cX):bf P w K mg base 2 "arcs_down" 2 kJ:=
  cM (k:=1) (g:=uY) Fn hmg hb iY rfl rfl fun cdv A outer s H E hr=>Oo T Ax cJ hr
theorem V6 {f:Addr} {cdv:Value} {A:Around} {outer:List PySem.Env} {s:Shared} {H:Hp} {E:XK} (T:Txt K mg) (cJ:bf P w K mg base 1 "node_into" 3 cX) (hr:Room 1 (A.deeper (envOfC "arcs_up" (defScope jq) s.heap.objs.size f cdv))):eF (cxOf CX0 P w K mg base ["costs","seams","arcs","seam","beneath","y","into"] "arcs_up" (defScope jq) f cdv A outer s H E).nox (defBody jq) Ai:=by
  obtain⟨V5,yx⟩:=T.uI
  exact (aU (TY 2 jr.nd aA) (aU (mJ PassesOwn.never rfl (fj (dv 1)) (pJ 3 jr.nd) (aU (cD 4 jr.nd (jB rfl yx)) (aW (mJ PassesOwn.never rfl (ab7 rfl T.oZ rfl T.dN (ak (aX cW rfl T.c7 PySem.boot_len (ak (dv 3) aA)) aA)) (pJ 5 jr.nd) (aU (cD 6 jr.nd (bM cJ hr (by decide) (ak (bV (dv 3) (dv 5)) (ak (dv 5) (ak (aX cW rfl T.c7 PySem.boot_len (ak (bV (dv 0) aH) aA)) aA))))) (aU (Uh 2 jr.nd (jX (ak (lu (ak (dv 4) (ak (aR cj (dv 6) aH) (ak aH aA)))) (ak (lu (ak (aR cj (dv 6) aH) (ak (dv 6) (ak (GK (bV (bV (dv 0) (dv 5)) (bV (dv 3) (dv 5)))) aA)))) aA)))) (aW (cD 4 jr.nd (dv 6))))))))) (aW (bO (dv 2)))))
theorem V7 {f:Addr} {fd:FuncData} (Fn:Fun K "arcs_up" "arcs_up" jq f fd) (hmg:mg "arcs_up" =some (.ref f)) (hb:Binds K fd ["costs","seams"] []) (T:Txt K mg) (cJ:bf P w K mg base 1 "node_into" 3 cX):bf P w K mg base 2 "arcs_up" 2 nZ:=
  cM (k:=1) (g:=Ai) Fn hmg hb jr rfl rfl fun cdv A outer s H E hr=>V6 T cJ hr
theorem HB {f:Addr} {cdv:Value} {A:Around} {outer:List PySem.Env} {s:Shared} {H:Hp} {E:XK} (T:Txt K mg)  {a:Addr} {rs:List Addr} (hr:Room 0 (A.deeper (envOfC "change_along" (defScope dB) s.heap.objs.size f cdv))):PSs (cxOf CX0 P w K mg base ["taken","ahead","wide","node","before","cell","y","x"] "change_along" (defScope dB) f cdv A outer s H E).nox (defBody dB) (rC (cxOf CX0 P w K mg base ["taken","ahead","wide","node","before","cell","y","x"] "change_along" (defScope dB) f cdv A outer s H E).nox a rs dW):=by
  obtain⟨V5,yx⟩:=T.uI
  obtain⟨Va,wZ⟩:=T.p7
  exact (rQ (zX 2 (by decide) fJ.nd (aX cW rfl T.c7 PySem.boot_len (ak (bV (dv 0) aH) aA))) (rQ (zX 3 (by decide) fJ.nd (jB rfl yx)) (M7 (aaX 1000 PassesOwn.never (cH (lQ (gF hr)) (dv 3) (jB rfl wZ)) (rQ (zX 4 (by decide) fJ.nd (bV (dv 1) (dv 3))) (rQ (aeM (cH (Lr (gF hr)) (aR lq (dv 4) aH) (aR lq (dv 3) aH)) (rQ (zX 5 (by decide) fJ.nd (aR dh (aR lq (dv 3) aH) aH)) (rQ (adQ 6 7 (by decide) (by decide) rfl fJ.nd (aR lq (dv 5) (dv 2)) (aR oh (dv 5) (dv 2))) (M7 (ace 6 7 (Xv (bV (bV (dv 0) (dv 6)) (dv 7))))))) adP) (M7 (zX 3 (by decide) fJ.nd (dv 4)))))))))
theorem HD {f:Addr} {fd:FuncData} (Fn:Fun K "change_along" "change_along" dB f fd) (hmg:mg "change_along" =some (.ref f)) (hb:Binds K fd ["taken","ahead"] []) (T:Txt K mg)  :Nf P w K mg base 1 "change_along" dW 6:=
  ⟨f,fd,["taken","ahead"],fnC (k:=0) (m:=6) (g:=dW) Fn fJ rfl rfl (fun cdv A outer s H E a rs hr=>HB T  hr),hmg,Fn.kp,hb⟩
theorem Eu {f:Addr} {cdv:Value} {A:Around} {outer:List PySem.Env} {s:Shared} {H:Hp} {E:XK} (T:Txt K mg)  (hr:Room 0 (A.deeper (envOfC "seams_through" (defScope dM) s.heap.objs.size f cdv))):eF (cxOf CX0 P w K mg base ["taken","many","rows"] "seams_through" (defScope dM) f cdv A outer s H E).nox (defBody dM) oM:=by
  exact (aU (cD 2 tK.nd (cu ["row"] [] rfl (by kernel_rfl) (by kernel_rfl) (fj (dv 0)) (bh (by decide)) (fun _ _ _ _ nd=>bD 0 nd) (fun _ _ _ _=>cg) (fun _ _ _ _=>(cu ["x","is_taken"] [] rfl (by kernel_rfl) (by kernel_rfl) (lV rfl T.dD (ak (dv 0) aA)) (iI (cF (bh (by decide)) (cF (bh (by decide)) iG))) (fun _ _ _ _ nd=>mF rfl (cV (bD 0 nd) (cV (bD 1 nd) kj))) (fun _ _ _ _=>(wA (mD (dv 1)))) (fun _ _ _ _=>(dv 0)))))) (aW (bO (cu ["at"] [2] rfl (by kernel_rfl) (by kernel_rfl) (eO rfl T.dN (ak (dv 1) aA)) (bh (by decide)) (fun _ _ _ _ nd=>bD 0 nd) (fun _ _ _ _=>cg) (fun _ _ _ _=>(gU iQ rfl T.eV boot_tuple (ak (cu ["row"] [0] rfl (by kernel_rfl) (by kernel_rfl) (fj (dv 1)) (bh (by decide)) (fun _ _ _ _ nd=>bD 0 nd) (fun _ _ _ _=>cg) (fun _ _ _ _=>(bV (dv 0) (dv 1)))) aA)))))))
theorem Ew {f:Addr} {fd:FuncData} (Fn:Fun K "seams_through" "seams_through" dM f fd) (hmg:mg "seams_through" =some (.ref f)) (hb:Binds K fd ["taken","many"] []) (T:Txt K mg)  :bf P w K mg base 1 "seams_through" 2 gQ:=
  cM (k:=0) (g:=oM) Fn hmg hb tK rfl rfl fun cdv A outer s H E hr=>Eu T  hr
theorem Rr {f:Addr} {cdv:Value} {A:Around} {outer:List PySem.Env} {s:Shared} {H:Hp} {E:XK} (T:Txt K mg)  (hr:Room 0 (A.deeper (envOfC "searched" (defScope iz) s.heap.objs.size f cdv))):eF (cxOf CX0 P w K mg base ["arcs","many","least","ahead","changed","node","following","cost"] "searched" (defScope iz) f cdv A outer s H E).nox (defBody iz) yh:=by
  obtain⟨ae8,aeT⟩:=T.Hr
  obtain⟨Va,wZ⟩:=T.p7
  exact (aU (Yt 2 jz.nd (ab9 (jX (ak aH aA)) (aR ab4 (jX (ak (jB rfl aeT) aA)) (aR dh (dv 1) aH)))) (aU (Yt 3 jz.nd (acd (jX (ak (jB rfl wZ) aA)) (dv 1))) (aU (cD 4 jz.nd kY) (aU (Ei 1000000000 PassesOwn.never (mD (dv 4)) (aU (cD 4 jz.nd kY) (aW (mJ PassesOwn.never rfl (fj (dv 0)) (Yd 5 6 7 rfl jz.nd) (aW (fB (cH qH (aR cj (bV (dv 2) (dv 5)) (dv 7)) (bV (dv 2) (dv 6))) (aU (Uj 2 (dv 6) (aR cj (Yn 2 (dv 5)) (dv 7))) (aU (Uj 3 (dv 6) (dv 5)) (aW (cD 4 jz.nd kY)))) cY)))))) (aW (bO (lu (ak (dv 2) (ak (dv 3) aA)))))))))
theorem Ru {f:Addr} {fd:FuncData} (Fn:Fun K "searched" "searched" iz f fd) (hmg:mg "searched" =some (.ref f)) (hb:Binds K fd ["arcs","many"] []) (T:Txt K mg)  :bf P w K mg base 1 "searched" 2 lW:=
  cM (k:=0) (g:=yh) Fn hmg hb jz rfl rfl fun cdv A outer s H E hr=>Rr T  hr
theorem Rv {f:Addr} {cdv:Value} {A:Around} {outer:List PySem.Env} {s:Shared} {H:Hp} {E:XK} (T:Txt K mg)  (hr:Room 0 (A.deeper (envOfC "taken_by" (defScope fK) s.heap.objs.size f cdv))):PSs (cxOf CX0 P w K mg base ["seams","wide","high","rows"] "taken_by" (defScope fK) f cdv A outer s H E).nox (defBody fK) (tSeq (tS (cxOf CX0 P w K mg base ["seams","wide","high","rows"] "taken_by" (defScope fK) f cdv A outer s H E).nox (bJ (bB 1 [0] (fun ρ=>((ao (fun ρ=>aj ρ 2) (fun _=> .ok [])) ρ).bind gY) (aG 0) (fun _=> .ok true) (bB 1 [0] (d7 (fun ρ=>aj ρ 1)) (aG 0) (fun _=> .ok true) (bin (fun ρ=>aj ρ 0) (fun ρ=>aj ρ 1) bQ))) (aG 3))) (tRet (tGr (cxOf CX0 P w K mg base ["seams","wide","high","rows"] "taken_by" (defScope fK) f cdv A outer s H E).nox (reN K) (bB 1 [1] (d7 (fun ρ=>aj ρ 3)) (aG 0) (fun _=> .ok true) (bB 1 [0] (fun ρ=>((ao (fun ρ=>aj ρ 1) (fun _=> .ok [])) ρ).bind gY) (aG 0) (fun _=> .ok true) (bin (fun ρ=>aj ρ 0) (fun ρ=>aj ρ 1) (Ub false))))))):=by
  exact (pss_cons (Ue 3 Dw.nd ["y"] [0] rfl (by kernel_rfl) (by kernel_rfl) (eO rfl T.dN (ak (dv 2) aA)) (bh (by decide)) (fun _ _ _ _ nd=>bD 0 nd) (fun _ _ _ _=>cg) (fun _ _ _ _=>(cu ["seam"] [0] rfl (by kernel_rfl) (by kernel_rfl) (fj (dv 1)) (bh (by decide)) (fun _ _ _ _ nd=>bD 0 nd) (fun _ _ _ _=>cg) (fun _ _ _ _=>(bV (dv 0) (dv 1)))))) (pss_one (ps_ret (aaV ["row"] [1] rfl (by kernel_rfl) (by kernel_rfl) (fj (dv 3)) (bh (by decide)) (fun _ _ _ _ nd=>bD 0 nd) (fun _ _ _ _=>cg) (fun _ _ _ _=>(aaP ["x"] [0] rfl (by kernel_rfl) (by kernel_rfl) (eO rfl T.dN (ak (dv 1) aA)) (bh (by decide)) (fun _ _ _ _ nd=>bD 0 nd) (fun _ _ _ _=>cg) (fun _ _ _ _=>(qK aeH (dv 0) (dv 1) (by rfl)))))))))
theorem Rw {f:Addr} {fd:FuncData} (Fn:Fun K "taken_by" "taken_by" fK f fd) (hmg:mg "taken_by" =some (.ref f)) (hb:Binds K fd ["seams","wide","high"] []) (T:Txt K mg)  :M6 P w K mg base 1 "taken_by" 3 lX:=
  ⟨f,fd,["seams","wide","high"],fnN (k:=0) (n:=3) (m:=1) (g1:=(bJ (bB 1 [0] (fun ρ=>((ao (fun ρ=>aj ρ 2) (fun _=> .ok [])) ρ).bind gY) (aG 0) (fun _=> .ok true) (bB 1 [0] (d7 (fun ρ=>aj ρ 1)) (aG 0) (fun _=> .ok true) (bin (fun ρ=>aj ρ 0) (fun ρ=>aj ρ 1) bQ))) (aG 3))) (fe:=(bB 1 [1] (d7 (fun ρ=>aj ρ 3)) (aG 0) (fun _=> .ok true) (bB 1 [0] (fun ρ=>((ao (fun ρ=>aj ρ 1) (fun _=> .ok [])) ρ).bind gY) (aG 0) (fun _=> .ok true) (bin (fun ρ=>aj ρ 0) (fun ρ=>aj ρ 1) (Ub false))))) Fn Dw rfl rfl (fun cdv A outer s H E hr=>Rv T  hr) (fun ρ d h=>ach h),hmg,Fn.kp,hb⟩
theorem acW {f:Addr} {cdv:Value} {A:Around} {outer:List PySem.Env} {s:Shared} {H:Hp} {E:XK} (T:Txt K mg) (mY:bf P w K mg base 2 "arcs_down" 2 kJ) (qZ:bf P w K mg base 2 "arcs_up" 2 nZ) (jK:Nf P w K mg base 1 "change_along" dW 6) (ju:bf P w K mg base 1 "seams_through" 2 gQ) (o7:bf P w K mg base 1 "searched" 2 lW) (o8:M6 P w K mg base 1 "taken_by" 3 lX) (hr:Room 2 (A.deeper (envOfC "flow" (defScope oV) s.heap.objs.size f cdv))):eF (cxOf CX0 P w K mg base ["costs","many","wide","high","seams","least","taken","arcs","ahead"] "flow" (defScope oV) f cdv A outer s H E).nox (defBody oV) Nj:=by
  exact (aU (XJ 2 3 rfl wX.nd (aX cW rfl T.c7 PySem.boot_len (ak (bV (dv 0) aH) aA)) (aX cW rfl T.c7 PySem.boot_len (ak (dv 0) aA))) (aU (cD 4 wX.nd (jX aA)) (aU (cD 5 wX.nd (jX aA)) (aU (Ei 64 PassesOwn.never (cH qH (aX cW rfl T.c7 PySem.boot_len (ak (dv 4) aA)) (dv 1)) (aaZ 6 7 5 8 4 wX.nd rfl (hr.mono (by decide)) (hr.mono (by decide)) o8 jK (ak (dv 4) (ak (dv 2) (ak (dv 3) aA))) (aR cj (bM mY hr (by decide) (ak (dv 0) (ak (dv 6) aA))) (bM qZ hr (by decide) (ak (dv 0) (ak (dv 4) aA)))) (bM o7 hr (by decide) (ak (dv 7) (ak (aR pO aH (aR cj (aR pO (dv 2) (dv 3)) aH)) aA))) (bM ju hr (by decide) (ak (dv 6) (ak (aR cj (aX cW rfl T.c7 PySem.boot_len (ak (dv 4) aA)) aH) aA))))) (aW (bO (lu (ak (dv 4) (ak (dv 5) aA)))))))))
theorem acX {f:Addr} {fd:FuncData} (Fn:Fun K "flow" "flow" oV f fd) (hmg:mg "flow" =some (.ref f)) (hb:Binds K fd ["costs","many"] []) (T:Txt K mg) (mY:bf P w K mg base 2 "arcs_down" 2 kJ) (qZ:bf P w K mg base 2 "arcs_up" 2 nZ) (jK:Nf P w K mg base 1 "change_along" dW 6) (ju:bf P w K mg base 1 "seams_through" 2 gQ) (o7:bf P w K mg base 1 "searched" 2 lW) (o8:M6 P w K mg base 1 "taken_by" 3 lX):bf P w K mg base 3 "flow" 2 lK:=
  cM (k:=2) (g:=Nj) Fn hmg hb wX rfl rfl fun cdv A outer s H E hr=>acW T mY qZ jK ju o7 o8 hr
theorem Ot {f:Addr} {cdv:Value} {A:Around} {outer:List PySem.Env} {s:Shared} {H:Hp} {E:XK} (T:Txt K mg) (dg:bf P w K mg base 1 "is_whole" 1 eN) (dF:bf P w K mg base 5 "need_picture" 1 dU) (hr:Room 5 (A.deeper (envOfC "need_many" (defScope gB) s.heap.objs.size f cdv))):eF (cxOf CX0 P w K mg base ["picture","many"] "need_many" (defScope gB) f cdv A outer s H E).nox (defBody gB) uZ:=by
  obtain⟨abL,HF⟩:=T.jt
  exact (aU (Cv (bM dF hr (by decide) (ak (dv 0) aA))) (aW (fB (DW.dt (xH (oA (mD (bM dg hr (by decide) (ak (dv 1) aA)))) (su (oA (aav um um aH (dv 1) (jB rfl HF)))))) (aW Mg) cY)))
theorem Ou {f:Addr} {fd:FuncData} (Fn:Fun K "need_many" "need_many" gB f fd) (hmg:mg "need_many" =some (.ref f)) (hb:Binds K fd ["picture","many"] []) (T:Txt K mg) (dg:bf P w K mg base 1 "is_whole" 1 eN) (dF:bf P w K mg base 5 "need_picture" 1 dU):bf P w K mg base 6 "need_many" 2 f9:=
  cM (k:=5) (g:=uZ) Fn hmg hb Oc rfl rfl fun cdv A outer s H E hr=>Ot T dg dF hr
theorem Rx {f:Addr} {cdv:Value} {A:Around} {outer:List PySem.Env} {s:Shared} {H:Hp} {E:XK} (T:Txt K mg)  (hr:Room 0 (A.deeper (envOfC "price_of" (defScope iB) s.heap.objs.size f cdv))):eF (cxOf CX0 P w K mg base ["cost","least","into"] "price_of" (defScope iB) f cdv A outer s H E).nox (defBody iB) yj:=by
  exact (aW (bO (aX (sJ rfl) rfl T.oY boot_max (ak (aR dh (aR dh (bV (dv 1) (aR cj (dv 2) aH)) (bV (dv 1) (dv 2))) (dv 0)) (ak aH aA)))))
theorem Ry {f:Addr} {fd:FuncData} (Fn:Fun K "price_of" "price_of" iB f fd) (hmg:mg "price_of" =some (.ref f)) (hb:Binds K fd ["cost","least","into"] []) (T:Txt K mg)  :bf P w K mg base 1 "price_of" 3 lY:=
  cM (k:=0) (g:=yj) Fn hmg hb Rh rfl rfl fun cdv A outer s H E hr=>Rx T  hr
theorem acY {f:Addr} {cdv:Value} {A:Around} {outer:List PySem.Env} {s:Shared} {H:Hp} {E:XK} (T:Txt K mg)  (hr:Room 0 (A.deeper (envOfC "gaps" (defScope oW) s.heap.objs.size f cdv))):eF (cxOf CX0 P w K mg base ["line","last"] "gaps" (defScope oW) f cdv A outer s H E).nox (defBody oW) Nk:=by
  exact (aU (cD 1 U9.nd (aR dh (aX cW rfl T.c7 PySem.boot_len (ak (dv 0) aA)) aH)) (aW (bO (cu ["at"] [1,0] rfl (by kernel_rfl) (by kernel_rfl) (eO rfl T.dN (ak (aX cW rfl T.c7 PySem.boot_len (ak (dv 0) aA)) aA)) (bh (by decide)) (fun _ _ _ _ nd=>bD 0 nd) (fun _ _ _ _=>cg) (fun _ _ _ _=>(aX zT rfl T.rG boot_abs (ak (aR dh (bV (dv 2) (aX (sJ rfl) rfl T.oY boot_max (ak (aR dh (dv 0) aH) (ak aH aA)))) (bV (dv 2) (aX (zU rfl) rfl T.m7 boot_min (ak (aR cj (dv 0) aH) (ak (dv 1) aA))))) aA)))))))
theorem acZ {f:Addr} {fd:FuncData} (Fn:Fun K "gaps" "gaps" oW f fd) (hmg:mg "gaps" =some (.ref f)) (hb:Binds K fd ["line"] []) (T:Txt K mg)  :bf P w K mg base 1 "gaps" 1 sX:=
  cM (k:=0) (g:=Nk) Fn hmg hb U9 rfl rfl fun cdv A outer s H E hr=>acY T  hr
theorem Zd {f:Addr} {cdv:Value} {A:Around} {outer:List PySem.Env} {s:Shared} {H:Hp} {E:XK} (T:Txt K mg) (cU:bf P w K mg base 6 "size_of" 1 d9) (hr:Room 6 (A.deeper (envOfC "turned" (defScope jU) s.heap.objs.size f cdv))):eF (cxOf CX0 P w K mg base ["picture","wide","high"] "turned" (defScope jU) f cdv A outer s H E).nox (defBody jU) Er:=by
  exact (aU (rM 1 2 rfl Ku.nd (bM cU hr (by decide) (ak (dv 0) aA))) (aW (bO (gU iQ rfl T.eV boot_tuple (ak (cu ["x"] [2,0] rfl (by kernel_rfl) (by kernel_rfl) (eO rfl T.dN (ak (dv 1) aA)) (bh (by decide)) (fun _ _ _ _ nd=>bD 0 nd) (fun _ _ _ _=>cg) (fun _ _ _ _=>(gU iQ rfl T.eV boot_tuple (ak (cu ["y"] [2,0] rfl (by kernel_rfl) (by kernel_rfl) (eO rfl T.dN (ak (dv 1) aA)) (bh (by decide)) (fun _ _ _ _ nd=>bD 0 nd) (fun _ _ _ _=>cg) (fun _ _ _ _=>(bV (bV (dv 1) (dv 0)) (dv 2)))) aA)))) aA)))))
theorem Ze {f:Addr} {fd:FuncData} (Fn:Fun K "turned" "turned" jU f fd) (hmg:mg "turned" =some (.ref f)) (hb:Binds K fd ["picture"] []) (T:Txt K mg) (cU:bf P w K mg base 6 "size_of" 1 d9):bf P w K mg base 7 "turned" 1 pX:=
  cM (k:=6) (g:=Er) Fn hmg hb Ku rfl rfl fun cdv A outer s H E hr=>Zd T cU hr
theorem Zf {f:Addr} {cdv:Value} {A:Around} {outer:List PySem.Env} {s:Shared} {H:Hp} {E:XK} (T:Txt K mg) (w6:bf P w K mg base 1 "gaps" 1 sX) (cU:bf P w K mg base 6 "size_of" 1 d9) (tQ:bf P w K mg base 7 "turned" 1 pX) (hr:Room 7 (A.deeper (envOfC "worths" (defScope jV) s.heap.objs.size f cdv))):eF (cxOf CX0 P w K mg base ["picture","wide","high","across","down"] "worths" (defScope jV) f cdv A outer s H E).nox (defBody jV) Es:=by
  exact (aU (rM 1 2 rfl uH.nd (bM cU hr (by decide) (ak (dv 0) aA))) (aU (cD 3 uH.nd (cu ["row"] [] rfl (by kernel_rfl) (by kernel_rfl) (fj (dv 0)) (bh (by decide)) (fun _ _ _ _ nd=>bD 0 nd) (fun _ _ _ _=>cg) (fun _ _ _ _=>(bM w6 hr (by decide) (ak (dv 0) aA))))) (aU (cD 4 uH.nd (cu ["column"] [] rfl (by kernel_rfl) (by kernel_rfl) (fj (bM tQ hr (by decide) (ak (dv 0) aA))) (bh (by decide)) (fun _ _ _ _ nd=>bD 0 nd) (fun _ _ _ _=>cg) (fun _ _ _ _=>(bM w6 hr (by decide) (ak (dv 0) aA))))) (aW (bO (gU iQ rfl T.eV boot_tuple (ak (cu ["y"] [3,4,1] rfl (by kernel_rfl) (by kernel_rfl) (eO rfl T.dN (ak (dv 2) aA)) (bh (by decide)) (fun _ _ _ _ nd=>bD 0 nd) (fun _ _ _ _=>cg) (fun _ _ _ _=>(gU iQ rfl T.eV boot_tuple (ak (cu ["x"] [1,2,0] rfl (by kernel_rfl) (by kernel_rfl) (eO rfl T.dN (ak (dv 3) aA)) (bh (by decide)) (fun _ _ _ _ nd=>bD 0 nd) (fun _ _ _ _=>cg) (fun _ _ _ _=>(aR cj (bV (bV (dv 1) (dv 3)) (dv 0)) (bV (bV (dv 2) (dv 0)) (dv 3))))) aA)))) aA)))))))
theorem Zg {f:Addr} {fd:FuncData} (Fn:Fun K "worths" "worths" jV f fd) (hmg:mg "worths" =some (.ref f)) (hb:Binds K fd ["picture"] []) (T:Txt K mg) (w6:bf P w K mg base 1 "gaps" 1 sX) (cU:bf P w K mg base 6 "size_of" 1 d9) (tQ:bf P w K mg base 7 "turned" 1 pX):bf P w K mg base 8 "worths" 1 iW:=
  cM (k:=7) (g:=Es) Fn hmg hb uH rfl rfl fun cdv A outer s H E hr=>Zf T w6 cU tQ hr
theorem Zh {f:Addr} {cdv:Value} {A:Around} {outer:List PySem.Env} {s:Shared} {H:Hp} {E:XK} (T:Txt K mg) (mZ:bf P w K mg base 3 "flow" 2 lK) (eZ:bf P w K mg base 6 "need_many" 2 f9) (cJ:bf P w K mg base 1 "node_into" 3 cX) (o9:bf P w K mg base 1 "price_of" 3 lY) (fW:bf P w K mg base 8 "worths" 1 iW) (hr:Room 8 (A.deeper (envOfC "prices" (defScope jW) s.heap.objs.size f cdv))):eF (cxOf CX0 P w K mg base ["picture","many","wide","costs","seams","least","table"] "prices" (defScope jW) f cdv A outer s H E).nox (defBody jW) Et:=by
  obtain⟨V5,yx⟩:=T.uI
  exact (aU (Cv (bM eZ hr (by decide) (ak (dv 0) (ak (dv 1) aA)))) (aU (cD 2 qX.nd (aX cW rfl T.c7 PySem.boot_len (ak (bV (dv 0) aH) aA))) (aU (fB (cH xG (dv 1) (dv 2)) (aW (bO rY)) cY) (aU (cD 3 qX.nd (bM fW hr (by decide) (ak (dv 0) aA))) (aU (rM 4 5 rfl qX.nd (bM mZ hr (by decide) (ak (dv 3) (ak (dv 1) aA)))) (aU (Ue 6 qX.nd ["y","row"] [5,2] rfl (by kernel_rfl) (by kernel_rfl) (lV rfl T.dD (ak (dv 3) aA)) (iI (cF (bh (by decide)) (cF (bh (by decide)) iG))) (fun _ _ _ _ nd=>mF rfl (cV (bD 0 nd) (cV (bD 1 nd) kj))) (fun _ _ _ _=>cg) (fun _ _ _ _=>(gU iQ rfl T.eV boot_tuple (ak (cu ["x","cost"] [2,3,0] rfl (by kernel_rfl) (by kernel_rfl) (lV rfl T.dD (ak (dv 1) aA)) (iI (cF (bh (by decide)) (cF (bh (by decide)) iG))) (fun _ _ _ _ nd=>mF rfl (cV (bD 0 nd) (cV (bD 1 nd) kj))) (fun _ _ _ _=>cg) (fun _ _ _ _=>(bM o9 hr (by decide) (ak (dv 1) (ak (dv 2) (ak (bM cJ hr (by decide) (ak (dv 0) (ak (dv 4) (ak (dv 3) aA)))) aA)))))) aA)))) (aW (bO (lu (ak (gU iQ rfl T.eV boot_tuple (ak (dv 6) aA)) (ak (bV (dv 5) (jB rfl yx)) aA)))))))))))
theorem Zi {f:Addr} {fd:FuncData} (Fn:Fun K "prices" "prices" jW f fd) (hmg:mg "prices" =some (.ref f)) (hb:Binds K fd ["picture","many"] []) (T:Txt K mg) (mZ:bf P w K mg base 3 "flow" 2 lK) (eZ:bf P w K mg base 6 "need_many" 2 f9) (cJ:bf P w K mg base 1 "node_into" 3 cX) (o9:bf P w K mg base 1 "price_of" 3 lY) (fW:bf P w K mg base 8 "worths" 1 iW):bf P w K mg base 9 "prices" 2 pY:=
  cM (k:=8) (g:=Et) Fn hmg hb qX rfl rfl fun cdv A outer s H E hr=>Zh T mZ eZ cJ o9 fW hr
theorem Rz {f:Addr} {cdv:Value} {A:Around} {outer:List PySem.Env} {s:Shared} {H:Hp} {E:XK} (T:Txt K mg) (mZ:bf P w K mg base 3 "flow" 2 lK) (eZ:bf P w K mg base 6 "need_many" 2 f9) (fW:bf P w K mg base 8 "worths" 1 iW) (hr:Room 8 (A.deeper (envOfC "together" (defScope iC) s.heap.objs.size f cdv))):eF (cxOf CX0 P w K mg base ["picture","many"] "together" (defScope iC) f cdv A outer s H E).nox (defBody iC) yp:=by
  exact (aU (Cv (bM eZ hr (by decide) (ak (dv 0) (ak (dv 1) aA)))) (aU (fB (cH xG (dv 1) (aX cW rfl T.c7 PySem.boot_len (ak (bV (dv 0) aH) aA))) (aW (bO rY)) cY) (aW (bO (bV (bM mZ hr (by decide) (ak (bM fW hr (by decide) (ak (dv 0) aA)) (ak (dv 1) aA))) aH)))))
theorem RB {f:Addr} {fd:FuncData} (Fn:Fun K "together" "together" iC f fd) (hmg:mg "together" =some (.ref f)) (hb:Binds K fd ["picture","many"] []) (T:Txt K mg) (mZ:bf P w K mg base 3 "flow" 2 lK) (eZ:bf P w K mg base 6 "need_many" 2 f9) (fW:bf P w K mg base 8 "worths" 1 iW):bf P w K mg base 9 "together" 2 lZ:=
  cM (k:=8) (g:=yp) Fn hmg hb Ri rfl rfl fun cdv A outer s H E hr=>Rz T mZ eZ fW hr
theorem aer {f:Addr} {cdv:Value} {A:Around} {outer:List PySem.Env} {s:Shared} {H:Hp} {E:XK} (T:Txt K mg) (vf:bf P w K mg base 3 "_law_cost" 3 mQ) (bU:bf P w K mg base 1 "_law_drawn" 3 bW) (nu:bf P w K mg base 1 "_law_least_sum" 1 iV) (vg:bf P w K mg base 3 "_law_some" 4 mR) (yC:bf P w K mg base 2 "_law_way" 4 oK) (Ay:bf P w K mg base 7 "is_seam" 2 lJ) (Ey:bf P w K mg base 9 "prices" 2 pY) (cU:bf P w K mg base 6 "size_of" 1 d9) (yD:bf P w K mg base 9 "together" 2 lZ) (fW:bf P w K mg base 8 "worths" 1 iW) (hr:Room 9 (A.deeper (envOfC "law" (defScope oX) s.heap.objs.size f cdv))):eF (cxOf CX0 P w K mg base ["_law_script","_law_picture_here","_law_broad","_law_tall","_law_many","_law_seams","_law_told","_law_table","_law_least","_law_one","_law_other","_law_worth","_law_sums","_law_cost_here","_law_k","_law_way_here"] "law" (defScope oX) f cdv A outer s H E).nox (defBody oX) abG:=by
  exact (aU (cD 1 kh.nd (bM vg hr (by decide) (ak (dv 0) (ak aH (ak aH (ak aH aA)))))) (aU (rM 2 3 rfl kh.nd (bM cU hr (by decide) (ak (dv 1) aA))) (aU (cD 4 kh.nd (aR cj aH (bM bU hr (by decide) (ak (dv 0) (ak aH (ak aH aA)))))) (aU (XJ 5 6 rfl kh.nd (bM yD hr (by decide) (ak (dv 1) (ak (dv 4) aA))) (bM Ey hr (by decide) (ak (dv 1) (ak (dv 4) aA)))) (aU (fB (DW.dt (xH (cH (lQ (gF hr)) (qK Vg (dv 5) rY) (qK xG (dv 4) (dv 2))) (su (cH (lQ (gF hr)) (qK Vg (dv 6) rY) (qK xG (dv 4) (dv 2)))))) (aW (bO kY)) cY) (aU (fB (cH Vg (dv 5) rY) (aW (bO kY)) cY) (aU (rM 7 8 rfl kh.nd (dv 6)) (aU (fB (DW.dt (xH (cH (lQ (gF hr)) (aX cW rfl T.c7 PySem.boot_len (ak (dv 5) aA)) (dv 4)) (su (cH (lQ (gF hr)) (cu ["_law_seam"] [1] rfl (by kernel_rfl) (by kernel_rfl) (fj (dv 5)) (bh (by decide)) (fun _ _ _ _ nd=>bD 0 nd) (fun _ _ _ _=>(wA (oA (mD (bM Ay hr (by decide) (ak (dv 0) (ak (dv 1) aA))))))) (fun _ _ _ _=>(dv 0))) (jX aA))))) (aW (bO kY)) cY) (aU (mJ PassesOwn.never rfl (CG rfl T.uJ (ak (dv 5) (ak (Kf (dv 5) (xT aH) Ms) aA))) (Js 9 10 rfl kh.nd) (aW (fB (cH (lQ (gF hr)) (cu ["_law_x","_law_v"] [] rfl (by kernel_rfl) (by kernel_rfl) (CG rfl T.uJ (ak (dv 9) (ak (dv 10) aA))) (iI (cF (bh (by decide)) (cF (bh (by decide)) iG))) (fun _ _ _ _ nd=>mF rfl (cV (bD 0 nd) (cV (bD 1 nd) kj))) (fun _ _ _ _=>(wA (cH abr (dv 0) (dv 1)))) (fun _ _ _ _=>aH)) (jX aA)) (aW (bO kY)) cY))) (aU (fB (DW.dt (xH (cH (lQ (gF hr)) (aX cW rfl T.c7 PySem.boot_len (ak (dv 7) aA)) (dv 3)) (su (cH (lQ (gF hr)) (cu ["_law_row"] [2] rfl (by kernel_rfl) (by kernel_rfl) (fj (dv 7)) (bh (by decide)) (fun _ _ _ _ nd=>bD 0 nd) (fun _ _ _ _=>(wA (DW.dt (xH (cH (lQ (gF hr)) (aX cW rfl T.c7 PySem.boot_len (ak (dv 0) aA)) (dv 1)) (su (cH qH (aX (Jx rfl) rfl T.m7 boot_min (ak (dv 0) aA)) aH)))))) (fun _ _ _ _=>(dv 0))) (jX aA))))) (aW (bO kY)) cY) (aU (cD 11 kh.nd (bM fW hr (by decide) (ak (dv 1) aA))) (aU (cD 12 kh.nd (cu ["_law_row","_law_more"] [] rfl (by kernel_rfl) (by kernel_rfl) (CG rfl T.uJ (ak (dv 11) (ak (dv 7) aA))) (iI (cF (bh (by decide)) (cF (bh (by decide)) iG))) (fun _ _ _ _ nd=>mF rfl (cV (bD 0 nd) (cV (bD 1 nd) kj))) (fun _ _ _ _=>cg) (fun _ _ _ _=>(gU iQ rfl T.eV boot_tuple (ak (cu ["_law_one","_law_two"] [] rfl (by kernel_rfl) (by kernel_rfl) (CG rfl T.uJ (ak (dv 0) (ak (dv 1) aA))) (iI (cF (bh (by decide)) (cF (bh (by decide)) iG))) (fun _ _ _ _ nd=>mF rfl (cV (bD 0 nd) (cV (bD 1 nd) kj))) (fun _ _ _ _=>cg) (fun _ _ _ _=>(aR cj (dv 0) (dv 1)))) aA))))) (aU (fB (cH qH (bM nu hr (by decide) (ak (dv 12) aA)) (dv 8)) (aW (bO kY)) cY) (aU (cD 13 kh.nd (aX (wB rfl) rfl T.qJ boot_sum (ak (cu ["_law_seam"] [1] rfl (by kernel_rfl) (by kernel_rfl) (fj (dv 5)) (bh (by decide)) (fun _ _ _ _ nd=>bD 0 nd) (fun _ _ _ _=>cg) (fun _ _ _ _=>(bM vf hr (by decide) (ak (dv 1) (ak Xq (ak (dv 0) aA)))))) aA))) (aU (fB (cH (lQ (gF hr)) (aR dh (aR pO (dv 4) (dv 8)) (aX (wB rfl) rfl T.qJ boot_sum (ak (cu ["_law_row"] [] rfl (by kernel_rfl) (by kernel_rfl) (fj (dv 7)) (bh (by decide)) (fun _ _ _ _ nd=>bD 0 nd) (fun _ _ _ _=>cg) (fun _ _ _ _=>(aX (wB rfl) rfl T.qJ boot_sum (ak (dv 0) aA)))) aA))) (dv 13)) (aW (bO kY)) cY) (aU (mJ PassesOwn.never rfl (eO rfl T.dN (ak aH aA)) (pJ 14 kh.nd) (aU (cD 15 kh.nd (bM yC hr (by decide) (ak (dv 0) (ak (aR cj aH (aR pO aH (dv 14))) (ak (dv 2) (ak (dv 3) aA)))))) (aW (fB (cH qH (aX (wB rfl) rfl T.qJ boot_sum (ak (cu ["_law_y","_law_x"] [12] rfl (by kernel_rfl) (by kernel_rfl) (lV rfl T.dD (ak (dv 15) aA)) (iI (cF (bh (by decide)) (cF (bh (by decide)) iG))) (fun _ _ _ _ nd=>mF rfl (cV (bD 0 nd) (cV (bD 1 nd) kj))) (fun _ _ _ _=>cg) (fun _ _ _ _=>(bV (bV (dv 2) (dv 0)) (dv 1)))) aA)) (dv 8)) (aW (bO kY)) cY)))) (aW (bO (qK (Lr (gF hr)) (cu ["_law_seam"] [8,12] rfl (by kernel_rfl) (by kernel_rfl) (fj (dv 5)) (bh (by decide)) (fun _ _ _ _ nd=>bD 0 nd) (fun _ _ _ _=>(wA (cH qH (aX (wB rfl) rfl T.qJ boot_sum (ak (cu ["_law_y","_law_x"] [2] rfl (by kernel_rfl) (by kernel_rfl) (lV rfl T.dD (ak (dv 0) aA)) (iI (cF (bh (by decide)) (cF (bh (by decide)) iG))) (fun _ _ _ _ nd=>mF rfl (cV (bD 0 nd) (cV (bD 1 nd) kj))) (fun _ _ _ _=>cg) (fun _ _ _ _=>(bV (bV (dv 2) (dv 0)) (dv 1)))) aA)) (dv 1)))) (fun _ _ _ _=>(dv 0))) (jX aA))))))))))))))))))))
end
theorem all_mk {l:PySem.W.OpenLaw} {w:World} {K:PySem.W.Frag} {h:Heap} {mg:Str→Option Value} {fa Az vh vm tR nD p8 vp yE yF Ez Ba Bb EY tU qb Bc Bd Ov vq vB Bf qd pq yG yH Ow vC yI Ox Fb Fd Fe yJ V8:Addr} (X:K.In h) (G:h.Ns mainGlobals mg) (hfa:mg "law" =some (.ref fa))
    {V9 Wa:Option Addr} {Wb:Array (Option Value)} {Wc Wd Wf Wg HJ Wh:Value}
    {Oz OD:Option Addr} {OJ:Array (Option Value)} {O5 O6 O7 O8 Bg O9:Value}
    {Pa Pb:Option Addr} {Pg:Array (Option Value)} {Ph Pj Pk Pn Bh Pq:Value}
    {K6 K7:Option Addr} {K8:Array (Option Value)} {K9 La Lb Ld zF Le:Value}
    {CZ Dc:Option Addr} {Df:Array (Option Value)} {Dg Dh Di Dj rF Dk:Value}
    {HN HS:Option Addr} {HW:Array (Option Value)} {HX HY Ia Ib uK Ie:Value}
    {Pr Px:Option Addr} {Py:Array (Option Value)} {Pz PB PJ PL Bj PN:Value}
    {RD RG:Option Addr} {RJ:Array (Option Value)} {RK RL RM RN Dy RP:Value}
    {RQ RT:Option Addr} {RV:Array (Option Value)} {RW RX RZ R0 Dz R3:Value}
    {Zj Zk:Option Addr} {Zm:Array (Option Value)} {Zn Zo Zq Zr Kv Zt:Value}
    {Wi Wj:Option Addr} {Wk:Array (Option Value)} {Wm Wn Wo Wq Ih Wr:Value}
    {Ws Wt:Option Addr} {Wu:Array (Option Value)} {Wv Ww Wx Wy Ii Wz:Value}
    {Zu Zv:Option Addr} {Zw:Array (Option Value)} {Zx Zy Zz ZC Kw ZD:Value}
    {Lf Lg:Option Addr} {Lh:Array (Option Value)} {Li Lj Ln Lp zG Lq:Value}
    {Ij Ik:Option Addr} {Il:Array (Option Value)} {Im Io Ir Iu uL Iv:Value}
    {WD WK:Option Addr} {WL:Array (Option Value)} {WM WQ WR WT Iw WW:Value}
    {WX WY:Option Addr} {W0:Array (Option Value)} {W2 W3 W4 W5 Iz W6:Value}
    {ac0 ac1:Option Addr} {ac2:Array (Option Value)} {ac3 ac4 ac5 ac6 Vb ac7:Value}
    {PX P0:Option Addr} {Qa:Array (Option Value)} {Qc Qd Qe Qf Bk Qg:Value}
    {Qh Qi:Option Addr} {Qj:Array (Option Value)} {Qk Ql Qm Qn Bl Qo:Value}
    {W7 W8:Option Addr} {W9:Array (Option Value)} {Xa Xb Xc Xd IK Xe:Value}
    {IV IW:Option Addr} {Ja:Array (Option Value)} {Jb Jc Jd Je uM Jf:Value}
    {Fg Fi:Option Addr} {Fj:Array (Option Value)} {Fo Fp Fq Ft tV Fv:Value}
    {R4 R5:Option Addr} {R6:Array (Option Value)} {R7 R8 R9 Sd DK Sg:Value}
    {Sh Ss:Option Addr} {Sv:Array (Option Value)} {Sw Sx Sy SJ DN SM:Value}
    {ac8 ac9:Option Addr} {ada:Array (Option Value)} {adb ade adf adg Vc adh:Value}
    {Qp Qq:Option Addr} {Qs:Array (Option Value)} {Qt Qu Qv Qw Bm Qx:Value}
    {SN SQ:Option Addr} {SX:Array (Option Value)} {S5 S6 S7 S8 DP S9:Value}
    {adi adk:Option Addr} {adl:Array (Option Value)} {adn ado adp adq Vd adt:Value}
    {ZF ZG:Option Addr} {ZJ:Array (Option Value)} {ZK ZL ZM ZP Ky ZQ:Value}
    {ZR ZS:Option Addr} {ZV:Array (Option Value)} {ZW ZX Z0 Z1 Kz Z4:Value}
    {Z5 Z6:Option Addr} {Z7:Array (Option Value)} {Z8 Z9 aac aad KC aae:Value}
    {Tc Td:Option Addr} {Te:Array (Option Value)} {Tf Tg Ti Tj DQ Tn:Value}
    {aes aaf:Option Addr} {aeu:Array (Option Value)} {aev aag aah aai Qy aaj:Value}
    {aew:Tok} (uI:PySem.W.nsIn K mainGlobals "END" =some (some (.int 1 aew)))
    {aex:Tok} (Hr:PySem.W.nsIn K mainGlobals "FAR" =some (some (.int 1000000 aex)))
    {Qz:Tok} (mV:PySem.W.nsIn K mainGlobals "MOST_CELL" =some (some (.int 99 Qz)))
    {QB:Tok} (mW:PySem.W.nsIn K mainGlobals "MOST_LONG" =some (some (.int 20 QB)))
    {Fw:Tok} (jt:PySem.W.nsIn K mainGlobals "MOST_TOGETHER" =some (some (.int 6 Fw)))
    {abj:Tok} (p7:PySem.W.nsIn K mainGlobals "START" =some (some (.int 0 abj)))
    (rG:PySem.W.nsIn K mainGlobals "abs" =some none)
    (rJ:PySem.W.nsIn K mainGlobals "all" =some none)
    (Av:PySem.W.nsIn K mainGlobals "bool" =some none)
    (dD:PySem.W.nsIn K mainGlobals "enumerate" =some none)
    (Ht:PySem.W.nsIn K mainGlobals "int" =some none)
    (gK:PySem.W.nsIn K mainGlobals "isinstance" =some none)
    (c7:PySem.W.nsIn K mainGlobals "len" =some none)
    (wY:PySem.W.nsIn K mainGlobals "list" =some none)
    (oY:PySem.W.nsIn K mainGlobals "max" =some none)
    (m7:PySem.W.nsIn K mainGlobals "min" =some none)
    (dN:PySem.W.nsIn K mainGlobals "range" =some none)
    (oZ:PySem.W.nsIn K mainGlobals "reversed" =some none)
    (qJ:PySem.W.nsIn K mainGlobals "sum" =some none)
    (eV:PySem.W.nsIn K mainGlobals "tuple" =some none)
    (uJ:PySem.W.nsIn K mainGlobals "zip" =some none)
    (Hu:∀d:D,PySem.W.kitOne K (.type (lC d)) (.type "int")=some (Cy (lC d)))
    (Aw:∀d:D,PySem.W.kitOne K (.type (lC d)) (.type "bool")=some (xP (lC d)))
    (rW:∀d:D,PySem.W.kitOne K (.type (lC d)) (.type "tuple")=some (nQ (lC d)))
    (Hv:∀d:D,PySem.W.kitOne K (.type (lC d)) (.type "list")=some (Mp (lC d)))
    (Bo:PySem.W.nsIn K mainGlobals "_law_at" =some (some (.ref Az))) (Bp:K.lookup Az=some ⟨Wc,V9,.func (PySem.W.fnOf "_law_at" "_law_at" (defArgs jj) (defBody jj) (defScope jj) .none Wd Wf Wg Wa HJ Wh),Wb⟩) (Bq:PySem.W.codeIn K HJ "_law_at" =true) (Br:PySem.W.keepIn K (.ref Az)=true)
    (vG:PySem.W.nsIn K mainGlobals "_law_step" =some (some (.ref vh))) (vI:K.lookup vh=some ⟨O5,Oz,.func (PySem.W.fnOf "_law_step" "_law_step" (defArgs gj) (defBody gj) (defScope gj) .none O6 O7 O8 OD Bg O9),OJ⟩) (vJ:PySem.W.codeIn K Bg "_law_step" =true) (vK:PySem.W.keepIn K (.ref vh)=true)
    (vL:PySem.W.nsIn K mainGlobals "_law_cost" =some (some (.ref vm))) (vM:K.lookup vm=some ⟨Ph,Pa,.func (PySem.W.fnOf "_law_cost" "_law_cost" (defArgs gk) (defBody gk) (defScope gk) .none Pj Pk Pn Pb Bh Pq),Pg⟩) (vN:PySem.W.codeIn K Bh "_law_cost" =true) (vO:PySem.W.keepIn K (.ref vm)=true)
    (tW:PySem.W.nsIn K mainGlobals "_law_drawn" =some (some (.ref tR))) (tX:K.lookup tR=some ⟨K9,K6,.func (PySem.W.fnOf "_law_drawn" "_law_drawn" (defArgs fG) (defBody fG) (defScope fG) .none La Lb Ld K7 zF Le),K8⟩) (tY:PySem.W.codeIn K zF "_law_drawn" =true) (tZ:PySem.W.keepIn K (.ref tR)=true)
    (nF:PySem.W.nsIn K mainGlobals "_law_least_sum" =some (some (.ref nD))) (nG:K.lookup nD=some ⟨Dg,CZ,.func (PySem.W.fnOf "_law_least_sum" "_law_least_sum" (defArgs cZ) (defBody cZ) (defScope cZ) .none Dh Di Dj Dc rF Dk),Df⟩) (nJ:PySem.W.codeIn K rF "_law_least_sum" =true) (nM:PySem.W.keepIn K (.ref nD)=true)
    (qe:PySem.W.nsIn K mainGlobals "_law_picture" =some (some (.ref p8))) (qj:K.lookup p8=some ⟨HX,HN,.func (PySem.W.fnOf "_law_picture" "_law_picture" (defArgs dX) (defBody dX) (defScope dX) .none HY Ia Ib HS uK Ie),HW⟩) (qm:PySem.W.codeIn K uK "_law_picture" =true) (qp:PySem.W.keepIn K (.ref p8)=true)
    (vP:PySem.W.nsIn K mainGlobals "_law_some" =some (some (.ref vp))) (vQ:K.lookup vp=some ⟨Pz,Pr,.func (PySem.W.fnOf "_law_some" "_law_some" (defArgs gn) (defBody gn) (defScope gn) .none PB PJ PL Px Bj PN),Py⟩) (vR:PySem.W.codeIn K Bj "_law_some" =true) (vU:PySem.W.keepIn K (.ref vp)=true)
    (yK:PySem.W.nsIn K mainGlobals "_law_way" =some (some (.ref yE))) (yL:K.lookup yE=some ⟨RK,RD,.func (PySem.W.fnOf "_law_way" "_law_way" (defArgs iu) (defBody iu) (defScope iu) .none RL RM RN RG Dy RP),RJ⟩) (yM:PySem.W.codeIn K Dy "_law_way" =true) (yN:PySem.W.keepIn K (.ref yE)=true)
    (yO:PySem.W.nsIn K mainGlobals "is_whole" =some (some (.ref yF))) (yP:K.lookup yF=some ⟨RW,RQ,.func (PySem.W.fnOf "is_whole" "is_whole" (defArgs iw) (defBody iw) (defScope iw) .none RX RZ R0 RT Dz R3),RV⟩) (yQ:PySem.W.codeIn K Dz "is_whole" =true) (yR:PySem.W.keepIn K (.ref yF)=true)
    (Fx:PySem.W.nsIn K mainGlobals "is_way" =some (some (.ref Ez))) (Fy:K.lookup Ez=some ⟨Zn,Zj,.func (PySem.W.fnOf "is_way" "is_way" (defArgs jR) (defBody jR) (defScope jR) .none Zo Zq Zr Zk Kv Zt),Zm⟩) (Fz:PySem.W.codeIn K Kv "is_way" =true) (FJ:PySem.W.keepIn K (.ref Ez)=true)
    (Bs:PySem.W.nsIn K mainGlobals "is_line" =some (some (.ref Ba))) (Bt:K.lookup Ba=some ⟨Wm,Wi,.func (PySem.W.fnOf "is_line" "is_line" (defArgs jk) (defBody jk) (defScope jk) .none Wn Wo Wq Wj Ih Wr),Wk⟩) (Bu:PySem.W.codeIn K Ih "is_line" =true) (Bv:PySem.W.keepIn K (.ref Ba)=true)
    (Bw:PySem.W.nsIn K mainGlobals "is_cell" =some (some (.ref Bb))) (Bx:K.lookup Bb=some ⟨Wv,Ws,.func (PySem.W.fnOf "is_cell" "is_cell" (defArgs jl) (defBody jl) (defScope jl) .none Ww Wx Wy Wt Ii Wz),Wu⟩) (BJ:PySem.W.codeIn K Ii "is_cell" =true) (BK:PySem.W.keepIn K (.ref Bb)=true)
    (FN:PySem.W.nsIn K mainGlobals "is_row" =some (some (.ref EY))) (FQ:K.lookup EY=some ⟨Zx,Zu,.func (PySem.W.fnOf "is_row" "is_row" (defArgs jT) (defBody jT) (defScope jT) .none Zy Zz ZC Zv Kw ZD),Zw⟩) (FW:PySem.W.codeIn K Kw "is_row" =true) (FZ:PySem.W.keepIn K (.ref EY)=true)
    (uc:PySem.W.nsIn K mainGlobals "is_picture" =some (some (.ref tU))) (ud:K.lookup tU=some ⟨Li,Lf,.func (PySem.W.fnOf "is_picture" "is_picture" (defArgs fH) (defBody fH) (defScope fH) .none Lj Ln Lp Lg zG Lq),Lh⟩) (uf:PySem.W.codeIn K zG "is_picture" =true) (ug:PySem.W.keepIn K (.ref tU)=true)
    (qu:PySem.W.nsIn K mainGlobals "need_picture" =some (some (.ref qb))) (qw:K.lookup qb=some ⟨Im,Ij,.func (PySem.W.fnOf "need_picture" "need_picture" (defArgs dY) (defBody dY) (defScope dY) .none Io Ir Iu Ik uL Iv),Il⟩) (qy:PySem.W.codeIn K uL "need_picture" =true) (qz:PySem.W.keepIn K (.ref qb)=true)
    (BL:PySem.W.nsIn K mainGlobals "size_of" =some (some (.ref Bc))) (BP:K.lookup Bc=some ⟨WM,WD,.func (PySem.W.fnOf "size_of" "size_of" (defArgs jm) (defBody jm) (defScope jm) .none WQ WR WT WK Iw WW),WL⟩) (BR:PySem.W.codeIn K Iw "size_of" =true) (BW:PySem.W.keepIn K (.ref Bc)=true)
    (BX:PySem.W.nsIn K mainGlobals "is_seam" =some (some (.ref Bd))) (BZ:K.lookup Bd=some ⟨W2,WX,.func (PySem.W.fnOf "is_seam" "is_seam" (defArgs jo) (defBody jo) (defScope jo) .none W3 W4 W5 WY Iz W6),W0⟩) (Ca:PySem.W.codeIn K Iz "is_seam" =true) (Cd:PySem.W.keepIn K (.ref Bd)=true)
    (QC:PySem.W.nsIn K mainGlobals "near" =some (some (.ref Ov))) (QD:K.lookup Ov=some ⟨ac3,ac0,.func (PySem.W.fnOf "near" "near" (defArgs oU) (defBody oU) (defScope oU) .none ac4 ac5 ac6 ac1 Vb ac7),ac2⟩) (QF:PySem.W.codeIn K Vb "near" =true) (QG:PySem.W.keepIn K (.ref Ov)=true)
    (vV:PySem.W.nsIn K mainGlobals "node_into" =some (some (.ref vq))) (vW:K.lookup vq=some ⟨Qc,PX,.func (PySem.W.fnOf "node_into" "node_into" (defArgs gq) (defBody gq) (defScope gq) .none Qd Qe Qf P0 Bk Qg),Qa⟩) (vX:PySem.W.codeIn K Bk "node_into" =true) (vY:PySem.W.keepIn K (.ref vq)=true)
    (vZ:PySem.W.nsIn K mainGlobals "arcs_down" =some (some (.ref vB))) (v7:K.lookup vB=some ⟨Qk,Qh,.func (PySem.W.fnOf "arcs_down" "arcs_down" (defArgs gA) (defBody gA) (defScope gA) .none Ql Qm Qn Qi Bl Qo),Qj⟩) (v9:PySem.W.codeIn K Bl "arcs_down" =true) (wg:PySem.W.keepIn K (.ref vB)=true)
    (Ce:PySem.W.nsIn K mainGlobals "arcs_up" =some (some (.ref Bf))) (Cg:K.lookup Bf=some ⟨Xa,W7,.func (PySem.W.fnOf "arcs_up" "arcs_up" (defArgs jq) (defBody jq) (defScope jq) .none Xb Xc Xd W8 IK Xe),W9⟩) (Ci:PySem.W.codeIn K IK "arcs_up" =true) (Cj:PySem.W.keepIn K (.ref Bf)=true)
    (qC:PySem.W.nsIn K mainGlobals "change_along" =some (some (.ref qd))) (qD:K.lookup qd=some ⟨Jb,IV,.func (PySem.W.fnOf "change_along" "change_along" (defArgs dB) (defBody dB) (defScope dB) .none Jc Jd Je IW uM Jf),Ja⟩) (qF:PySem.W.codeIn K uM "change_along" =true) (qG:PySem.W.keepIn K (.ref qd)=true)
    (pA:PySem.W.nsIn K mainGlobals "seams_through" =some (some (.ref pq))) (pB:K.lookup pq=some ⟨Fo,Fg,.func (PySem.W.fnOf "seams_through" "seams_through" (defArgs dM) (defBody dM) (defScope dM) .none Fp Fq Ft Fi tV Fv),Fj⟩) (pC:PySem.W.codeIn K tV "seams_through" =true) (pD:PySem.W.keepIn K (.ref pq)=true)
    (yS:PySem.W.nsIn K mainGlobals "searched" =some (some (.ref yG))) (yU:K.lookup yG=some ⟨R7,R4,.func (PySem.W.fnOf "searched" "searched" (defArgs iz) (defBody iz) (defScope iz) .none R8 R9 Sd R5 DK Sg),R6⟩) (yV:PySem.W.codeIn K DK "searched" =true) (yW:PySem.W.keepIn K (.ref yG)=true)
    (yX:PySem.W.nsIn K mainGlobals "taken_by" =some (some (.ref yH))) (yZ:K.lookup yH=some ⟨Sw,Sh,.func (PySem.W.fnOf "taken_by" "taken_by" (defArgs fK) (defBody fK) (defScope fK) .none Sx Sy SJ Ss DN SM),Sv⟩) (za:PySem.W.codeIn K DN "taken_by" =true) (zc:PySem.W.keepIn K (.ref yH)=true)
    (QH:PySem.W.nsIn K mainGlobals "flow" =some (some (.ref Ow))) (QJ:K.lookup Ow=some ⟨adb,ac8,.func (PySem.W.fnOf "flow" "flow" (defArgs oV) (defBody oV) (defScope oV) .none ade adf adg ac9 Vc adh),ada⟩) (QK:PySem.W.codeIn K Vc "flow" =true) (QL:PySem.W.keepIn K (.ref Ow)=true)
    (wj:PySem.W.nsIn K mainGlobals "need_many" =some (some (.ref vC))) (wk:K.lookup vC=some ⟨Qt,Qp,.func (PySem.W.fnOf "need_many" "need_many" (defArgs gB) (defBody gB) (defScope gB) .none Qu Qv Qw Qq Bm Qx),Qs⟩) (wu:PySem.W.codeIn K Bm "need_many" =true) (wz:PySem.W.keepIn K (.ref vC)=true)
    (zf:PySem.W.nsIn K mainGlobals "price_of" =some (some (.ref yI))) (zj:K.lookup yI=some ⟨S5,SN,.func (PySem.W.fnOf "price_of" "price_of" (defArgs iB) (defBody iB) (defScope iB) .none S6 S7 S8 SQ DP S9),SX⟩) (zm:PySem.W.codeIn K DP "price_of" =true) (zp:PySem.W.keepIn K (.ref yI)=true)
    (QM:PySem.W.nsIn K mainGlobals "gaps" =some (some (.ref Ox))) (QS:K.lookup Ox=some ⟨adn,adi,.func (PySem.W.fnOf "gaps" "gaps" (defArgs oW) (defBody oW) (defScope oW) .none ado adp adq adk Vd adt),adl⟩) (QT:PySem.W.codeIn K Vd "gaps" =true) (QV:PySem.W.keepIn K (.ref Ox)=true)
    (Ga:PySem.W.nsIn K mainGlobals "turned" =some (some (.ref Fb))) (Gb:K.lookup Fb=some ⟨ZK,ZF,.func (PySem.W.fnOf "turned" "turned" (defArgs jU) (defBody jU) (defScope jU) .none ZL ZM ZP ZG Ky ZQ),ZJ⟩) (Gd:PySem.W.codeIn K Ky "turned" =true) (Ge:PySem.W.keepIn K (.ref Fb)=true)
    (Gf:PySem.W.nsIn K mainGlobals "worths" =some (some (.ref Fd))) (Gg:K.lookup Fd=some ⟨ZW,ZR,.func (PySem.W.fnOf "worths" "worths" (defArgs jV) (defBody jV) (defScope jV) .none ZX Z0 Z1 ZS Kz Z4),ZV⟩) (Gh:PySem.W.codeIn K Kz "worths" =true) (Gi:PySem.W.keepIn K (.ref Fd)=true)
    (Gj:PySem.W.nsIn K mainGlobals "prices" =some (some (.ref Fe))) (Gk:K.lookup Fe=some ⟨Z8,Z5,.func (PySem.W.fnOf "prices" "prices" (defArgs jW) (defBody jW) (defScope jW) .none Z9 aac aad Z6 KC aae),Z7⟩) (Gm:PySem.W.codeIn K KC "prices" =true) (Gn:PySem.W.keepIn K (.ref Fe)=true)
    (zq:PySem.W.nsIn K mainGlobals "together" =some (some (.ref yJ))) (zu:K.lookup yJ=some ⟨Tf,Tc,.func (PySem.W.fnOf "together" "together" (defArgs iC) (defBody iC) (defScope iC) .none Tg Ti Tj Td DQ Tn),Te⟩) (zx:PySem.W.codeIn K DQ "together" =true) (zy:PySem.W.keepIn K (.ref yJ)=true)
    (Xf:PySem.W.nsIn K mainGlobals "law" =some (some (.ref V8))) (Xg:K.lookup V8=some ⟨aev,aes,.func (PySem.W.fnOf "law" "law" (defArgs oX) (defBody oX) (defScope oX) .none aag aah aai aaf Qy aaj),aeu⟩) (Xh:PySem.W.codeIn K Qy "law" =true) (Xi:PySem.W.keepIn K (.ref V8)=true)
    :∃fd:FuncData,(∀(s:Shared) (v:Value),BindsTo s fd ⟨[v],[]⟩ [("_law_script",v)])∧∀base:Heap,K.In base→base.Ns mainGlobals mg→FnOk l.prog w K mg base CX0 10 fa fd ["_law_script"] (J9 K 1 Lw):=by
  have e:=hfa.symm.trans (PySem.W.mg_of X G Xf)
  cases e
  have T:Txt K mg:=⟨⟨_,PySem.W.mg_of X G uI⟩,⟨_,PySem.W.mg_of X G Hr⟩,⟨_,PySem.W.mg_of X G mV⟩,⟨_,PySem.W.mg_of X G mW⟩,⟨_,PySem.W.mg_of X G jt⟩,⟨_,PySem.W.mg_of X G p7⟩,PySem.W.mg_none_of X G rG,PySem.W.mg_none_of X G rJ,PySem.W.mg_none_of X G Av,PySem.W.mg_none_of X G dD,PySem.W.mg_none_of X G Ht,PySem.W.mg_none_of X G gK,PySem.W.mg_none_of X G c7,PySem.W.mg_none_of X G wY,PySem.W.mg_none_of X G oY,PySem.W.mg_none_of X G m7,PySem.W.mg_none_of X G dN,PySem.W.mg_none_of X G oZ,PySem.W.mg_none_of X G qJ,PySem.W.mg_none_of X G eV,PySem.W.mg_none_of X G uJ,Hu,Aw,rW,Hv⟩
  have KD:=fun_mk (st:=jj) Bp Bq Br
  have DR:=fun_mk (st:=gj) vI vJ vK
  have DX:=fun_mk (st:=gk) vM vN vO
  have Ck:=fun_mk (st:=fG) tX tY tZ
  have uh:=fun_mk (st:=cZ) nG nJ nM
  have xg:=fun_mk (st:=dX) qj qm qp
  have DY:=fun_mk (st:=gn) vQ vR vU
  have Jg:=fun_mk (st:=iu) yL yM yN
  have Jh:=fun_mk (st:=iw) yP yQ yR
  have QW:=fun_mk (st:=jR) Fy Fz FJ
  have KH:=fun_mk (st:=jk) Bt Bu Bv
  have KJ:=fun_mk (st:=jl) Bx BJ BK
  have QX:=fun_mk (st:=jT) FQ FW FZ
  have Cm:=fun_mk (st:=fH) ud uf ug
  have xq:=fun_mk (st:=dY) qw qy qz
  have KN:=fun_mk (st:=jm) BP BR BW
  have KQ:=fun_mk (st:=jo) BZ Ca Cd
  have aak:=fun_mk (st:=oU) QD QF QG
  have Ea:=fun_mk (st:=gq) vW vX vY
  have Eb:=fun_mk (st:=gA) v7 v9 wg
  have KR:=fun_mk (st:=jq) Cg Ci Cj
  have xr:=fun_mk (st:=dB) qD qF qG
  have uN:=fun_mk (st:=dM) pB pC pD
  have Ji:=fun_mk (st:=iz) yU yV yW
  have Jj:=fun_mk (st:=fK) yZ za zc
  have aal:=fun_mk (st:=oV) QJ QK QL
  have Ec:=fun_mk (st:=gB) wk wu wz
  have Jk:=fun_mk (st:=iB) zj zm zp
  have aam:=fun_mk (st:=oW) QS QT QV
  have QZ:=fun_mk (st:=jU) Gb Gd Ge
  have Q0:=fun_mk (st:=jV) Gg Gh Gi
  have Q5:=fun_mk (st:=jW) Gk Gm Gn
  have Jl:=fun_mk (st:=iC) zu zx zy
  have abM:=fun_mk (st:=oX) Xg Xh Xi
  have aan:=KD.binds (ps:=["_law_picture_here","_law_x","_law_y"]) fun _ _ _ _ _ _ us hl=>N7 hl fun _ _ _=>rfl
  have Tp:=DR.binds (ps:=["_law_picture_here","_law_mode","_law_x","_law_y","_law_before"]) fun _ _ _ _ _ _ us hl=>lk5 hl fun _ _ _ _ _=>rfl
  have Tq:=DX.binds (ps:=["_law_picture_here","_law_mode","_law_seam"]) fun _ _ _ _ _ _ us hl=>N7 hl fun _ _ _=>rfl
  have Q6:=Ck.binds (ps:=["_law_script","_law_k","_law_many"]) fun _ _ _ _ _ _ us hl=>N7 hl fun _ _ _=>rfl
  have Gp:=uh.binds (ps:=["_law_rows"]) fun _ _ _ _ _ _ us hl=>zE hl fun _=>rfl
  have JZ:=xg.binds (ps:=["_law_script","_law_at_here","_law_broad","_law_tall"]) fun _ _ _ _ _ _ us hl=>lk4 hl fun _ _ _ _=>rfl
  have Tr:=DY.binds (ps:=["_law_script","_law_at_here","_law_broad","_law_tall"]) fun _ _ _ _ _ _ us hl=>lk4 hl fun _ _ _ _=>rfl
  have Xj:=Jg.binds (ps:=["_law_script","_law_at_here","_law_broad","_law_tall"]) fun _ _ _ _ _ _ us hl=>lk4 hl fun _ _ _ _=>rfl
  have Xk:=Jh.binds (ps:=["thing"]) fun _ _ _ _ _ _ us hl=>zE hl fun _=>rfl
  have abk:=QW.binds (ps:=["thing","wide","high"]) fun _ _ _ _ _ _ us hl=>N7 hl fun _ _ _=>rfl
  have aao:=KH.binds (ps:=["thing"]) fun _ _ _ _ _ _ us hl=>zE hl fun _=>rfl
  have aap:=KJ.binds (ps:=["thing"]) fun _ _ _ _ _ _ us hl=>zE hl fun _=>rfl
  have abl:=QX.binds (ps:=["thing"]) fun _ _ _ _ _ _ us hl=>zE hl fun _=>rfl
  have Q7:=Cm.binds (ps:=["thing"]) fun _ _ _ _ _ _ us hl=>zE hl fun _=>rfl
  have J0:=xq.binds (ps:=["thing"]) fun _ _ _ _ _ _ us hl=>zE hl fun _=>rfl
  have aaq:=KN.binds (ps:=["picture"]) fun _ _ _ _ _ _ us hl=>zE hl fun _=>rfl
  have aar:=KQ.binds (ps:=["thing","picture"]) fun _ _ _ _ _ _ us hl=>Ao hl fun _ _=>rfl
  have aey:=aak.binds (ps:=["place","wide"]) fun _ _ _ _ _ _ us hl=>Ao hl fun _ _=>rfl
  have Tt:=Ea.binds (ps:=["x","y","wide"]) fun _ _ _ _ _ _ us hl=>N7 hl fun _ _ _=>rfl
  have Tv:=Eb.binds (ps:=["costs","taken"]) fun _ _ _ _ _ _ us hl=>Ao hl fun _ _=>rfl
  have aas:=KR.binds (ps:=["costs","seams"]) fun _ _ _ _ _ _ us hl=>Ao hl fun _ _=>rfl
  have J1:=xr.binds (ps:=["taken","ahead"]) fun _ _ _ _ _ _ us hl=>Ao hl fun _ _=>rfl
  have Jm:=uN.binds (ps:=["taken","many"]) fun _ _ _ _ _ _ us hl=>Ao hl fun _ _=>rfl
  have Xl:=Ji.binds (ps:=["arcs","many"]) fun _ _ _ _ _ _ us hl=>Ao hl fun _ _=>rfl
  have Xm:=Jj.binds (ps:=["seams","wide","high"]) fun _ _ _ _ _ _ us hl=>N7 hl fun _ _ _=>rfl
  have aez:=aal.binds (ps:=["costs","many"]) fun _ _ _ _ _ _ us hl=>Ao hl fun _ _=>rfl
  have Tw:=Ec.binds (ps:=["picture","many"]) fun _ _ _ _ _ _ us hl=>Ao hl fun _ _=>rfl
  have Xn:=Jk.binds (ps:=["cost","least","into"]) fun _ _ _ _ _ _ us hl=>N7 hl fun _ _ _=>rfl
  have aeA:=aam.binds (ps:=["line"]) fun _ _ _ _ _ _ us hl=>zE hl fun _=>rfl
  have abm:=QZ.binds (ps:=["picture"]) fun _ _ _ _ _ _ us hl=>zE hl fun _=>rfl
  have abn:=Q0.binds (ps:=["picture"]) fun _ _ _ _ _ _ us hl=>zE hl fun _=>rfl
  have abo:=Q5.binds (ps:=["picture","many"]) fun _ _ _ _ _ _ us hl=>Ao hl fun _ _=>rfl
  have Xo:=Jl.binds (ps:=["picture","many"]) fun _ _ _ _ _ _ us hl=>Ao hl fun _ _=>rfl
  have ae9:=abM.binds (ps:=["_law_script"]) fun _ _ _ _ _ _ us hl=>zE hl fun _=>rfl
  refine⟨PySem.W.fnOf "law" "law" (defArgs oX) (defBody oX) (defScope oX) .none aag aah aai aaf Qy aaj,fun s v=> .of_eq rfl,fun base _ _=>?_⟩
  have jN:bf l.prog w K mg base 1 "_law_at" 3 gJ:=VL KD (PySem.W.mg_of X G Bo) aan T
  have mX:bf l.prog w K mg base 2 "_law_step" 5 fZ:=Oe DR (PySem.W.mg_of X G vG) Tp T jN
  have vf:bf l.prog w K mg base 3 "_law_cost" 3 mQ:=Oh DX (PySem.W.mg_of X G vL) Tq T mX
  have bU:bf l.prog w K mg base 1 "_law_drawn" 3 bW:=K3 Ck (PySem.W.mg_of X G tW) Q6 T
  have nu:bf l.prog w K mg base 1 "_law_least_sum" 1 iV:=CW uh (PySem.W.mg_of X G nF) Gp T
  have jJ:bf l.prog w K mg base 2 "_law_picture" 4 iM:=Hx xg (PySem.W.mg_of X G qe) JZ T bU
  have vg:bf l.prog w K mg base 3 "_law_some" 4 mR:=Oj DY (PySem.W.mg_of X G vP) Tr T bU jJ
  have yC:bf l.prog w K mg base 2 "_law_way" 4 oK:=Rk Jg (PySem.W.mg_of X G yK) Xj T bU
  have dg:bf l.prog w K mg base 1 "is_whole" 1 eN:=Ro Jh (PySem.W.mg_of X G yO) Xk T
  have tO:bf l.prog w K mg base 2 "is_way" 3 pR:=Za QW (PySem.W.mg_of X G Fx) abk T dg
  have iK:bf l.prog w K mg base 1 "is_line" 1 iJ:=VP KH (PySem.W.mg_of X G Bs) aao T
  have qY:bf l.prog w K mg base 2 "is_cell" 1 nY:=V0 KJ (PySem.W.mg_of X G Bw) aap T dg
  have tM:bf l.prog w K mg base 3 "is_row" 1 pU:=Zc QX (PySem.W.mg_of X G FN) abl T qY iK
  have lN:bf l.prog w K mg base 4 "is_picture" 1 jG:=K5 Cm (PySem.W.mg_of X G uc) Q7 T iK tM
  have dF:bf l.prog w K mg base 5 "need_picture" 1 dU:=Hz xq (PySem.W.mg_of X G qu) J0 T lN
  have cU:bf l.prog w K mg base 6 "size_of" 1 d9:=V2 KN (PySem.W.mg_of X G BL) aaq T dF
  have Ay:bf l.prog w K mg base 7 "is_seam" 2 lJ:=V4 KQ (PySem.W.mg_of X G BX) aar T tO cU
  have Ax:bf l.prog w K mg base 1 "near" 2 wL:=acV aak (PySem.W.mg_of X G QC) aey T
  have cJ:bf l.prog w K mg base 1 "node_into" 3 cX:=Om Ea (PySem.W.mg_of X G vV) Tt T
  have mY:bf l.prog w K mg base 2 "arcs_down" 2 kJ:=Oq Eb (PySem.W.mg_of X G vZ) Tv T Ax cJ
  have qZ:bf l.prog w K mg base 2 "arcs_up" 2 nZ:=V7 KR (PySem.W.mg_of X G Ce) aas T cJ
  have jK:Nf l.prog w K mg base 1 "change_along" dW 6:=HD xr (PySem.W.mg_of X G qC) J1 T
  have ju:bf l.prog w K mg base 1 "seams_through" 2 gQ:=Ew uN (PySem.W.mg_of X G pA) Jm T
  have o7:bf l.prog w K mg base 1 "searched" 2 lW:=Ru Ji (PySem.W.mg_of X G yS) Xl T
  have o8:M6 l.prog w K mg base 1 "taken_by" 3 lX:=Rw Jj (PySem.W.mg_of X G yX) Xm T
  have mZ:bf l.prog w K mg base 3 "flow" 2 lK:=acX aal (PySem.W.mg_of X G QH) aez T mY qZ jK ju o7 o8
  have eZ:bf l.prog w K mg base 6 "need_many" 2 f9:=Ou Ec (PySem.W.mg_of X G wj) Tw T dg dF
  have o9:bf l.prog w K mg base 1 "price_of" 3 lY:=Ry Jk (PySem.W.mg_of X G zf) Xn T
  have w6:bf l.prog w K mg base 1 "gaps" 1 sX:=acZ aam (PySem.W.mg_of X G QM) aeA T
  have tQ:bf l.prog w K mg base 7 "turned" 1 pX:=Ze QZ (PySem.W.mg_of X G Ga) abm T cU
  have fW:bf l.prog w K mg base 8 "worths" 1 iW:=Zg Q0 (PySem.W.mg_of X G Gf) abn T w6 cU tQ
  have Ey:bf l.prog w K mg base 9 "prices" 2 pY:=Zi Q5 (PySem.W.mg_of X G Gj) abo T mZ eZ cJ o9 fW
  have yD:bf l.prog w K mg base 9 "together" 2 lZ:=RB Jl (PySem.W.mg_of X G zq) Xo T mZ eZ fW
  exact fnD (k:=9) abM kh rfl rfl (fun cdv A outer s H E hr=>aer T vf bU nu vg yC Ay Ey cU yD fW hr) fun ds d _ e=>e
end iU
namespace iU
open PySem PySem.Spec L2 Pu
theorem walk {l:PySem.W.OpenLaw} {q:Program} {loose:List Str} {XP:(Str→Option Value)→Heap→Prop} {YP:World→Heap→Prop} {d:DefRec} {K:Params→PySem.W.Frag} (hn:l.most=some 63) (hdf:d.params.defaults=[])
    (hY:∀(w:World) (h:Heap),YP w h→(K w.params).In h)
    (F:∀(w:World) (mg:Str→Option Value) (fa:Addr) (h:Heap),(K w.params).In h→h.Ns mainGlobals mg→mg d.name=some (.ref fa)→
      ∃fd:FuncData,(∀(s:Shared) (u:Value),BindsTo s fd ⟨[u],[]⟩ [("_law_script",u)])∧∀base:Heap,(K w.params).In base→base.Ns mainGlobals mg→FnOk l.prog w (K w.params) mg base CX0 10 fa fd ["_law_script"] (J9 (K w.params) 1 Lw)):
    PySem.W.WalkO q loose XP YP l.row.toRowW d [] (fun f vs=>PySem.call f vs):=
  L2.walk_of (n:=63) (k:=10) (x:= "_law_script") (CX:=fun _=>CX0) (sp:=fun w=>J9 (K w.params) 1 Lw) hn (by decide) hdf ⟨rfl,by decide,by decide⟩ hY F (fun _ _ a ns hl _ hS=>sp_law hS (abh ns hl)) fun _ _ _ _ _ z=>z
end iU
open PySem PySem.W PyProof.Rows
set_option bootstrap.genMatcherCode true
set_option compiler.extract_closed true
set_option maxRecDepth 100000 in
set_option maxHeartbeats 0 in
theorem PySem.Challenge.cw_seamhall_k46_whole_papers_holds : PySem.Challenge.rw_seamhall_k46_whole_papers.Holds := by
  w_on;o_law;k_head;(case hw=>w_witness2)
  k_fill
  refine iU.walk (l:=PySem.Challenge.rw_seamhall_k46_whole_papers) rfl rfl (fun w h Y=>PySem.W.kIn_of Y) ?F
  case F=>
    intro w mg fa h KX G hmg
    refine' iU.all_mk KX G hmg ?uI ?Hr ?mV ?mW ?jt ?p7 ?rG ?rJ ?Av ?dD ?Ht ?gK ?c7 ?wY ?oY ?m7 ?dN ?oZ ?qJ ?eV ?uJ ?Hu ?Aw ?rW ?Hv ?Bo ?Bp ?Bq ?Br ?vG ?vI ?vJ ?vK ?vL ?vM ?vN ?vO ?tW ?tX ?tY ?tZ ?nF ?nG ?nJ ?nM ?qe ?qj ?qm ?qp ?vP ?vQ ?vR ?vU ?yK ?yL ?yM ?yN ?yO ?yP ?yQ ?yR ?Fx ?Fy ?Fz ?FJ ?Bs ?Bt ?Bu ?Bv ?Bw ?Bx ?BJ ?BK ?FN ?FQ ?FW ?FZ ?uc ?ud ?uf ?ug ?qu ?qw ?qy ?qz ?BL ?BP ?BR ?BW ?BX ?BZ ?Ca ?Cd ?QC ?QD ?QF ?QG ?vV ?vW ?vX ?vY ?vZ ?v7 ?v9 ?wg ?Ce ?Cg ?Ci ?Cj ?qC ?qD ?qF ?qG ?pA ?pB ?pC ?pD ?yS ?yU ?yV ?yW ?yX ?yZ ?za ?zc ?QH ?QJ ?QK ?QL ?wj ?wk ?wu ?wz ?zf ?zj ?zm ?zp ?QM ?QS ?QT ?QV ?Ga ?Gb ?Gd ?Ge ?Gf ?Gg ?Gh ?Gi ?Gj ?Gk ?Gm ?Gn ?zq ?zu ?zx ?zy ?Xf ?Xg ?Xh ?Xi
    (case uI=>k_is)
    (case Hr=>k_is)
    (case mV=>k_is)
    (case mW=>k_is)
    (case jt=>k_is)
    (case p7=>k_is)
    (case rG=>k_is)
    (case rJ=>k_is)
    (case Av=>k_is)
    (case dD=>k_is)
    (case Ht=>k_is)
    (case gK=>k_is)
    (case c7=>k_is)
    (case wY=>k_is)
    (case oY=>k_is)
    (case m7=>k_is)
    (case dN=>k_is)
    (case oZ=>k_is)
    (case qJ=>k_is)
    (case eV=>k_is)
    (case uJ=>k_is)
    (case Hu=>intro d;cases d;(show PySem.W.kitOne _ (Value.type "NoneType") (Value.type "int")=some false);kit_is;(show PySem.W.kitOne _ (Value.type "bool") (Value.type "int")=some true);kit_is;(show PySem.W.kitOne _ (Value.type "int") (Value.type "int")=some true);kit_is;(show PySem.W.kitOne _ (Value.type "str") (Value.type "int")=some false);kit_is;(show PySem.W.kitOne _ (Value.type "tuple") (Value.type "int")=some false);kit_is;(show PySem.W.kitOne _ (Value.type "list") (Value.type "int")=some false);kit_is)
    (case Aw=>intro d;cases d;(show PySem.W.kitOne _ (Value.type "NoneType") (Value.type "bool")=some false);kit_is;(show PySem.W.kitOne _ (Value.type "bool") (Value.type "bool")=some true);kit_is;(show PySem.W.kitOne _ (Value.type "int") (Value.type "bool")=some false);kit_is;(show PySem.W.kitOne _ (Value.type "str") (Value.type "bool")=some false);kit_is;(show PySem.W.kitOne _ (Value.type "tuple") (Value.type "bool")=some false);kit_is;(show PySem.W.kitOne _ (Value.type "list") (Value.type "bool")=some false);kit_is)
    (case rW=>intro d;cases d;(show PySem.W.kitOne _ (Value.type "NoneType") (Value.type "tuple")=some false);kit_is;(show PySem.W.kitOne _ (Value.type "bool") (Value.type "tuple")=some false);kit_is;(show PySem.W.kitOne _ (Value.type "int") (Value.type "tuple")=some false);kit_is;(show PySem.W.kitOne _ (Value.type "str") (Value.type "tuple")=some false);kit_is;(show PySem.W.kitOne _ (Value.type "tuple") (Value.type "tuple")=some true);kit_is;(show PySem.W.kitOne _ (Value.type "list") (Value.type "tuple")=some false);kit_is)
    (case Hv=>intro d;cases d;(show PySem.W.kitOne _ (Value.type "NoneType") (Value.type "list")=some false);kit_is;(show PySem.W.kitOne _ (Value.type "bool") (Value.type "list")=some false);kit_is;(show PySem.W.kitOne _ (Value.type "int") (Value.type "list")=some false);kit_is;(show PySem.W.kitOne _ (Value.type "str") (Value.type "list")=some false);kit_is;(show PySem.W.kitOne _ (Value.type "tuple") (Value.type "list")=some false);kit_is;(show PySem.W.kitOne _ (Value.type "list") (Value.type "list")=some true);kit_is)
    (case Bo=>k_is)
    (case Bp=>k_is)
    (case Bq=>k_is)
    (case Br=>k_is)
    (case vG=>k_is)
    (case vI=>k_is)
    (case vJ=>k_is)
    (case vK=>k_is)
    (case vL=>k_is)
    (case vM=>k_is)
    (case vN=>k_is)
    (case vO=>k_is)
    (case tW=>k_is)
    (case tX=>k_is)
    (case tY=>k_is)
    (case tZ=>k_is)
    (case nF=>k_is)
    (case nG=>k_is)
    (case nJ=>k_is)
    (case nM=>k_is)
    (case qe=>k_is)
    (case qj=>k_is)
    (case qm=>k_is)
    (case qp=>k_is)
    (case vP=>k_is)
    (case vQ=>k_is)
    (case vR=>k_is)
    (case vU=>k_is)
    (case yK=>k_is)
    (case yL=>k_is)
    (case yM=>k_is)
    (case yN=>k_is)
    (case yO=>k_is)
    (case yP=>k_is)
    (case yQ=>k_is)
    (case yR=>k_is)
    (case Fx=>k_is)
    (case Fy=>k_is)
    (case Fz=>k_is)
    (case FJ=>k_is)
    (case Bs=>k_is)
    (case Bt=>k_is)
    (case Bu=>k_is)
    (case Bv=>k_is)
    (case Bw=>k_is)
    (case Bx=>k_is)
    (case BJ=>k_is)
    (case BK=>k_is)
    (case FN=>k_is)
    (case FQ=>k_is)
    (case FW=>k_is)
    (case FZ=>k_is)
    (case uc=>k_is)
    (case ud=>k_is)
    (case uf=>k_is)
    (case ug=>k_is)
    (case qu=>k_is)
    (case qw=>k_is)
    (case qy=>k_is)
    (case qz=>k_is)
    (case BL=>k_is)
    (case BP=>k_is)
    (case BR=>k_is)
    (case BW=>k_is)
    (case BX=>k_is)
    (case BZ=>k_is)
    (case Ca=>k_is)
    (case Cd=>k_is)
    (case QC=>k_is)
    (case QD=>k_is)
    (case QF=>k_is)
    (case QG=>k_is)
    (case vV=>k_is)
    (case vW=>k_is)
    (case vX=>k_is)
    (case vY=>k_is)
    (case vZ=>k_is)
    (case v7=>k_is)
    (case v9=>k_is)
    (case wg=>k_is)
    (case Ce=>k_is)
    (case Cg=>k_is)
    (case Ci=>k_is)
    (case Cj=>k_is)
    (case qC=>k_is)
    (case qD=>k_is)
    (case qF=>k_is)
    (case qG=>k_is)
    (case pA=>k_is)
    (case pB=>k_is)
    (case pC=>k_is)
    (case pD=>k_is)
    (case yS=>k_is)
    (case yU=>k_is)
    (case yV=>k_is)
    (case yW=>k_is)
    (case yX=>k_is)
    (case yZ=>k_is)
    (case za=>k_is)
    (case zc=>k_is)
    (case QH=>k_is)
    (case QJ=>k_is)
    (case QK=>k_is)
    (case QL=>k_is)
    (case wj=>k_is)
    (case wk=>k_is)
    (case wu=>k_is)
    (case wz=>k_is)
    (case zf=>k_is)
    (case zj=>k_is)
    (case zm=>k_is)
    (case zp=>k_is)
    (case QM=>k_is)
    (case QS=>k_is)
    (case QT=>k_is)
    (case QV=>k_is)
    (case Ga=>k_is)
    (case Gb=>k_is)
    (case Gd=>k_is)
    (case Ge=>k_is)
    (case Gf=>k_is)
    (case Gg=>k_is)
    (case Gh=>k_is)
    (case Gi=>k_is)
    (case Gj=>k_is)
    (case Gk=>k_is)
    (case Gm=>k_is)
    (case Gn=>k_is)
    (case zq=>k_is)
    (case zu=>k_is)
    (case zx=>k_is)
    (case zy=>k_is)
    (case Xf=>k_is)
    (case Xg=>k_is)
    (case Xh=>k_is)
    (case Xi=>k_is)
