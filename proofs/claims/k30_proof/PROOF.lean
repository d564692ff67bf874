import PyProof.Rows.All
import Wide.All
import OpenK.AllK
import Wide.FinOn
import Lean
import PyProof.EqAt
import PyProof.EqKinds
import PyProof.TupleCall
import PyProof.NeKinds
import PyProof.FString
import PySem.Challenge.RW_seamhall_k30_narrowed
set_option bootstrap.genMatcherCode false
set_option compiler.extract_closed false
set_option Elab.async false
set_option linter.all false
set_option maxRecDepth 100000
set_option maxHeartbeats 4000000
namespace L2
open PySem PySem.Spec PyProof.Rows
noncomputable abbrev Key:=Sum Int Str
noncomputable def keyIs:Key->Value->Bool
 | .inl k,v=>Value.isInt k v
 | .inr x,v=>Value.isStrOf x v
noncomputable def keyH (w:World):Key->Int
 | .inl k=>hashInt k
 | .inr x=>hashStr w x
theorem keyIs_shape:∀{k:Key} {v:Value},keyIs k v=true->(∃i t,k=Sum.inl i/\v=Value.int i t)\/(∃x t,k=Sum.inr x/\v=Value.str x t)
 | .inl i,v,h=>by
  obtain⟨t,e⟩:=Value.isInt_shape (k:=i) (v:=v) h;exact .inl ⟨i,t,rfl,e⟩
 | .inr x,v,h=>by
  obtain⟨t,e⟩:=Value.isStrOf_shape (x:=x) (v:=v) h;exact .inr ⟨x,t,rfl,e⟩
theorem key_ll (a b:Int):decide ((Sum.inl a:Key)=Sum.inl b)=(a ==b):=by
 by_cases e:a=b
 ·subst e;simp
 ·have h:¬(Sum.inl a:Key)=Sum.inl b:=λ q=>e (Sum.inl.inj q);rw[decide_eq_false h];exact (beq_eq_false_iff_ne.mpr e).symm
theorem key_rr (a b:Str):decide ((Sum.inr a:Key)=Sum.inr b)=decide (a=b):=by
 by_cases e:a=b
 ·subst e;simp
 ·have h:¬(Sum.inr a:Key)=Sum.inr b:=λ q=>e (Sum.inr.inj q);rw[decide_eq_false h,decide_eq_false e]
theorem key_lr (a:Int) (b:Str):decide ((Sum.inl a:Key)=Sum.inr b)=false:=decide_eq_false (λ q=>nomatch q)
theorem key_rl (a:Str) (b:Int):decide ((Sum.inr a:Key)=Sum.inl b)=false:=decide_eq_false (λ q=>nomatch q)
noncomputable def mixKind (prog:Program) (w:World):PySem.KeyKind prog w Key where
 is:=keyIs
 hash:=keyH w
 inj :=λ v a b ha hb=>by
  rcases keyIs_shape ha with⟨i,t,rfl,rfl⟩ |⟨x,t,rfl,rfl⟩
  ·rcases keyIs_shape hb with⟨j,u,rfl,e⟩ |⟨y,u,rfl,e⟩
   ·injection e with e1 _;rw[e1]
   ·exact nomatch e
  ·rcases keyIs_shape hb with⟨j,u,rfl,e⟩ |⟨y,u,rfl,e⟩
   ·exact nomatch e
   ·injection e with e1 _;rw[e1]
 byValue:=λ k v h=>by
  rcases keyIs_shape h with⟨i,t,rfl,rfl⟩ |⟨x,t,rfl,rfl⟩ <;> rfl
 pyHash:=λ hv h=>by
  rcases keyIs_shape hv with⟨i,t,rfl,rfl⟩ |⟨x,t,rfl,rfl⟩
  ·exact wpAny_pyHash_int h
  ·exact wpAny_pyHash_str h
 eqBool:=λ hu hv h=>by
  rcases keyIs_shape hu with⟨i,t,rfl,rfl⟩ |⟨x,t,rfl,rfl⟩
  ·rcases keyIs_shape hv with⟨j,u,rfl,rfl⟩ |⟨y,u,rfl,rfl⟩
   ·rw[key_ll] at h;exact wpAny_eqBool_int h
   ·rw[key_lr] at h;exact SeqAt.EqAt.int_str i t y u _ _ _ _ h
  ·rcases keyIs_shape hv with⟨j,u,rfl,rfl⟩ |⟨y,u,rfl,rfl⟩
   ·rw[key_rl] at h;exact SeqAt.EqAt.str_int x t j u _ _ _ _ h
   ·rw[key_rr] at h;exact wpAny_eqBool_str h
 «strs»:=λ k x t v h=>by
  rcases keyIs_shape h with⟨i,u,rfl,e⟩ |⟨y,u,rfl,e⟩
  ·exact nomatch e
  ·injection e with e1 _;subst e1;cases v <;> rfl
inductive V where
 |non |bl (b:Bool) |int (i:Int) |str (x:Str) |byt (b:Array UInt8) |flt (b:UInt64) |ref (a:Addr) |ty (n:String)
 deriving DecidableEq
noncomputable def RelV:V->Value->Prop
 | .non,u=>u=Value.none
 | .bl b,u=>u=Value.bool b
 | .int i,u=>∃t,u=Value.int i t
 | .str x,u=>∃t,u=Value.str x t
 | .byt b,u=>∃t,u=Value.bytes b t
 | .flt b,u=>∃t,u=Value.float b t
 | .ref a,u=>u=Value.ref a
 | .ty n,u=>u=Value.type n
noncomputable abbrev Vals:List V->List Value->Prop:=Paired RelV
theorem Vals.length {xs:List V} {us:List Value} (r:Vals xs us):xs.length=us.length:=Paired.length r
theorem Vals.get:∀{xs:List V} {us:List Value} {i:Nat} {x:V},Vals xs us->xs[i]?=some x->∃u,us[i]?=some u/\RelV x u
 |_,_,_,_,.nil,e=>by simp at e
 |_,_,0,_,.cons r _,e=>by simp at e;subst e;exact⟨_,rfl,r⟩
 | _,_,i+1,x,.cons _ t,e=>by
  obtain⟨u,h1,h2⟩:=Vals.get (i:=i) (x:=x) t (by simpa using e);exact⟨u,by simpa using h1,h2⟩
theorem Vals.append:∀{xs ys:List V} {us ws:List Value},Vals xs us->Vals ys ws->Vals (xs++ys) (us++ws)
 :=by
 intro xs ys us ws h q
 induction h with
 |nil=>exact q
 |cons r t ih=>exact .cons r ih
theorem Vals.take:∀{xs:List V} {us:List Value} (n:Nat),Vals xs us->Vals (xs.take n) (us.take n)
 |_,_,0,_=> .nil
 |_,_,_+1,.nil=> .nil
 |_,_,n+1,.cons r t=> .cons r (Vals.take n t)
theorem Vals.drop:∀{xs:List V} {us:List Value} (n:Nat),Vals xs us->Vals (xs.drop n) (us.drop n)
 |_,_,0,r=>r
 |_,_,_+1,.nil=> .nil
 |_,_,n+1,.cons _ t=>Vals.drop n t
noncomputable def RelO:Option V->Option Value->Prop
 |some v,some u=>RelV v u
 |none,none=>True
 |_,_=>False
noncomputable def KV {κ:Type}:List (κ×V)->List (κ×Value)->Prop:=Paired λ (p:κ×V) (q:κ×Value)=>p.1=q.1/\RelV p.2 q.2
noncomputable def kV:Key->V
 | .inl i=> .int i
 | .inr x=> .str x
inductive HO where
 /-- a list -/
 |lst (xs:List V)
 /-- a tuple (never changes) -/
 |tup (xs:List V)
 /-- a dict whose keys are ints and texts;one whose keys are tuples of ints and texts (the empty one is both) -/
 |dK (kvs:List (Key×V)) |dT (kvs:List (List Key×V))
 /-- a set of ints:its members,its size -/
 |set (S:Int->Bool) (n:Nat)
 /-- an instance of the class at C,its dict at dx,its attributes -/
 |ins (C dx:Addr) (fs:List (Str×V))
 /-- the dict of the instance at x -/
 |own (x:Addr)
 /-- the dict of an exception -/
 |xd (fs:List (Str×V))
 /-- a bound method,f of x -/
 |met (f x:Addr)
 /-- a range object lo,lo+1,.. below hi -/
 |rng (lo hi:Int)
 /-- a thing that is known to the object (the script;a dict while a loop walks it):read,never written while it is so -/
 |frz (o:Obj) (u:HO)
 /-- a code object's table -/
 |tbl (ps:Array Value)
 /-- any other thing,by what is true of its one object (a def of one's own:SetO a S n:=HO.ext λ h=> ..) -/
 |ext (φ:Heap->Prop)
noncomputable abbrev Hp:=Addr->Option HO
noncomputable def upd (H:Hp) (a:Addr) (o:HO):Hp:=λ b=>if b=a then some o else H b
theorem upd_same {H:Hp} {a:Addr} {o:HO}:upd H a o a=some o:=by unfold upd;rw[if_pos rfl]
theorem upd_ne {H:Hp} {a b:Addr} {o:HO} (h:b≠a):upd H a o b=H b:=by unfold upd;rw[if_neg h]
theorem ne_of_none {H:Hp} {a b:Addr} {o:HO} (h:H a=some o) (h':H b=none):a≠b:=by
 intro e;subst e;rw[h] at h';cases h'
section
variable (P:Program) (w:World)
noncomputable def ObjOk (H:Hp) (h:Heap) (a:Addr):HO->Prop
 | .lst xs=>xs.length<=sizeLine/\∃(its:List Value) (n:Nat),Vals xs its/\h.get? a=some {cls:= .type "list",data:= .seq its.toArray n}
 | .tup xs=>xs.length<=sizeLine/\∃its:List Value,Vals xs its/\IsTup h a its.toArray
 | .dK kvs=>kvs.length<=sizeLine/\(a ==sysModules)=false/\∃vs,KV kvs vs/\h.DictOf (mixKind P w) a vs
 | .dT kvs=>kvs.length<=sizeLine/\(a ==sysModules)=false/\∃xs:List (List Key×Addr×Value),
   Paired (λ (p:List Key×V) (q:List Key×Addr×Value)=>p.1=q.1/\H q.2.1=some (.tup (p.1.map kV))/\RelV p.2 q.2.2) kvs xs/\
   ∃o es ep,h.get? a=some o/\o.ExactDict/\o.data= .dict es ep/\es.toList=xs.map (entryOfKey (tupleKind (mixKind P w)))/\(xs.map (·.1)).Nodup
 | .set S n=>h.SetOf (intKind P w) a S n
 | .ins C dx fs=>H dx=some (.own a)/\fs.length<=1000/\dx≠a/\h.get? a=some (PySem.W.instObj C dx)/\
   ∃mA,h.Ns1 dx mA/\(∀f,RelO (fs.lookup f) (mA f))/\PySem.Within mA (fs.map (·.1))
 | .own _=>∃o,h.get? a=some o
 | .xd fs=>∃mA,h.Ns1 a mA/\∀f,RelO (fs.lookup f) (mA f)
 | .rng lo hi=>∃t u v,h.get? a=some {cls:= .type "range",data:= .fields #[.int lo t,.int hi u,.int 1 v]}
 | .frz o u=>h.get? a=some o/\ObjOk H h a u
 | .tbl ps=>∃qs:Array Value,h.get? a=some (PySem.W.tabObj qs)/\TriplesOk qs.toList/\∀pos cv,codeAmong pos qs.toList=some cv->∃c oc vs q t tq,cv= .ref c/\H c=some (.frz oc (.own c))/\oc.data= .fields vs/\vs[1]?=some (.str q t)/\ps[0]?=some (.str q tq)
 | .met f x=>h.get? a=some (PySem.W.methodObj (.ref f) (.ref x))
 | .ext φ=>φ h/\(∃o,h.get? a=some o)/\∀h1 h2:Heap,φ h1->(∀o,h1.get? a=some o->h2.get? a=some o)->φ h2
noncomputable def HOk (H:Hp) (h:Heap):Prop:=∀a o,H a=some o->ObjOk P w H h a o
end
section
variable {P:Program} {w:World} {H H':Hp} {h h':Heap} {a:Addr} {o:HO}
theorem ObjOk.lt (x:ObjOk P w H h a o):a < h.objs.size:=by
 cases o with
 |lst xs=>obtain⟨_,_,_,_,e⟩:=x;exact Heap.lt_size e
 |tup xs=>obtain⟨_,_,_,p⟩:=x;exact p.lt
 |dK kvs=>obtain⟨_,_,_,_,o,_,_,e,_⟩:=x;exact Heap.lt_size e
 |dT kvs=>obtain⟨_,_,_,_,o,_,_,e,_⟩:=x;exact Heap.lt_size e
 |set S n=>obtain⟨o,_,_,_,e,_⟩:=x;exact Heap.lt_size e
 |ins C dx fs=>obtain⟨_,_,_,e,_⟩:=x;exact Heap.lt_size e
 |own y=>obtain⟨_,e⟩:=x;exact Heap.lt_size e
 |xd fs=>obtain⟨_,⟨_,_,_,e,_⟩,_⟩:=x;exact Heap.lt_size e
 |rng lo hi=>obtain⟨_,_,_,e⟩:=x;exact Heap.lt_size e
 |frz ob u=>obtain⟨e,_⟩:=x;exact Heap.lt_size e
 |tbl ps=>obtain⟨_,e,_⟩:=x;exact Heap.lt_size e
 |met f y=>exact Heap.lt_size (show h.get? a=some _ from x)
 |ext φ=>obtain⟨_,⟨_,e⟩,_⟩:=x;exact Heap.lt_size e
theorem Paired.mapP {α β:Type} {F G:α->β->Prop}:∀{l₁:List α} {l₂:List β},Paired F l₁ l₂->(∀a b,F a b->G a b)->Paired G l₁ l₂
 :=by
 intro l₁ l₂ h f
 induction h with
 |nil=>exact .nil
 |cons r t ih=>exact .cons (f _ _ r) ih
theorem ObjOk.stay (x:ObjOk P w H h a o) (k:∀b u,(b=a\/H b=some (.own a))->h.get? b=some u->h'.get? b=some u)
  (ho:∀b,H b=some (.own a)->H' b=some (.own a)) (ht:∀b xs,H b=some (.tup xs)->H' b=some (.tup xs)) (hz:∀b o u,(∃vs,o.data= .fields vs)->H b=some (.frz o u)->H' b=some (.frz o u)):ObjOk P w H' h' a o:=by
 induction o with
 |lst xs=>obtain⟨z,its,n,r,e⟩:=x;exact⟨z,its,n,r,k _ _ (.inl rfl) e⟩
 |tup xs=>obtain⟨z,its,r,ob,e,c⟩:=x;exact⟨z,its,r,ob,k _ _ (.inl rfl) e,c⟩
 |dK kvs=>obtain⟨z,y,vs,r,ob,es,ep,e,c⟩:=x;exact⟨z,y,vs,r,ob,es,ep,k _ _ (.inl rfl) e,c⟩
 | dT kvs=>
  obtain⟨z,y,xs,r,ob,es,ep,e,c⟩:=x;exact⟨z,y,xs,Paired.mapP r λ p q z=>⟨z.1,ht _ _ z.2.1,z.2.2⟩,ob,es,ep,k _ _ (.inl rfl) e,c⟩
 |set S n=>obtain⟨ob,es,ep,t,e,c⟩:=x;exact⟨ob,es,ep,t,k _ _ (.inl rfl) e,c⟩
 | ins C dx fs=>
  obtain⟨d,z,ne,e,mA,⟨od,es,ep,e2,c⟩,r⟩:=x;exact⟨ho _ d,z,ne,k _ _ (.inl rfl) e,mA,⟨od,es,ep,k _ _ (.inr d) e2,c⟩,r⟩
 |own y=>obtain⟨ob,e⟩:=x;exact⟨ob,k _ _ (.inl rfl) e⟩
 |xd fs=>obtain⟨mA,⟨od,es,ep,e,c⟩,r⟩:=x;exact⟨mA,⟨od,es,ep,k _ _ (.inl rfl) e,c⟩,r⟩
 |rng lo hi=>obtain⟨t,u,v,e⟩:=x;exact⟨t,u,v,k _ _ (.inl rfl) e⟩
 |frz ob u ih=>obtain⟨e,q⟩:=x;exact⟨k _ _ (.inl rfl) e,ih q⟩
 | tbl ps=>
  obtain⟨qs,e,tr,al⟩:=x;exact⟨qs,k a _ (.inl rfl) e,tr,λ p cv z=>by
   obtain⟨c,oc,vs,q,t,tq,e1,e2,e3,r⟩:=al p cv z;exact⟨c,oc,vs,q,t,tq,e1,hz _ _ _ ⟨vs,e3⟩ e2,e3,r⟩⟩
 | met f y=>
  have e:h.get? a=some (PySem.W.methodObj (.ref f) (.ref y)):=x;show h'.get? a=some (PySem.W.methodObj (.ref f) (.ref y));exact k a _ (.inl rfl) e
 |ext φ=>obtain⟨p,⟨o,e⟩,st⟩:=x;exact⟨st _ _ p λ o q=>k _ _ (.inl rfl) q,⟨o,k _ _ (.inl rfl) e⟩,st⟩
theorem HOk.lt (x:HOk P w H h) (e:H a=some o):a < h.objs.size:=(x a o e).lt
theorem HOk.fresh (x:HOk P w H h) (e:h.objs.size<=a):H a=none:=by
 cases q:H a with
 |none=>rfl
 |some u=>exact absurd (Nat.lt_of_lt_of_le (x.lt q) e) (Nat.lt_irrefl _)
theorem HOk.kept (x:HOk P w H h) (k:∀b u,h.get? b=some u->h'.get? b=some u):HOk P w H h':=λ a o e=>
 (x a o e).stay (λ b u _ q=>k b u q) (λ _ q=>q) (λ _ _ q=>q) λ _ _ _ _ q=>q
theorem HOk.laid (x:HOk P w H h) (k:∀b u,h.get? b=some u->h'.get? b=some u) (hp:h.objs.size<=a) (new:ObjOk P w (upd H a o) h' a o):HOk P w (upd H a o) h':=λ b u e=>by
 have hn:=x.fresh hp;by_cases hb:b=a
 ·subst hb;rw[upd_same] at e;cases e;exact new
 ·rw[upd_ne hb] at e;exact (x b u e).stay (λ c v _ q=>k c v q) (λ c q=>by rw[upd_ne (ne_of_none q hn)];exact q) (λ c xs q=>by rw[upd_ne (ne_of_none q hn)];exact q) λ c _ _ _ q=>by rw[upd_ne (ne_of_none q hn)];exact q
end
noncomputable def Rd (H:Hp) (a:Addr) (u:HO):Prop:=H a=some u\/∃o,H a=some (.frz o u)
theorem Rd.ok {P:Program} {w:World} {H:Hp} {h:Heap} {a:Addr} {u:HO} (r:Rd H a u) (x:HOk P w H h):ObjOk P w H h a u:=by
 rcases r with r |⟨o,r⟩
 ·exact x a u r
 ·obtain⟨_,q⟩:=x a _ r;exact q
noncomputable def Mut:Option HO->Prop
 |some (.lst _)=>True
 |some (.dK _)=>True
 |some (.dT _)=>True
 |some (.set _ _)=>True
 |some (.ins _ _ _)=>True
 |some (.ext _)=>True
 |_=>False
section
variable {P:Program} {w:World} {H:Hp} {h h':Heap} {x e:Addr} {o':HO}
theorem HOk.write (ok:HOk P w H h) (mu:Mut (H x)) (he:e=x\/H e=some (.own x)) (k:∀b u,b≠e->h.get? b=some u->h'.get? b=some u) (heo:∃u,h'.get? e=some u)
  (new:ObjOk P w (upd H x o') h' x o'):HOk P w (upd H x o') h':=λ b u q=>by
 have nown:∀c y,H c=some (.own y)->c≠x:=λ c y r z=>by subst z;rw[r] at mu;exact mu
 have ntup:∀c xs,H c=some (.tup xs)->c≠x:=λ c xs r z=>by subst z;rw[r] at mu;exact mu
 by_cases hb:b=x
 ·subst hb;rw[upd_same] at q;cases q;exact new
 ·rw [upd_ne hb] at q;by_cases hbe:b=e
  ·have q':H b=some (.own x):=by
    rcases he with z |z
    ·exact absurd (hbe.trans z) hb
    ·rw[hbe];exact z
   rw[q] at q';cases q';obtain⟨v,hv⟩:=heo;exact⟨v,by rw[hbe];exact hv⟩
  ·refine (ok b u q).stay (λ c v hc r=>k c v ?_ r) (λ c r=>by rw[upd_ne (nown c b r)];exact r) (λ c xs r=>by rw[upd_ne (ntup c xs r)];exact r) λ c o1 u1 _ r=>by rw[upd_ne (λ z=>by rw[z] at r;rw[r] at mu;exact mu)];exact r
   rcases hc with rfl |hc
   ·exact hbe
   ·rintro rfl
    rcases he with z |z
    ·exact nown c b hc z
    ·rw[hc] at z;cases z;exact hb rfl
end
structure Un (fs ex:List Addr) (H H':Hp) (h h':Heap):Prop where
 keep:∀b o,h.get? b=some o->H b=none->b∉fs->b∉ex->h'.get? b=some o
 slot:∀b o,h.get? b=some o->H b=none->b∈fs->b∉ex->∃sl,h'.get? b=some {o with slots:=sl}
 free:∀b o,h.get? b=some o->H b=none->b∉ex->H' b=none
 there:∀b o,h.get? b=some o->b∉ex->∃o',h'.get? b=some o'
 tups:∀b xs,H b=some (.tup xs)->H' b=some (.tup xs)
 frzs:∀b o u,H b=some (.frz o u)->H' b=some (.frz o u)
 tbls:∀b ps,H b=some (.tbl ps)->∃more,H' b=some (.tbl (ps++more))
section
variable {fs fs' ex ex':List Addr} {H H1 H2:Hp} {h h1 h2 h':Heap} {a x e:Addr} {o:HO}
theorem Un.any (u:Un fs ex H H1 h h1) {b:Addr} {ob:Obj} (q:h.get? b=some ob) (n:H b=none) (hx:b∉ex):∃sl,h1.get? b=some {ob with slots:=sl}:=by
 by_cases hb:b∈fs
 ·exact u.slot b ob q n hb hx
 ·exact⟨ob.slots,u.keep b ob q n hb hx⟩
theorem Un.kept (k:∀b u,h.get? b=some u->h'.get? b=some u):Un fs ex H H h h':=
 ⟨λ b ob q _ _ _=>k b ob q,λ b ob q _ _ _=>⟨ob.slots,k b ob q⟩,λ _ _ _ n _=>n,λ b ob q _=>⟨ob,k b ob q⟩,λ _ _ q=>q,λ _ _ _ q=>q,λ _ ps q=>⟨#[],by rw[q];simp⟩⟩
theorem Un.refl:Un fs ex H H h h:=Un.kept λ _ _ q=>q
theorem Un.laid (k:∀b u,h.get? b=some u->h'.get? b=some u) (hp:h.objs.size<=a) (hn:H a=none):Un fs ex H (upd H a o) h h' where
 keep:=λ b u q _ _ _=>k b u q
 slot:=λ b u q _ _ _=>⟨u.slots,k b u q⟩
 free:=λ b u q n _=>by rw[upd_ne (Nat.ne_of_lt (Nat.lt_of_lt_of_le (Heap.lt_size q) hp))];exact n
 there:=λ b u q _=>⟨u,k b u q⟩
 tups:=λ b xs q=>by rw[upd_ne (ne_of_none q hn)];exact q
 frzs:=λ b u xs q=>by rw[upd_ne (ne_of_none q hn)];exact q
 tbls:=λ b ps q=>⟨#[],by rw[upd_ne (ne_of_none q hn),q];simp⟩
theorem Un.write (mu:Mut (H x)) (he:e=x\/H e=some (.own x)) (k:∀b u,b≠e->h.get? b=some u->h'.get? b=some u) (heo:∃u,h'.get? e=some u):Un fs ex H (upd H x o) h h':=by
 have hx:∀b,H b=none->b≠x:=λ b n z=>by subst z;rw[n] at mu;exact mu
 have hb:∀b,H b=none->b≠e:=λ b n z=>by
  subst z;rcases he with r |r
  ·exact hx b n r
  ·rw[n] at r;cases r
 have hm:∀b u,H b=some u->¬Mut (some u)->b≠x:=λ b u q nm z=>by subst z;rw[q] at mu;exact nm mu
 refine⟨λ b u q n _ _=>k b u (hb b n) q,λ b u q n _ _=>⟨u.slots,k b u (hb b n) q⟩,λ b u q n _=>by rw[upd_ne (hx b n)];exact n,λ b u q _=>?_,
  λ b xs q=>by rw[upd_ne (hm b _ q λ z=>z)];exact q,λ b u xs q=>by rw[upd_ne (hm b _ q λ z=>z)];exact q,λ b ps q=>⟨#[],by rw[upd_ne (hm b _ q λ z=>z),q];simp⟩⟩
 by_cases hbe:b=e
 ·subst hbe;exact heo
 ·exact⟨u,k b u hbe q⟩
end
noncomputable def trk (h:Heap) (H:Hp):List Addr:=(List.range h.objs.size).filter λ a=>(H a).isSome
noncomputable def hidT (h:Heap) (H:Hp):Heap:=PySem.W.hideAll h (trk h H)
theorem hidT_size (h:Heap) (H:Hp):(hidT h H).objs.size=h.objs.size:=PySem.W.hideAll_size _ _
theorem hidT_get {h:Heap} {H:Hp} {b:Addr} {o:Obj} (e:h.get? b=some o) (n:H b=none):(hidT h H).get? b=some o:=
 PySem.W.hideAll_get _ e λ hm=>by
  have q:(H b).isSome=true:=(List.mem_filter.mp hm).2;rw[n] at q;simp at q
theorem of_hidT {h:Heap} {H:Hp} {b:Addr} {o:Obj} (e:(hidT h H).get? b=some o):h.get? b=some o/\H b=none:=by
 have e':h.get? b=some o:=PySem.W.of_hideAll (trk h H) e;refine⟨e',?_⟩;cases q:H b with
 |none=>rfl
 | some x=>
  have hm:b∈trk h H:=List.mem_filter.mpr ⟨List.mem_range.mpr (Heap.lt_size e'),by simp[q]⟩;have z:(hidT h H).get? b=none:=PySem.W.hideAll_none (trk h H) hm;rw[z] at e;cases e
noncomputable def allNews (g h:Heap) (L:Addr):List (Addr×Obj):=(List.range h.objs.size).filterMap λ a=>if a=L\/(g.get? a).isSome=true then none else (h.get? a).map λ o=>(a,o)
noncomputable def rest (g h:Heap) (L d:Addr):List (Addr×Obj):=(allNews g h L).filter λ p=>decide (p.1≠d)
structure Mod (K:PySem.W.Frag) (mg:Str->Option Value) (base:Heap):Prop where
 kin:K.In base
 glob:base.Ns mainGlobals mg
 blt:∃mb,base.Ns builtinsNs mb/\∀x:Str,x≠"__name__"->mb x=bootBuiltins x
 nolimit:base.NoLimit
structure Cx where
 prog:Program
 w:World
 K:PySem.W.Frag
 mg:Str->Option Value
 base:Heap
 A:Around
 N:List Str
 s₀:Shared
 H₀:Hp
 env:Env
 outer:List Env
 stack:List Env
 ex:List Addr
 fn:Str->Bool
 calm:Bool
 pn:List (Addr×Obj)
 xe:Value->Shared->Prop
noncomputable def frs (l:List Env):List Addr:=l.filterMap (·.frame)
noncomputable abbrev Cx.fs (X:Cx):List Addr:=frs X.outer
noncomputable def Vis (sc:Scope) (x:Str):Prop:=sc.names.lookup x=some .local\/sc.names.lookup x=some .cell\/sc.names.lookup x=some .free
noncomputable def Loc (sc:Scope) (x:Str):Prop:=sc.names.lookup x=some .local\/sc.names.lookup x=some .cell
noncomputable def Look (env:Env) (h:Heap) (m:Str->Option Value) (x:Str) (u:Value):Prop:=
 (env.kindOf x=some .local/\m x=some u)\/((env.kindOf x=some .cell\/env.kindOf x=some .free)/\∃c,env.cells.lookup x=some c/\h.IsCell c (some u))
structure Cx.Ok (X:Cx):Prop where
 mod:Mod X.K X.mg X.base
 kind:X.env.scope.kind= .function
 glob:X.env.globals=mainGlobals
 blt:X.env.builtins=builtinsNs
 above:X.s₀.heap.objs.size<=X.env.locals
 inj:∀x y c,X.env.cells.lookup x=some c->X.env.cells.lookup y=some c->x=y
 has:∀x,(X.env.kindOf x=some .cell\/X.env.kindOf x=some .free)->∃c,X.env.cells.lookup x=some c
 cab:∀x c,X.fn x=true->X.env.cells.lookup x=some c->X.s₀.heap.objs.size<=c
 hd:X.calm=true->X.A.handled=none
 frames:X.A.frames=some X.stack
 stk:X.stack=X.outer\/(X.stack=X.env::X.outer/\X.env.frame=some X.env.locals)
 exf:∀b∈X.ex,b≠X.env.locals/\∀x c,X.env.cells.lookup x=some c->c≠b
 bs:∀b o,X.base.get? b=some o->X.s₀.heap.get? b=some o/\X.H₀ b=none
 bsz:X.base.objs.size<=X.s₀.heap.objs.size
 noex:∀b o,X.base.get? b=some o->b∉X.ex
 exfs:∀b∈X.ex,b∉X.fs
 funs:X.s₀.heap.FunFrames X.base X.outer
 frf:∀b∈X.fs,X.H₀ b=none
structure Inv (X:Cx) (pins:List (Addr×Obj)) (σ:List (Option V)) (H:Hp) (s:Shared):Prop where
 ok:X.Ok
 os:s.os=X.s₀.os
 bare:AllBare s.gens
 base:Un X.fs X.ex X.H₀ H X.s₀.heap s.heap
 loc:∃m,s.heap.Ns X.env.locals m/\∀(i:Nat) (x:Str) (v:V),X.N[i]?=some x->σ[i]?=some (some v)->Vis X.env.scope x->∃u,RelV v u/\Look X.env s.heap m x u
 cell:∀x c,X.env.cells.lookup x=some c->∃v,s.heap.IsCell c v
 free:H X.env.locals=none
 freeC:∀x c,X.env.cells.lookup x=some c->H c=none
 pin:∀p∈X.pn++pins,s.heap.get? p.1=some p.2/\H p.1=none/\p.1≠X.env.locals/\p.1∉X.fs/\∀v,p.2.data≠.cell v
 hok:HOk X.prog X.w H s.heap
 len:σ.length=X.N.length
section
variable {X:Cx} {pins:List (Addr×Obj)} {σ:List (Option V)} {H H':Hp} {s:Shared} {h':Heap}
theorem Cx.Ok.nofr (ok:X.Ok) {b:Addr} {o:Obj} (e:X.base.get? b=some o):b∉X.fs:=λ hb=>by
 have:=(ok.funs.mem hb).1;rw[e] at this;cases this
theorem Inv.bs (I:Inv X pins σ H s):∀b o,X.base.get? b=some o->s.heap.get? b=some o/\H b=none:=λ b o e=>
 ⟨I.base.keep b o (I.ok.bs b o e).1 (I.ok.bs b o e).2 (I.ok.nofr e) (I.ok.noex b o e),I.base.free b o (I.ok.bs b o e).1 (I.ok.bs b o e).2 (I.ok.noex b o e)⟩
theorem Inv.bk (I:Inv X pins σ H s):∀b o,X.base.get? b=some o->s.heap.get? b=some o:=λ b o e=>(I.bs b o e).1
theorem Inv.mod (I:Inv X pins σ H s):Mod X.K X.mg X.base:=I.ok.mod
theorem Inv.kIn (I:Inv X pins σ H s):X.K.In s.heap:=I.ok.mod.kin.keeps I.bk
theorem Inv.lt (I:Inv X pins σ H s):X.env.locals < s.heap.objs.size:=let ⟨_,hn,_⟩:=I.loc;hn.lt
theorem Inv.sz (I:Inv X pins σ H s):X.s₀.heap.objs.size<=s.heap.objs.size:=Nat.le_trans I.ok.above (Nat.le_of_lt I.lt)
theorem Inv.nofs (I:Inv X pins σ H s) {a:Addr} (h:s.heap.objs.size<=a):a∉X.fs:=λ hb=>by
 obtain⟨_,o,ho,_⟩:=I.ok.funs.mem hb;exact absurd (Nat.lt_of_lt_of_le (Heap.lt_size ho) (Nat.le_trans I.sz h)) (Nat.lt_irrefl _)
theorem Inv.cne (I:Inv X pins σ H s):∀x c,X.env.cells.lookup x=some c->c≠X.env.locals:=λ x c e z=>by
 obtain⟨v,o,ho,hd⟩:=I.cell x c e;obtain⟨m,⟨o',es,ep,ho',hd',_⟩,_⟩:=I.loc;rw[z,ho'] at ho;cases ho;rw[hd'] at hd;cases hd
theorem Inv.funs (I:Inv X pins σ H s):s.heap.FunFrames X.base X.outer:=by
 have all:∀(l:List Env),(∀b∈frs l,b∈X.fs)->X.s₀.heap.FunFrames X.base l->s.heap.FunFrames X.base l:=by
  intro l
  induction l with
  |nil=>intro _ _;trivial
  | cons env r ih=>
   intro hs hl;obtain⟨hk,⟨L,o,hf,hn,ho,hd⟩,hr⟩:=hl;have hL:L∈X.fs:=hs L (by unfold frs;rw[List.filterMap_cons,hf];exact List.mem_cons_self);obtain⟨sl,e⟩:=I.base.slot L o ho (I.ok.frf L hL) hL λ z=>I.ok.exfs L z hL;exact⟨hk,⟨L,_,hf,hn,e,hd⟩,ih (λ b hb=>hs b (by unfold frs;rw[List.filterMap_cons,hf];exact List.mem_cons_of_mem _ hb)) hr⟩
 exact all X.outer (λ _ hb=>hb) I.ok.funs
theorem Inv.stack (I:Inv X pins σ H s):s.heap.FunFrames X.base X.stack:=by
 rcases I.ok.stk with e |⟨e,hf⟩
 ·rw[e];exact I.funs
 ·rw[e];obtain⟨m,hn,_⟩:=I.loc;refine .cons (by rw[I.ok.kind];decide) hf hn ?_ I.funs;exact Heap.get?_none_of_le (Nat.le_trans I.ok.bsz I.ok.above)
theorem Inv.stkSub (I:Inv X pins σ H s):∀b∈frs X.stack,b∈X.env.locals::X.fs:=λ b hb=>by
 rcases I.ok.stk with e |⟨e,hf⟩
 ·rw[e] at hb;exact List.mem_cons_of_mem _ hb
 ·rw[e] at hb;unfold frs at hb;rw[List.filterMap_cons,hf] at hb;exact hb
theorem Inv.stkFree (I:Inv X pins σ H s):∀b∈frs X.stack,H b=none:=λ b hb=>by
 rcases List.mem_cons.mp (I.stkSub b hb) with e |hb
 ·rw[e];exact I.free
 ·obtain⟨_,o,ho,_⟩:=I.ok.funs.mem hb;exact I.base.free b o ho (I.ok.frf b hb) λ z=>I.ok.exfs b z hb
theorem Inv.step {g':Array GenState} {t':Nat} {d':Drawn} {ch:List Addr} (I:Inv X pins σ H s)
  (hch:∀b∈ch,(b∈X.ex\/X.s₀.heap.objs.size<=b)/\b≠X.env.locals/\(∀x c,X.env.cells.lookup x=some c->c≠b)/\∀p∈X.pn++pins,p.1≠b)
  (keep:∀b o,b≠X.env.locals->b∉X.fs->b∉ch->s.heap.get? b=some o->H b=none->h'.get? b=some o)
  (slot:∀b o,b≠X.env.locals->b∈X.fs->b∉ch->s.heap.get? b=some o->H b=none->∃sl,h'.get? b=some {o with slots:=sl}) (free:∀b o,b∉ch->s.heap.get? b=some o->H b=none->H' b=none)
  (there:∀b o,b∉ch->s.heap.get? b=some o->∃o',h'.get? b=some o')
  (tups:∀b xs,H b=some (.tup xs)->H' b=some (.tup xs)) (frzs:∀b o u,H b=some (.frz o u)->H' b=some (.frz o u)) (tbls:∀b ps,H b=some (.tbl ps)->∃more,H' b=some (.tbl (ps++more)))
  (ns:∀m,s.heap.Ns X.env.locals m->h'.Ns X.env.locals m) (hok:HOk X.prog X.w H' h') (hg:AllBare g'):
  Inv X pins σ H' {s with heap:=h',gens:=g',drawn:=d',toks:=t'}:=by
 have neL:∀b o,X.s₀.heap.get? b=some o->b≠X.env.locals:=λ b o e=>Nat.ne_of_lt (Nat.lt_of_lt_of_le (Heap.lt_size e) I.ok.above);have neC:∀b o,X.s₀.heap.get? b=some o->b∉X.ex->b∉ch:=λ b o e hx hb=>by
  rcases (hch b hb).1 with z |z
  ·exact hx z
  ·exact absurd (Nat.lt_of_lt_of_le (Heap.lt_size e) z) (Nat.lt_irrefl _)
 have cellK:∀x c,X.env.cells.lookup x=some c->∀v,s.heap.IsCell c v->h'.IsCell c v:=λ x c e v ⟨o,ho,hd⟩=>by
  have nch:c∉ch:=λ z=>(hch c z).2.2.1 x c e rfl;by_cases hc:c∈X.fs
  ·obtain⟨sl,q⟩:=slot c o (I.cne x c e) hc nch ho (I.freeC x c e);exact⟨_,q,hd⟩
  ·exact⟨o,keep c o (I.cne x c e) hc nch ho (I.freeC x c e),hd⟩
 refine⟨I.ok,I.os,hg,⟨λ b o e n hb hx=>?_,λ b o e n hb hx=>?_,λ b o e n hx=>?_,λ b o e hx=>?_,λ b xs e=>tups b xs (I.base.tups b xs e),λ b o xs e=>frzs b o xs (I.base.frzs b o xs e),λ b ps e=>?_⟩,?_,λ x c e=>?_,?_,λ x c e=>?_,λ p hp=>?_,hok,I.len⟩
 ·exact keep b o (neL b o e) hb (neC b o e hx) (I.base.keep b o e n hb hx) (I.base.free b o e n hx)
 ·obtain⟨sl,e1⟩:=I.base.slot b o e n hb hx;obtain⟨sl',e2⟩:=slot b _ (neL b o e) hb (neC b o e hx) e1 (I.base.free b o e n hx);exact⟨sl',e2⟩
 ·obtain⟨o',e1⟩:=I.base.there b o e hx;exact free b o' (neC b o e hx) e1 (I.base.free b o e n hx)
 ·obtain⟨o',e1⟩:=I.base.there b o e hx;exact there b o' (neC b o e hx) e1
 ·obtain⟨m1,e1⟩:=I.base.tbls b ps e;obtain⟨m2,e2⟩:=tbls b _ e1;exact⟨m1++m2,by rw[e2,Array.append_assoc]⟩
 ·obtain⟨m,hn,hl⟩:=I.loc;refine⟨m,ns m hn,λ i x v e1 e2 e3=>?_⟩;obtain⟨u,r,l⟩:=hl i x v e1 e2 e3;refine⟨u,r,?_⟩;rcases l with l |⟨k,c,e,z⟩
  ·exact .inl l
  ·exact .inr ⟨k,c,e,cellK x c e _ z⟩
 ·obtain⟨v,z⟩:=I.cell x c e;exact⟨v,cellK x c e v z⟩
 ·obtain⟨m,⟨o,_,_,ho,_⟩,_⟩:=I.loc;exact free _ o (λ z=>(hch _ z).2.1 rfl) ho I.free
 ·obtain⟨v,o,ho,hd⟩:=I.cell x c e;exact free c o (λ z=>(hch c z).2.2.1 x c e rfl) ho (I.freeC x c e)
 ·obtain⟨e,n,ne,nf,d⟩:=I.pin p hp;have nch:p.1∉ch:=λ z=>(hch p.1 z).2.2.2 p hp rfl;exact⟨keep p.1 p.2 ne nf nch e n,free p.1 p.2 nch e n,ne,nf,d⟩
theorem Inv.un {t':Nat} (I:Inv X pins σ H s) (u:Un X.fs [] H H' s.heap h') (hok:HOk X.prog X.w H' h'):Inv X pins σ H' {s with heap:=h',toks:=t'}:=by
 obtain⟨m,⟨o,es,ep,ho,r⟩,_⟩:=id I.loc;obtain⟨sl,hL⟩:=u.any ho I.free (by simp);exact I.step (g':=s.gens) (d':=s.drawn) (ch:=[]) (λ _ z=>nomatch z) (λ b o _ hb _ e n=>u.keep b o e n hb (by simp)) (λ b o _ hb _ e n=>u.slot b o e n hb (by simp)) (λ b o _ e n=>u.free b o e n (by simp)) (λ b o _ e=>u.there b o e (by simp)) u.tups u.frzs u.tbls (λ m' hm=>by
  obtain⟨o',es',ep',ho',r'⟩:=hm;rw[ho] at ho';cases ho';exact⟨_,es',ep',hL,r'⟩) hok I.bare
theorem Inv.call {g':Array GenState} {t':Nat} {d':Drawn} {ch:List Addr} (I:Inv X pins σ H s) (u:Un (frs X.stack) ch H H' s.heap h') (hok:HOk X.prog X.w H' h') (hg:AllBare g')
  (hch:∀b∈ch,(b∈X.ex\/X.s₀.heap.objs.size<=b)/\b≠X.env.locals/\(∀x c,X.env.cells.lookup x=some c->c≠b)/\∀p∈X.pn++pins,p.1≠b):
  Inv X pins σ H' {s with heap:=h',gens:=g',drawn:=d',toks:=t'}:=by
 obtain⟨m,⟨o,es,ep,ho,r⟩,_⟩:=id I.loc;obtain⟨sl,hL⟩:=u.any ho I.free λ z=>(hch _ z).2.1 rfl;exact I.step (ch:=ch) hch (λ b o hL hb hc e n=>u.keep b o e n (λ z=>(List.mem_cons.mp (I.stkSub b z)).elim hL hb) hc) (λ b o _ _ hc e n=>u.any e n hc) (λ b o hc e n=>u.free b o e n hc) (λ b o hc e=>u.there b o e hc) u.tups u.frzs u.tbls (λ m' hm=>by
  obtain⟨o',es',ep',ho',r'⟩:=hm;rw[ho] at ho';cases ho';exact⟨_,es',ep',hL,r'⟩) hok hg
theorem Inv.turned {t':Nat} {it:Addr} (I:Inv X pins σ H s) (k:∀b o,b≠it->s.heap.get? b=some o->h'.get? b=some o) (hn:H it=none) (hL:it≠X.env.locals)
  (h1:it∈X.ex\/X.s₀.heap.objs.size<=it) (h2:∀x c,X.env.cells.lookup x=some c->c≠it) (h3:∀p∈X.pn++pins,p.1≠it):Inv X pins σ H {s with heap:=h',toks:=t'}:=by
 have nit:∀b u,H b=some u->b≠it:=λ b u e z=>by rw[z,hn] at e;cases e
 refine I.step (g':=s.gens) (d':=s.drawn) (ch:=[it]) (λ b hb=>?_) (λ b o _ _ hc e _=>k b o (λ z=>hc (by simp[z])) e) (λ b o _ _ hc e _=>⟨o.slots,k b o (λ z=>hc (by simp[z])) e⟩) (λ _ _ _ _ n=>n)
  (λ b o hc e=>⟨o,k b o (λ z=>hc (by simp[z])) e⟩) (λ _ _ e=>e) (λ _ _ _ e=>e) (λ b ps e=>⟨#[],by rw[e];simp⟩) (λ m hm=>?_) (λ b u e=>?_) I.bare
 ·have e:b=it:=by simpa using hb
  subst e;exact⟨h1,hL,h2,h3⟩
 ·obtain⟨o,es,ep,ho,r⟩:=hm;exact⟨o,es,ep,k _ o (Ne.symm hL) ho,r⟩
 ·refine (I.hok b u e).stay (λ c v hc q=>k c v ?_ q) (λ _ q=>q) (λ _ _ q=>q) λ _ _ _ _ q=>q;rcases hc with z |z
  ·rw[z];exact nit b u e
  ·exact nit c _ z
theorem Inv.tok (I:Inv X pins σ H s) (t:Nat):Inv X pins σ H {s with toks:=t}:=I.un (h':=s.heap) (t':=t) Un.refl I.hok
theorem Inv.kept {t':Nat} (I:Inv X pins σ H s) (k:∀b u,s.heap.get? b=some u->h'.get? b=some u):Inv X pins σ H {s with heap:=h',toks:=t'}:=I.un (Un.kept k) (I.hok.kept k)
theorem Inv.laid {a:Addr} {o:HO} {t':Nat} (I:Inv X pins σ H s) (k:∀b u,s.heap.get? b=some u->h'.get? b=some u) (hp:s.heap.objs.size<=a) (new:ObjOk X.prog X.w (upd H a o) h' a o):
  Inv X pins σ (upd H a o) {s with heap:=h',toks:=t'}:=I.un (Un.laid k hp (I.hok.fresh hp)) (I.hok.laid k hp new)
theorem Inv.write {x e:Addr} {o:HO} {t':Nat} (I:Inv X pins σ H s) (mu:Mut (H x)) (he:e=x\/H e=some (.own x)) (k:∀b u,b≠e->s.heap.get? b=some u->h'.get? b=some u) (heo:∃u,h'.get? e=some u)
  (new:ObjOk X.prog X.w (upd H x o) h' x o):Inv X pins σ (upd H x o) {s with heap:=h',toks:=t'}:=I.un (Un.write mu he k heo) (I.hok.write mu he k heo new)
theorem Inv.pins_of {pins':List (Addr×Obj)} (I:Inv X pins σ H s) (h:∀p∈pins',s.heap.get? p.1=some p.2/\H p.1=none/\p.1≠X.env.locals/\p.1∉X.fs/\∀v,p.2.data≠.cell v):Inv X pins' σ H s:=
 ⟨I.ok,I.os,I.bare,I.base,I.loc,I.cell,I.free,I.freeC,λ p hp=>(List.mem_append.mp hp).elim (λ z=>I.pin p (List.mem_append_left _ z)) (h p),I.hok,I.len⟩
theorem nodup_ix {N:List Str} (hN:N.Nodup) {i j:Nat} {x:Str} (a:N[i]?=some x) (b:N[j]?=some x):i=j:=by
 obtain⟨h1,e1⟩:=List.getElem?_eq_some_iff.mp a;obtain⟨h2,e2⟩:=List.getElem?_eq_some_iff.mp b;exact (List.getElem_inj hN).mp (e1.trans e2.symm)
theorem store_ok2 {M:Model} {A:Around} {E:Value->Shared->Prop} {i:Nat} {x:Str} {v:V} {u:Value} {Q:Unit->Shared->Prop} (I:Inv X pins σ H s) (hN:X.N.Nodup) (hi:X.N[i]?=some x) (hx:Loc X.env.scope x) (r:RelV v u)
  (h:∀s',Inv X pins (σ.set i (some v)) H s'->(∃a,Heap.SameBut a s.heap s'.heap/\(a=X.env.locals\/X.env.cells.lookup x=some a))->Q () s') (hf:X.fn x=true\/X.env.scope.names.lookup x=some .local:=by first |exact .inl rfl |exact .inr rfl |assumption):wpAny M A (storeName X.env x u) Q E s:=by
 obtain⟨m,hn,hl⟩:=id I.loc;have hcls:(X.env.scope.kind == .class || (X.env.scope.kind == .module && X.env.locals !=X.env.globals))=false:=by rw[I.ok.kind];rfl
 have hiσ:i < σ.length:=by rw[I.len];exact (List.getElem?_eq_some_iff.mp hi).1
 have cne:=I.cne;have tracked:∀{a:Addr} {h':Heap},(∃o,s.heap.get? a=some o/\H a=none)->Heap.SameBut a s.heap h'->HOk X.prog X.w H h':=λ {a h'} ha hs b ob e=>by
  obtain⟨_,_,hfree⟩:=ha;refine (I.hok b ob e).stay (λ c w' hc q=>(hs.2 c ?_).trans q) (λ _ q=>q) (λ _ _ q=>q) λ _ _ _ _ q=>q
  rintro rfl
  rcases hc with rfl |hc
  ·rw[hfree] at e;cases e
  ·rw[hfree] at hc;cases hc
 rcases hx with hk |hk
 ·refine wpAny_storeName_local hk hn (λ h' hn' hs=>?_) hcls;obtain⟨oL,_,_,hoL,_⟩:=id hn;refine h _ ⟨I.ok,I.os,I.bare,⟨λ b o e n hb hx=>?_,λ b o e n hb hx=>?_,I.base.free,λ b o e hx=>?_,I.base.tups,I.base.frzs,I.base.tbls⟩,⟨_,hn',λ j y v' e1 e2 e3=>?_⟩,λ y c e=>?_,I.free,I.freeC,λ p hp=>?_,tracked ⟨oL,hoL,I.free⟩ hs,by simpa using I.len⟩ ⟨_,hs,.inl rfl⟩
  ·exact (hs.2 b (Nat.ne_of_lt (Nat.lt_of_lt_of_le (Heap.lt_size e) I.ok.above))).trans (I.base.keep b o e n hb hx)
  ·obtain⟨sl,e1⟩:=I.base.slot b o e n hb hx;exact⟨sl,(hs.2 b (Nat.ne_of_lt (Nat.lt_of_lt_of_le (Heap.lt_size e) I.ok.above))).trans e1⟩
  ·obtain⟨o',e1⟩:=I.base.there b o e hx;exact⟨o',(hs.2 b (Nat.ne_of_lt (Nat.lt_of_lt_of_le (Heap.lt_size e) I.ok.above))).trans e1⟩
  ·by_cases hj:j=i
   ·subst hj;rw[hi] at e1;cases e1;rw[List.getElem?_set_self hiσ] at e2;cases e2;exact⟨u,r,.inl ⟨hk,by simp⟩⟩
   ·rw[List.getElem?_set_ne (Ne.symm hj)] at e2;obtain⟨u',r',q⟩:=hl j y v' e1 e2 e3;refine⟨u',r',?_⟩;rcases q with⟨k,e⟩ |⟨k,c,e,z⟩
    ·refine .inl ⟨k,?_⟩;have:y≠x:=λ e=>hj (nodup_ix hN e1 (e▸hi));simp[this,e]
    ·exact .inr ⟨k,c,e,z.sameBut hs (cne y c e)⟩
  ·obtain⟨w',z⟩:=I.cell y c e;exact⟨w',z.sameBut hs (cne y c e)⟩
  ·obtain⟨e,n,ne,nf,d⟩:=I.pin p hp;exact⟨(hs.2 p.1 ne).trans e,n,ne,nf,d⟩
 ·have hfn:X.fn x=true:=by
   rcases hf with z |z
   ·exact z
   ·rw[z] at hk;cases hk
  obtain⟨c,hc⟩:=I.ok.has x (.inl hk);obtain⟨w',z⟩:=I.cell x c hc;refine wpAny_storeName_cell I.ok.kind hk hc z (λ h' hc' hs=>?_);obtain⟨oc,hoc,hocd⟩:=id z;refine h {s with heap:=h'} ⟨I.ok,I.os,I.bare,⟨λ b o e n hb hx=>?_,λ b o e n hb hx=>?_,I.base.free,λ b o e hx=>?_,I.base.tups,I.base.frzs,I.base.tbls⟩,⟨m,hn.sameBut hs (Ne.symm (cne x c hc)),λ j y v' e1 e2 e3=>?_⟩,λ y c' e=>?_,I.free,I.freeC,λ p hp=>?_,tracked ⟨oc,hoc,I.freeC x c hc⟩ hs,by simpa using I.len⟩ ⟨c,hs,.inr hc⟩
  ·exact (hs.2 b (Nat.ne_of_lt (Nat.lt_of_lt_of_le (Heap.lt_size e) (I.ok.cab x c hfn hc)))).trans (I.base.keep b o e n hb hx)
  ·obtain⟨sl,e1⟩:=I.base.slot b o e n hb hx;exact⟨sl,(hs.2 b (Nat.ne_of_lt (Nat.lt_of_lt_of_le (Heap.lt_size e) (I.ok.cab x c hfn hc)))).trans e1⟩
  ·obtain⟨o',e1⟩:=I.base.there b o e hx;exact⟨o',(hs.2 b (Nat.ne_of_lt (Nat.lt_of_lt_of_le (Heap.lt_size e) (I.ok.cab x c hfn hc)))).trans e1⟩
  ·by_cases hj:j=i
   ·subst hj;rw[hi] at e1;cases e1;rw[List.getElem?_set_self hiσ] at e2;cases e2;exact⟨u,r,.inr ⟨.inl hk,c,hc,hc'⟩⟩
   ·rw[List.getElem?_set_ne (Ne.symm hj)] at e2;obtain⟨u',r',q⟩:=hl j y v' e1 e2 e3;refine⟨u',r',?_⟩;rcases q with q |⟨k,c',e,z'⟩
    ·exact .inl q
    ·refine .inr ⟨k,c',e,z'.sameBut hs ?_⟩
     rintro rfl
     exact hj (nodup_ix hN e1 (I.ok.inj _ _ _ e hc▸hi))
  ·by_cases hcc:c'=c
   ·subst hcc;exact⟨_,hc'⟩
   ·obtain⟨w2,z2⟩:=I.cell y c' e;exact⟨w2,z2.sameBut hs hcc⟩
  ·obtain⟨e,n,ne,nf,d⟩:=I.pin p hp;refine⟨(hs.2 p.1 ?_).trans e,n,ne,nf,d⟩;intro q;rw[q,hoc] at e;have q':oc=p.2:=Option.some.inj e;exact d w' (by rw[<-q'];exact hocd)
theorem store_ok {M:Model} {A:Around} {E:Value->Shared->Prop} {i:Nat} {x:Str} {v:V} {u:Value} {Q:Unit->Shared->Prop} (I:Inv X pins σ H s) (hN:X.N.Nodup) (hi:X.N[i]?=some x) (hx:Loc X.env.scope x) (r:RelV v u)
  (h:∀s',Inv X pins (σ.set i (some v)) H s'->Q () s') (hf:X.fn x=true\/X.env.scope.names.lookup x=some .local:=by first |exact .inl rfl |exact .inr rfl |assumption):wpAny M A (storeName X.env x u) Q E s:=
 store_ok2 I hN hi hx r (λ s' I' _=>h s' I') hf
theorem Inv.call' {s':Shared} {ch:List Addr} (I:Inv X pins σ H s) (ho:s'.os=s.os) (u:Un (frs X.stack) ch H H' s.heap s'.heap) (hok:HOk X.prog X.w H' s'.heap) (hg:AllBare s'.gens)
  (hch:∀b∈ch,(b∈X.ex\/X.s₀.heap.objs.size<=b)/\b≠X.env.locals/\(∀x c,X.env.cells.lookup x=some c->c≠b)/\∀p∈X.pn++pins,p.1≠b):Inv X pins σ H' s':=by
 obtain⟨h',g',d',t',o'⟩:=s';have e:o'=s.os:=ho;subst e;exact I.call (g':=g') (t':=t') (d':=d') u hok hg hch
end
noncomputable abbrev XK:=Value->Option Addr->Hp->Prop
noncomputable abbrev St:=List (Option V)
noncomputable abbrev VK:=V->Hp->Prop
noncomputable abbrev TE:=St->Hp->VK->Prop
noncomputable abbrev TT:=St->Hp->(Bool->Hp->Prop)->Prop
noncomputable abbrev TA:=St->Hp->(List V->Hp->Prop)->Prop
structure Ends where
 nx:St->Hp->Prop
 rt:VK
 bk:St->Hp->Prop:=λ _ _=>False
 ct:St->Hp->Prop:=λ _ _=>False
noncomputable abbrev TS:=Ends->St->Hp->Prop
inductive EP (X:Cx) (pins:List (Addr×Obj)) (σ:St) (Q:VK) (u:Value) (s':Shared):Prop
 |mk (v:V) (H':Hp) (I:Inv X pins σ H' s') (r:RelV v u) (q:Q v H'):EP X pins σ Q u s'
inductive TP (X:Cx) (pins:List (Addr×Obj)) (σ:St) (Q:Bool->Hp->Prop) (b:Bool) (s':Shared):Prop
 |mk (H':Hp) (I:Inv X pins σ H' s') (q:Q b H'):TP X pins σ Q b s'
inductive AP (X:Cx) (pins:List (Addr×Obj)) (σ:St) (Q:List V->Hp->Prop) (us:List Value) (s':Shared):Prop
 |mk (vs:List V) (H':Hp) (I:Inv X pins σ H' s') (r:Vals vs us) (q:Q vs H'):AP X pins σ Q us s'
inductive Tq (X:Cx) (pins:List (Addr×Obj)) (D:St->Hp->Prop) (s':Shared):Prop
 |mk (σ':St) (H':Hp) (I:Inv X pins σ' H' s') (d:D σ' H'):Tq X pins D s'
inductive SPr (X:Cx) (pins:List (Addr×Obj)) (D:V->Hp->Prop) (u:Value) (s':Shared):Prop
 |mk (v:V) (σ':St) (H':Hp) (I:Inv X pins σ' H' s') (r:RelV v u) (d:D v H'):SPr X pins D u s'
def SP (X:Cx) (pins:List (Addr×Obj)) (D:Ends) (f:Flow) (s':Shared):Prop:=
 match f with
 | .next=>Tq X pins D.nx s'
 | .brk=>Tq X pins D.bk s'
 | .cont=>Tq X pins D.ct s'
 | .ret u=>SPr X pins D.rt u s'
noncomputable def PE (X:Cx) (e:Expr) (t:TE):Prop:=
 ∀(pins:List (Addr×Obj)) (s:Shared) (σ:St) (H:Hp) (Q:VK),Inv X pins σ H s->t σ H Q->wpAny (model X.prog X.w) X.A (eval e X.env) (EP X pins σ Q) X.xe s
noncomputable def PT (X:Cx) (e:Expr) (t:TT):Prop:=
 ∀(pins:List (Addr×Obj)) (s:Shared) (σ:St) (H:Hp) (Q:Bool->Hp->Prop),Inv X pins σ H s->t σ H Q->wpAny (model X.prog X.w) X.A (isTrue e X.env (eval e X.env)) (TP X pins σ Q) X.xe s
noncomputable def PW (X:Cx) (e:Expr) (t:TT):Prop:=
 ∀(whole:Sem Value) (pins:List (Addr×Obj)) (s:Shared) (σ:St) (H:Hp) (Q:Bool->Hp->Prop),Inv X pins σ H s->t σ H Q->wpAny (model X.prog X.w) X.A (isTrue e X.env whole) (TP X pins σ Q) X.xe s
noncomputable def PA (X:Cx) (es:List Expr) (t:TA):Prop:=
 ∀(pos:Pos) (pins:List (Addr×Obj)) (s:Shared) (σ:St) (H:Hp) (Q:List V->Hp->Prop),Inv X pins σ H s->t σ H Q->wpAny (model X.prog X.w) X.A (spliced (backTo pos (starEach es X.env))) (AP X pins σ Q) X.xe s
noncomputable def PS (X:Cx) (st:Stmt) (t:TS):Prop:=
 ∀(pins:List (Addr×Obj)) (s:Shared) (σ:St) (H:Hp) (D:Ends),Inv X pins σ H s->t D σ H->wpAny (model X.prog X.w) X.A (exec st X.env) (SP X pins D) X.xe s
noncomputable def PSs (X:Cx) (st:List Stmt) (t:TS):Prop:=
 ∀(pins:List (Addr×Obj)) (s:Shared) (σ:St) (H:Hp) (D:Ends),Inv X pins σ H s->t D σ H->wpAny (model X.prog X.w) X.A (execs st X.env) (SP X pins D) X.xe s
theorem thn {α:Type} {t:Sem α} {Q Q':α->Shared->Prop} {M:Model} {A:Around} {E:Value->Shared->Prop} {s:Shared} (h:wpAny M A t Q E s) (hQ:∀a s,Q a s->Q' a s):wpAny M A t Q' E s:=wpAny_mono h hQ λ _ _ x=>x
section
variable {X:Cx}
theorem bin {a b:Expr} {ta tb:TE} (ha:PE X a ta) (hb:PE X b tb) {pins:List (Addr×Obj)} {s:Shared} {σ:St} {H:Hp} {R:V->V->Hp->Prop} (I:Inv X pins σ H s) (h:ta σ H λ x H1=>tb σ H1 λ y H2=>R x y H2)
  {α:Type} {Q:α->Shared->Prop} {f:Value->Value->Sem α}
  (hf:∀v u s2 x y H2,Inv X pins σ H2 s2->RelV x v->RelV y u->R x y H2->wpAny (model X.prog X.w) X.A (f v u) Q X.xe s2):
  wpAny (model X.prog X.w) X.A (eval a X.env) (λ v s₁=>wpAny (model X.prog X.w) X.A (eval b X.env) (λ u s₂=>wpAny (model X.prog X.w) X.A (f v u) Q X.xe s₂) X.xe s₁) X.xe s:=by
 refine thn (ha pins s σ H _ I h) λ v s1 bM=>?_;obtain⟨x,H1,I1,r1,q1⟩:=bM;refine thn (hb pins s1 σ H1 _ I1 q1) λ u s2 bM=>?_;obtain⟨y,H2,I2,r2,q2⟩:=bM;exact hf v u s2 x y H2 I2 r1 r2 q2
noncomputable def tVar (i:Nat):TE:=λ σ H Q=>∃v,σ[i]?=some (some v)/\Q v H
noncomputable def tC (v:V):TE:=λ _ H Q=>Q v H
theorem pe_var {i:Nat} {x:Str} {pos:Pos} (hN:X.N[i]?=some x) (hv:Vis X.env.scope x) (hd:(x ==("__debug__" :Str))=false:=by decide) (hcd:(x ==("__classdict__" :Str))=false:=by decide):PE X (.Name x pos) (tVar i):=by
 intro pins s σ H Q I h;obtain⟨v,e,h⟩:=h;obtain⟨m,hn,hl⟩:=I.loc;obtain⟨u,r,l⟩:=hl i x v hN e hv;have fin:EP X pins σ Q u s:=⟨v,H,I,r,h⟩;rcases l with⟨hk,hm⟩ |⟨hk,c,hc,hcell⟩
 ·exact wpAny_Name (wpAny_loadName_local I.ok.kind hk hn hm fin) hd
 ·rcases hk with hk |hk
  ·exact wpAny_Name (wpAny_loadName_cell I.ok.kind hk hc hcell fin) hd
  ·exact wpAny_Name (wpAny_loadName_free I.ok.kind hk hc hcell fin hcd) hd
theorem pe_int {i j pos}:PE X (.Constant (.int i) j pos) (tC (.int i)):=λ _ _ _ H _ I h=>wpAny_Constant_int ⟨.int i,H,I.tok _,⟨_,rfl⟩,h⟩
theorem pe_bl {b j pos}:PE X (.Constant (.bool b) j pos) (tC (.bl b)):=λ _ _ _ H _ I h=>Constant_bool ⟨.bl b,H,I,rfl,h⟩
theorem pe_non {j pos}:PE X (.Constant .none j pos) (tC .non):=λ _ _ _ H _ I h=>Constant_none ⟨.non,H,I,rfl,h⟩
theorem pe_str {x j pos}:PE X (.Constant (.str x) j pos) (tC (.str x)):=λ _ _ _ H _ I h=>Calls.Constant_str ⟨.str x,H,I.tok _,⟨_,rfl⟩,h⟩
noncomputable def Gl (X:Cx) (x:Str):Prop:=X.env.kindOf x=some .globalImplicit
theorem ld_glob {E:Value->Shared->Prop} {pins:List (Addr×Obj)} {s:Shared} {σ:St} {H:Hp} {x:Str} {u:Value} {pos:Pos} {Q:Value->Shared->Prop} (I:Inv X pins σ H s) (hg:Gl X x) (hm:X.mg x=some u) (h:Q u s)
  (hd:(x ==("__debug__" :Str))=false:=by decide):wpAny (model X.prog X.w) X.A (eval (.Name x pos) X.env) Q E s:=
 Calls.Name_function_global I.ok.kind hg (Calls.loadGlobal_global (by rw[I.ok.glob];exact I.mod.glob.keeps I.bk) hm h) hd
theorem ld_blt {E:Value->Shared->Prop} {pins:List (Addr×Obj)} {s:Shared} {σ:St} {H:Hp} {x:Str} {u:Value} {pos:Pos} {Q:Value->Shared->Prop} (I:Inv X pins σ H s) (hg:Gl X x) (hm:X.mg x=none) (hv:bootBuiltins x=some u) (h:Q u s)
  (hn:x≠"__name__" :=by decide) (hd:(x ==("__debug__" :Str))=false:=by decide):wpAny (model X.prog X.w) X.A (eval (.Name x pos) X.env) Q E s:=by
 obtain⟨mb,h1,h2⟩:=I.mod.blt;exact Calls.Name_function_global I.ok.kind hg (Calls.loadGlobal_builtin (by rw[I.ok.glob];exact I.mod.glob.keeps I.bk) hm (by rw[I.ok.blt];exact h1.keeps I.bk) ((h2 x hn).trans hv) h) hd
theorem pe_glob {x:Str} {v:V} {u:Value} {pos:Pos} (hg:Gl X x) (hm:X.mg x=some u) (r:RelV v u) (hd:(x ==("__debug__" :Str))=false:=by decide):PE X (.Name x pos) (tC v):=
 λ _ _ _ H _ I h=>ld_glob I hg hm ⟨v,H,I,r,h⟩ hd
theorem pe_bltn {x:Str} {v:V} {u:Value} {pos:Pos} (hg:Gl X x) (hm:X.mg x=none) (hv:bootBuiltins x=some u) (r:RelV v u) (hn:x≠"__name__" :=by decide) (hd:(x ==("__debug__" :Str))=false:=by decide):PE X (.Name x pos) (tC v):=
 λ _ _ _ H _ I h=>ld_blt I hg hm hv ⟨v,H,I,r,h⟩ hn hd
variable {a b:Expr} {ta tb:TE} {pos:Pos}
noncomputable def PC (X:Cx) (op:CmpOp) (a b:Expr) (t:TE):Prop:=
 ∀ (pins:List (Addr×Obj)) (s:Shared) (σ:St) (H:Hp) (Q:VK),Inv X pins σ H s->t σ H Q->
  wpAny (model X.prog X.w) X.A (eval a X.env) (λ v s₁=>wpAny (model X.prog X.w) X.A (eval b X.env) (λ u s₂=>wpAny (model X.prog X.w) X.A (compareOp op v u) (EP X pins σ Q) X.xe s₂) X.xe s₁) X.xe s
theorem nobehind (b:Expr) {op:CmpOp} (h:op≠.In) (h2:op≠.NotIn):behindInMarks op b=false:=by
 have e1:(op ==CmpOp.In)=false:=by cases op <;> first |rfl |exact absurd rfl h
 have e2:(op ==CmpOp.NotIn)=false:=by cases op <;> first |rfl |exact absurd rfl h2
 cases b <;> simp[behindInMarks,e1,e2]
noncomputable def tB (t:TE):TT:=λ σ H Q=>t σ H λ x H1=>∃c,x= .bl c/\Q c H1
theorem pt_cmp {op:CmpOp} {t:TE} (h:PC X op a b t) (h1:behindInMarks op b=false:=by first |exact nobehind _ (by decide) (by decide) |rfl):PT X (.Compare a [op] [b] pos) (tB t):=by
 intro pins s σ H Q I hw;refine wpAny_isTrue_Compare1 (thn (h pins s σ H _ I hw) λ v s1 h1=>thn h1 λ u s2 h2=>thn h2 λ c s3 ⟨x,H1,I1,r1,q1⟩=>?_) h1;obtain⟨d,rfl,q⟩:=q1;cases r1;exact wpAny_truthy_bool ⟨H1,I1,q⟩
theorem pt_val {e:Expr} {t:TE} (h:PE X e t) (he:∀whole,isTrue e X.env whole=(do let v <-whole;standAt e.pos;holding [v] (truthy v)):=by intro _;rfl):PT X e (tB t):=by
 intro pins s σ H Q I hw;refine isTrue_plain (thn (h pins s σ H _ I hw) λ v s1 ⟨x,H1,I1,r1,q1⟩=>?_) (he _);obtain⟨d,rfl,q⟩:=q1;cases r1;exact wpAny_truthy_bool ⟨H1,I1,q⟩
variable {tA tB':TT} {rest:List Expr}
noncomputable def tAnd (t u:TT):TT:=λ σ H Q=>t σ H λ c H1=>if c=true then u σ H1 Q else Q false H1
noncomputable def tOr (t u:TT):TT:=λ σ H Q=>t σ H λ c H1=>if c=true then Q true H1 else u σ H1 Q
noncomputable def tNot (t:TT):TT:=λ σ H Q=>t σ H λ c H1=>Q (!c) H1
theorem pw_and1 (ha:PT X a tA):PW X (.BoolOp .And [a] pos) tA:=by
 intro wh pins s σ H Q I h;refine isTrue_and (thn (ha pins s σ H Q I h) λ c s1 e=>?_);cases c with
 |true=>exact isTrue_and_nil e
 |false=>exact e
theorem pw_or1 (ha:PT X a tA):PW X (.BoolOp .Or [a] pos) tA:=by
 intro wh pins s σ H Q I h;refine isTrue_or (thn (ha pins s σ H Q I h) λ c s1 e=>?_);cases c with
 |false=>exact isTrue_or_nil e
 |true=>exact e
theorem pw_and (ha:PT X a tA) (hb:PW X (.BoolOp .And (b::rest) pos) tB'):PW X (.BoolOp .And (a::b::rest) pos) (tAnd tA tB'):=by
 intro wh pins s σ H Q I h;refine isTrue_and (thn (ha pins s σ H _ I h) λ c s1 bM=>?_);obtain⟨H1,I1,q1⟩:=bM;cases c with
 |true=>exact hb wh pins s1 σ H1 Q I1 q1
 |false=>exact⟨H1,I1,q1⟩
theorem pw_or (ha:PT X a tA) (hb:PW X (.BoolOp .Or (b::rest) pos) tB'):PW X (.BoolOp .Or (a::b::rest) pos) (tOr tA tB'):=by
 intro wh pins s σ H Q I h;refine isTrue_or (thn (ha pins s σ H _ I h) λ c s1 bM=>?_);obtain⟨H1,I1,q1⟩:=bM;cases c with
 |true=>exact⟨H1,I1,q1⟩
 |false=>exact hb wh pins s1 σ H1 Q I1 q1
theorem pt_not (ha:PT X a tA):PT X (.UnaryOp .Not a pos) (tNot tA):=by
 intro pins s σ H Q I h;refine isTrue_not (thn (ha pins s σ H (λ c H1=>Q (!c) H1) I h) λ c s1 hz=>?_);obtain⟨H1,I1,q1⟩:=hz;exact⟨H1,I1,q1⟩
noncomputable def tAndV (ta tb:TE):TE:=λ σ H Q=>ta σ H λ x H1=>∃c,x= .bl c/\if c=true then tb σ H1 Q else Q (.bl false) H1
noncomputable def tNotV (ta:TE):TE:=λ σ H Q=>ta σ H λ x H1=>∃c,x= .bl c/\Q (.bl (!c)) H1
theorem pe_one {op} {t:TE} (h:PE X a t):PE X (.BoolOp op [a] pos) t:=λ pins s σ H Q I hw=>BoolOp_one (h pins s σ H Q I hw)
theorem pe_and (ha:PE X a ta) (hb:PE X (.BoolOp .And (b::rest) pos) tb):PE X (.BoolOp .And (a::b::rest) pos) (tAndV ta tb):=by
 intro pins s σ H Q I h;refine BoolOp_and (thn (ha pins s σ H _ I h) λ v s1 bM=>?_);obtain⟨x,H1,I1,r1,q1⟩:=bM;obtain⟨c,rfl,q1⟩:=q1;cases r1;refine wpAny_truthy_bool ?_;cases c with
 |true=>exact hb pins s1 σ H1 Q I1 q1
 |false=>exact⟨.bl false,H1,I1,rfl,q1⟩
theorem pe_not (ha:PE X a ta):PE X (.UnaryOp .Not a pos) (tNotV ta):=by
 intro pins s σ H Q I h;refine UnaryOp_ (thn (ha pins s σ H _ I h) λ v s1 bM=>?_);obtain⟨x,H1,I1,r1,q1⟩:=bM;obtain⟨c,rfl,q1⟩:=q1;cases r1;exact not_of (wpAny_truthy_bool ⟨.bl (!c),H1,I1,rfl,q1⟩)
noncomputable def tIf (t:TT) (ta tb:TE):TE:=λ σ H Q=>t σ H λ c H1=>if c=true then ta σ H1 Q else tb σ H1 Q
theorem pe_ifExp {c:Expr} (hc:PT X c tA) (ha:PE X a ta) (hb:PE X b tb):PE X (.IfExp c a b pos) (tIf tA ta tb):=by
 intro pins s σ H Q I h;refine wpAny_IfExp (thn (hc pins s σ H _ I h) λ d s1 bM=>?_);obtain⟨H1,I1,q1⟩:=bM;cases d with
 |true=>exact ha pins s1 σ H1 Q I1 q1
 |false=>exact hb pins s1 σ H1 Q I1 q1
end
noncomputable def SqL (K:PySem.W.Frag) (H:Hp) (a:Addr) (xs:List V):Prop:=
 Rd H a (.lst xs)\/
  ∃(o:Obj) (its:Array Value) (n:Nat),K.lookup a=some o/\o.cls= .type "list"/\o.dict=none/\o.data= .seq its n/\its.size<=sizeLine/\Vals xs its.toList
noncomputable def SqT (K:PySem.W.Frag) (H:Hp) (a:Addr) (xs:List V):Prop:=
 Rd H a (.tup xs)\/
  ∃(o:Obj) (its:Array Value) (n:Nat),K.lookup a=some o/\o.cls= .type "tuple"/\o.data= .seq its n/\its.size<=sizeLine/\Vals xs its.toList
noncomputable def absV:Value->Option V
 | .none=>some .non
 | .bool b=>some (.bl b)
 | .int i _=>some (.int i)
 | .str x _=>some (.str x)
 | .bytes b _=>some (.byt b)
 | .float b _=>some (.flt b)
 | .ref a=>some (.ref a)
 | .type n=>some (.ty n)
 |_=>none
theorem RelV.abs {x:V} {u:Value} (r:RelV x u):absV u=some x:=by
 cases x with
 |non=>cases r;rfl
 |bl _=>cases r;rfl
 |int _=>obtain⟨t,rfl⟩:=r;rfl
 |str _=>obtain⟨t,rfl⟩:=r;rfl
 |byt _=>obtain⟨t,rfl⟩:=r;rfl
 |flt _=>obtain⟨t,rfl⟩:=r;rfl
 |ref _=>cases r;rfl
 |ty _=>cases r;rfl
theorem RelV.inj {x y:V} {u:Value} (r:RelV x u) (q:RelV y u):x=y:=Option.some.inj (r.abs.symm.trans q.abs)
theorem Vals.inj:∀{xs ys:List V} {us:List Value},Vals xs us->Vals ys us->xs=ys
 :=by
 intro xs ys us h
 induction h generalizing ys with
 |nil=>intro q;cases q;rfl
 |cons r t ih=>intro q;cases q with |cons r' t'=>rw[r.inj r',ih t']
section
variable {X:Cx} {pins:List (Addr×Obj)} {σ:St} {H:Hp} {s:Shared} {a:Addr} {xs ys:List V}
theorem SqL.of {K:PySem.W.Frag} (h:H a=some (.lst xs)):SqL K H a xs:= .inl (.inl h)
theorem SqT.of {K:PySem.W.Frag} (h:H a=some (.tup xs)):SqT K H a xs:= .inl (.inl h)
theorem Inv.list (I:Inv X pins σ H s) (h:SqL X.K H a xs):∃its:List Value,Vals xs its/\PlainL s.heap a its.toArray/\xs.length<=sizeLine:=by
 rcases h with h |⟨o,its,n,hk,hc,hd,hs,hz,r⟩
 ·obtain⟨z,its,n,r,e⟩:=h.ok I.hok;exact⟨its,r,⟨_,n,e,rfl,rfl,rfl⟩,z⟩
 ·refine⟨its.toList,r,⟨o,n,I.kIn a o hk,hc,hd,by simpa using hs⟩,?_⟩;have e:=r.length;simp only[Array.length_toList] at e;omega
theorem Inv.tuple (I:Inv X pins σ H s) (h:SqT X.K H a xs):∃its:List Value,Vals xs its/\IsTup s.heap a its.toArray/\xs.length<=sizeLine:=by
 rcases h with h |⟨o,its,n,hk,hc,hs,hz,r⟩
 ·obtain⟨z,its,r,p⟩:=h.ok I.hok;exact⟨its,r,p,z⟩
 ·refine⟨its.toList,r,⟨o,I.kIn a o hk,hc,n,by simpa using hs⟩,?_⟩;have e:=r.length;simp only[Array.length_toList] at e;omega
theorem Inv.list_inj (I:Inv X pins σ H s) (h:SqL X.K H a xs) (h':SqL X.K H a ys):xs=ys:=by
 obtain⟨its,r,⟨o,n,e,_,_,d⟩,_⟩:=I.list h;obtain⟨its',r',⟨o',n',e',_,_,d'⟩,_⟩:=I.list h';rw[e] at e';cases e';rw[d] at d';injection d' with d1 _;have:its=its':=by simpa using congrArg Array.toList d1
 subst this;exact r.inj r'
theorem Inv.tuple_inj (I:Inv X pins σ H s) (h:SqT X.K H a xs) (h':SqT X.K H a ys):xs=ys:=by
 obtain⟨its,r,⟨o,e,_,n,d⟩,_⟩:=I.tuple h;obtain⟨its',r',⟨o',e',_,n',d'⟩,_⟩:=I.tuple h';rw[e] at e';cases e';rw[d] at d';injection d' with d1 _;have:its=its':=by simpa using congrArg Array.toList d1
 subst this;exact r.inj r'
end
noncomputable abbrev Cx.wish (X:Cx) (E:Value->Shared->Prop):Cx:={X with xe:=E}
noncomputable abbrev Cx.nox (X:Cx):Cx:=X.wish λ _ _=>False
theorem Cx.Ok.wish {X:Cx} (ok:X.Ok) (E:Value->Shared->Prop):(X.wish E).Ok:=
 ⟨ok.mod,ok.kind,ok.glob,ok.blt,ok.above,ok.inj,ok.has,ok.cab,ok.hd,ok.frames,ok.stk,ok.exf,ok.bs,ok.bsz,ok.noex,ok.exfs,ok.funs,ok.frf⟩
theorem Cx.Ok.unwish {X:Cx} {E:Value->Shared->Prop} (ok:(X.wish E).Ok):X.Ok:=
 ⟨ok.mod,ok.kind,ok.glob,ok.blt,ok.above,ok.inj,ok.has,ok.cab,ok.hd,ok.frames,ok.stk,ok.exf,ok.bs,ok.bsz,ok.noex,ok.exfs,ok.funs,ok.frf⟩
section
variable {X:Cx} {pins:List (Addr×Obj)} {σ:St} {H:Hp} {s:Shared} {E:Value->Shared->Prop}
theorem Inv.wish (I:Inv X pins σ H s) (E:Value->Shared->Prop):Inv (X.wish E) pins σ H s:=⟨I.ok.wish E,I.os,I.bare,I.base,I.loc,I.cell,I.free,I.freeC,I.pin,I.hok,I.len⟩
theorem Inv.unwish (I:Inv (X.wish E) pins σ H s):Inv X pins σ H s:=⟨I.ok.unwish,I.os,I.bare,I.base,I.loc,I.cell,I.free,I.freeC,I.pin,I.hok,I.len⟩
theorem SP.unwish {D:Ends} {f:Flow} {s':Shared} (h:SP (X.wish E) pins D f s'):SP X pins D f s':=by
 cases f with
 |next=>obtain⟨σ',H',I,q⟩:=h;exact⟨σ',H',I.unwish,q⟩
 |brk=>obtain⟨σ',H',I,q⟩:=h;exact⟨σ',H',I.unwish,q⟩
 |cont=>obtain⟨σ',H',I,q⟩:=h;exact⟨σ',H',I.unwish,q⟩
 |ret u=>obtain⟨v,σ',H',I,r,q⟩:=h;exact⟨v,σ',H',I.unwish,r,q⟩
theorem PSs.nox {st:List Stmt} {t:TS} (h:PSs X.nox st t):PSs X st t:=λ pins s σ H D I hw=>
 wpAny_mono (h pins s σ H D (I.wish _) hw) (λ _ _ q=>q.unwish) λ _ _ z=>False.elim z
end
section
variable {X:Cx} {st:Stmt} {rest:List Stmt} {t u:TS} {e:Expr} {te:TE} {pos:Pos}
noncomputable def tNext:TS:=λ D σ H=>D.nx σ H
noncomputable def tSeq (t u:TS):TS:=λ D σ H=>t {D with nx:=u D} σ H
theorem pss_nil:PSs X [] tNext:=λ _ _ σ H _ I h=>wpAny_execs_nil ⟨σ,H,I,h⟩
theorem pss_cons (h1:PS X st t) (h2:PSs X rest u):PSs X (st::rest) (tSeq t u):=by
 intro pins s σ H D I h;refine wpAny_execs_cons (thn (h1 pins s σ H {D with nx:=u D} I h) λ f s1 q=>?_);cases f with
 | next=>
  obtain⟨σ',H',I',q⟩:=q;exact h2 pins s1 σ' H' D I' q
 |ret v=>exact q
 |brk=>exact q
 |cont=>exact q
theorem pss_one (h1:PS X st t):PSs X [st] t:=by
 intro pins s σ H D I h;refine wpAny_execs_cons (thn (h1 pins s σ H D I h) λ f s1 q=>?_);cases f with
 |next=>exact wpAny_execs_nil q
 |ret v=>exact q
 |brk=>exact q
 |cont=>exact q
theorem Inv.quiet {pins:List (Addr×Obj)} {σ:St} {H:Hp} {s:Shared} (I:Inv X pins σ H s):interactive X.env=false:=by simp[interactive,I.ok.kind]
noncomputable def tDrop (te:TE):TS:=λ D σ H=>te σ H λ _ H1=>D.nx σ H1
theorem ps_expr (he:PE X e te) (hs:swapsWith e none pos.line X.env=pure false:=by rfl):PS X (.Expr e pos) (tDrop te):=by
 intro pins s σ H D I h;exact wpAny_Expr_any (thn (he pins s σ H _ I h) λ v s1 ⟨x,H1,I1,r1,q1⟩=>⟨σ,H1,I1,q1⟩) I.quiet hs
noncomputable def tRet (te:TE):TS:=λ D σ H=>te σ H D.rt
theorem ps_ret (he:PE X e te):PS X (.Return (some e) pos) (tRet te):=by
 intro pins s σ H D I h;exact wpAny_Return_some (thn (he pins s σ H _ I h) λ v s1 ⟨x,H1,I1,r1,q1⟩=>⟨x,σ,H1,I1,r1,q1⟩)
noncomputable def tIfS (c:TT) (t u:TS):TS:=λ D σ H=>c σ H λ b H1=>if b=true then t D σ H1 else u D σ H1
theorem ps_if {c:Expr} {a b:List Stmt} {tc:TT} (hc:PT X c tc) (ha:PSs X a t) (hb:PSs X b u):PS X (.If c a b pos) (tIfS tc t u):=by
 intro pins s σ H D I h;refine wpAny_If (thn (hc pins s σ H _ I h) λ d s1 bM=>?_);obtain⟨H1,I1,q1⟩:=bM;cases d with
 |true=>exact ha pins s1 σ H1 D I1 q1
 |false=>exact hb pins s1 σ H1 D I1 q1
end
noncomputable abbrev TG:=V->St->Hp->(St->Hp->Prop)->Prop
noncomputable abbrev TGs:=List V->St->Hp->(St->Hp->Prop)->Prop
noncomputable def PG (X:Cx) (target:Expr) (t:TG):Prop:=
 ∀ (pins:List (Addr×Obj)) (s:Shared) (σ:St) (H:Hp) (v:V) (u:Value) (Q:St->Hp->Prop),Inv X pins σ H s->RelV v u->t v σ H Q->
  wpAny (model X.prog X.w) X.A (assign target X.env u) (λ _ s'=>Tq X pins Q s') X.xe s
noncomputable def PGs (X:Cx) (ts:List Expr) (t:TGs):Prop:=
 ∀ (pins:List (Addr×Obj)) (s:Shared) (σ:St) (H:Hp) (vs:List V) (us:List Value) (Q:St->Hp->Prop),Inv X pins σ H s->Vals vs us->t vs σ H Q->
  wpAny (model X.prog X.w) X.A (assignInOrder ((assignEach ts X.env).map (·.2)) us) (λ _ s'=>Tq X pins Q s') X.xe s
noncomputable abbrev TIp:=V->V->Hp->VK->Prop
noncomputable def PIp (X:Cx) (op:Operator) (t:TIp):Prop:=
 ∀ (pins:List (Addr×Obj)) (s:Shared) (σ:St) (H:Hp) (x y:V) (v u:Value) (Q:VK),Inv X pins σ H s->RelV x v->RelV y u->t x y H Q->
  wpAny (model X.prog X.w) X.A (inplaceOp op v u) (EP X pins σ Q) X.xe s
section
variable {X:Cx} {pos:Pos}
noncomputable def gName (i:Nat):TG:=λ v σ H Q=>Q (σ.set i (some v)) H
theorem pg_name {i:Nat} {x:Str} (hN:X.N.Nodup) (hi:X.N[i]?=some x) (hx:Loc X.env.scope x) (hf:X.fn x=true\/X.env.scope.names.lookup x=some .local:=by first |exact .inl rfl |exact .inr rfl |assumption):PG X (.Name x pos) (gName i):=by
 intro pins s σ H v u Q I r h;exact wpAny_assign_Name (store_ok I hN hi hx r (λ s' I'=>⟨_,H,I',h⟩) hf)
noncomputable def gNil:TGs:=λ vs σ H Q=>vs=[]/\Q σ H
noncomputable def gCons (t:TG) (u:TGs):TGs:=λ vs σ H Q=>∃v r,vs=v::r/\t v σ H λ σ' H'=>u r σ' H' Q
theorem pgs_nil:PGs X [] gNil:=by
 intro pins s σ H vs us Q I r h;obtain⟨e,h⟩:=h;subst e;cases r;exact assignInOrder_nil ⟨σ,H,I,h⟩
theorem pgs_cons {e:Expr} {es:List Expr} {t:TG} {u:TGs} (h1:PG X e t) (h2:PGs X es u)
  (hs:(assignEach (e::es) X.env).map (·.2)=assign e X.env::(assignEach es X.env).map (·.2):=by rfl):PGs X (e::es) (gCons t u):=by
 intro pins s σ H vs us Q I r h;obtain⟨v,vr,e1,h⟩:=h;subst e1;cases r with
 | cons r rr=>
  rw[hs];refine assignInOrder_cons (thn (h1 pins s σ H _ _ _ I r h) λ _ s1 bM=>?_);obtain⟨σ1,H1,I1,q1⟩:=bM;exact h2 pins s1 σ1 H1 _ _ Q I1 rr q1
noncomputable def gTup (K:PySem.W.Frag) (n:Nat) (t:TGs):TG:=λ v σ H Q=>∃a xs,v= .ref a/\SqT K H a xs/\xs.length=n/\t xs σ H Q
theorem pg_tup {es:List Expr} {k:Nat} {t:TGs} {n:Nat} (hc:X.calm=true) (h:PGs X es t)
  (hn:(assignEach es X.env).length=n:=by rfl) (hst:(assignEach es X.env).findIdx? (·.1)=none:=by rfl):PG X (.Tuple es k pos) (gTup X.K n t):=by
 intro pins s σ H v u Q I r hw;obtain⟨a,xs,e1,hq,hl,hw⟩:=hw;subst e1;cases r;obtain⟨its,rv,ht,hz⟩:=I.tuple hq;refine assign_Tuple_tuple (I.ok.hd hc) ht (by simp[hn,<-hl,rv.length]) hst λ h' hx=>?_;have I1:Inv X pins σ H {s with heap:=h'}:=I.kept (t':=s.toks) λ b o e=>hx b o (Nat.ne_of_lt (Heap.lt_size e)) e;exact h pins _ σ H xs _ Q I1 (by simpa using rv) hw
noncomputable def tAsg (te:TE) (g:TG):TS:=λ D σ H=>te σ H λ x H1=>g x σ H1 D.nx
theorem ps_asg {tg e:Expr} {te:TE} {g:TG} (he:PE X e te) (hg:PG X tg g) (hs:swapsWithSole [tg] e pos.line X.env=pure false:=by rfl) (hw:swappedStores [tg] e X.env=pure none:=by rfl)
  (h1:(assignEach [tg] X.env).map (·.2)=[assign tg X.env]:=by rfl):PS X (.Assign [tg] e pos) (tAsg te g):=by
 intro pins s σ H D I h;refine wpAny_Assign_stores (thn (he pins s σ H _ I h) λ v s1 ⟨x,H1,I1,r1,q1⟩=>?_) hs hw;rw[h1];exact thn (hg pins s1 σ H1 x v _ I1 r1 q1) λ _ s2 q=>q
theorem ps_set {i:Nat} {x:Str} {e:Expr} {te:TE} {pos':Pos} (hN:X.N.Nodup) (hi:X.N[i]?=some x) (hx:Loc X.env.scope x) (he:PE X e te) (hs:swapsWith e (some (.Name x pos')) pos.line X.env=pure false:=by rfl) (hf:X.fn x=true\/X.env.scope.names.lookup x=some .local:=by first |exact .inl rfl |exact .inr rfl |assumption):
  PS X (.Assign [.Name x pos'] e pos) (tAsg te (gName i)):=by
 intro pins s σ H D I h;refine wpAny_Assign_Name (thn (he pins s σ H _ I h) λ v s1 ⟨y,H1,I1,r1,q1⟩=>?_) hs;exact store_ok I1 hN hi hx r1 (λ s2 I2=>⟨_,H1,I2,q1⟩) hf
noncomputable def tPar (i j:Nat) (ta:TA):TS:=λ D σ H=>ta σ H λ vs H1=>∃v w,vs=[v,w]/\D.nx ((σ.set i (some v)).set j (some w)) H1
theorem ps_par {i j:Nat} {x y:Str} {a b:Expr} {ta:TA} {px py pt:Pos} {kt k2 pt2} (hc:X.calm=true) (hN:X.N.Nodup) (hi:X.N[i]?=some x) (hj:X.N[j]?=some y) (hij:i≠j)
  (hx:X.env.scope.names.lookup x=some .local) (hy:X.env.scope.names.lookup y=some .local) (ha:PA X [a,b] ta)
  (hw:swappedStores [.Tuple [.Name x px,.Name y py] kt pt] (.Tuple [a,b] k2 pt2) X.env=pure (some [x,y]))
  (hs:swapsWithSole [.Tuple [.Name x px,.Name y py] kt pt] (.Tuple [a,b] k2 pt2) pos.line X.env=pure false:=by rfl):
  PS X (.Assign [.Tuple [.Name x px,.Name y py] kt pt] (.Tuple [a,b] k2 pt2) pos) (tPar i j ta):=by
 intro pins s σ H D I h;rw[exec_Assign_arm];refine wpAny_bind (wpAny_standAt ?_);rw[hs];refine wpAny_bind (wpAny_pure ?_);rw[if_neg (by decide)];refine wpAny_bind (Tuple_ (thn (ha _ pins s σ H _ I h) λ us s1 bM=>?_));obtain⟨vs,H1,I1,r1,q1⟩:=bM;obtain⟨v,w,e1,q1⟩:=q1;subst e1;obtain⟨u1,u2,rfl,rv,rw'⟩:∃u1 u2,us=[u1,u2]/\RelV v u1/\RelV w u2:=by
  cases r1 with
  | cons p q=>
   cases q with
   | cons p' q'=>
    cases q';exact⟨_,_,rfl,p,p'⟩
 refine wpAny_newObj_type ?_ (by show 2<=sizeLine;decide);have I2:Inv X pins σ H1 {s1 with heap:=s1.heap.push {cls:= .type "tuple",data:= .seq [u1,u2].toArray}}:=I1.kept (t':=s1.toks) λ b o e=>Heap.get?_push_of_some _ e;rw[hw];refine wpAny_bind (wpAny_pure ?_);show wpAny (model X.prog X.w) X.A (do rule "assign.swapped-stores";let items <-unpackItems (.ref s1.heap.objs.size) 2 none;assignInOrder [λ v=>bindName X.env y v,λ v=>bindName X.env x v] items.reverse;pure Flow.next) _ _ _;refine wpAny_bind (wpAny_rule (wpAny_bind (unpackItems_tuple (items:= #[u1,u2]) (I.ok.hd hc) (IsTup.new s1.heap _) λ h' hx'=>?_)));have I3:=I2.kept (h':=h') (t':=s1.toks) λ b o e=>hx' b o (Nat.ne_of_lt (Heap.lt_size e)) e;show wpAny _ _ (assignInOrder [λ v=>bindName X.env y v,λ v=>bindName X.env x v] [u2,u1] >>=λ _=>pure Flow.next) _ _ _;refine wpAny_bind (assignInOrder_cons (wpAny_bindName (store_ok I3 hN hj (.inl hy) rw' (λ s2 I4=>?_) (.inr hy))));refine assignInOrder_cons (wpAny_bindName (store_ok I4 hN hi (.inl hx) rv (λ s3 I5=>assignInOrder_nil (wpAny_pure ?_)) (.inr hx)));rw[List.set_comm _ _ (Ne.symm hij)] at I5;exact⟨_,H1,I5,q1⟩
noncomputable def tAug (i:Nat) (te:TE) (ti:TIp):TS:=λ D σ H=>∃x,σ[i]?=some (some x)/\te σ H λ y H1=>ti x y H1 λ z H2=>D.nx (σ.set i (some z)) H2
theorem ps_aug {i:Nat} {x:Str} {e:Expr} {te:TE} {op:Operator} {ti:TIp} {pos':Pos} (hN:X.N.Nodup) (hi:X.N[i]?=some x) (hx:Loc X.env.scope x) (he:PE X e te) (ho:PIp X op ti) (hf:X.fn x=true\/X.env.scope.names.lookup x=some .local:=by first |exact .inl rfl |exact .inr rfl |assumption):
  PS X (.AugAssign (.Name x pos') op e pos) (tAug i te ti):=by
 intro pins s σ H D I h;obtain⟨v,e1,h⟩:=h;obtain⟨m,hn,hl⟩:=I.loc;have vis:Vis X.env.scope x:=by rcases hx with k |k;exact .inl k;exact .inr (.inl k)
 obtain⟨u,r,l⟩:=hl i x v hi e1 vis;refine wpAny_AugAssign_Name ?_;have go:wpAny (model X.prog X.w) X.A (eval e X.env) (λ w s₂=>wpAny (model X.prog X.w) X.A (inplaceOp op u w) (λ r s₃=>wpAny (model X.prog X.w) X.A (storeName X.env x r) (λ _=>SP X pins D .next) X.xe s₃) X.xe s₂) X.xe s:=by
  refine thn (he pins s σ H _ I h) λ w s1 bM=>?_;obtain⟨y,H1,I1,r1,q1⟩:=bM;refine thn (ho pins s1 σ H1 v y u w _ I1 r r1 q1) λ z s2 bM=>?_;obtain⟨zv,H2,I2,r2,q2⟩:=bM;exact store_ok I2 hN hi hx r2 (λ s3 I3=>⟨_,H2,I3,q2⟩) hf
 rcases l with⟨hk,hm⟩ |⟨hk,c,hc,hcell⟩
 ·exact wpAny_loadName_local I.ok.kind hk hn hm go
 ·rcases hk with hk |hk
  ·exact wpAny_loadName_cell I.ok.kind hk hc hcell go
  ·rcases hx with k |k
   ·have:X.env.scope.names.lookup x=some .free:=hk;rw[k] at this;cases this
   ·have:X.env.scope.names.lookup x=some .free:=hk;rw[k] at this;cases this
noncomputable def ipI (f:Int->Int->Int):TIp:=λ x y H Q=>∃i j,x= .int i/\y= .int j/\Q (.int (f i j)) H
theorem ip_add:PIp X .Add (ipI λ i j=>i+j):=by
 intro pins s σ H x y v u Q I r1 r2 h;obtain⟨i,j,e1,e2,q⟩:=h;subst e1;subst e2;obtain⟨t,rfl⟩:=r1;obtain⟨t',rfl⟩:=r2;exact iadd_int ⟨.int _,H,I.tok _,⟨_,rfl⟩,q⟩
end
section
variable {X:Cx} {pos:Pos}
noncomputable def tWhile (c:TT) (tb:TS):TS:=λ D σ H=>∃W:Nat->St->Hp->Prop,(∃m,W m σ H)/\∀m σ H,W m σ H->
 c σ H λ b H1=>if b=true then ∃N:St->Hp->Prop,(∀σ' H',N σ' H'->∃m',m' < m/\W m' σ' H')/\tb {D with nx:=N,ct:=N,bk:=D.nx} σ H1 else D.nx σ H1
theorem ps_while {c:Expr} {body:List Stmt} {tc:TT} {tb:TS} (hp:PassesOwn (model X.prog X.w) X.A X.env X.xe) (hc:PT X c tc) (hb:PSs X body tb):PS X (.While c body [] pos) (tWhile tc tb):=by
 intro pins s σ H D I h;obtain⟨W,⟨m0,w0⟩,turn⟩:=h;refine wpAny_While (codeAny_whileLoop (λ n s'=>∃σ' H',Inv X pins σ' H' s'/\W n σ' H') ?_ m0 ⟨σ,H,I,w0⟩)
 rintro n s1 ⟨σ1,H1,I1,w1⟩
 refine wpAny_passesOwn hp (thn (hc pins s1 σ1 H1 _ I1 (turn n σ1 H1 w1)) λ b s2 bM=>?_);obtain⟨H2,I2,q2⟩:=bM;cases b with
 | true=>
  obtain⟨N,hN,q2⟩:=q2;rw[if_pos rfl];refine wpAny_passesOwn hp (thn (hb pins s2 σ1 H2 _ I2 q2) λ f s3 q3=>?_);cases f with
  | next=>
   obtain⟨σ3,H3,I3,n3⟩:=q3;obtain⟨m',hm,w3⟩:=hN σ3 H3 n3;exact⟨m',hm,σ3,H3,I3,w3⟩
  | cont=>
   obtain⟨σ3,H3,I3,n3⟩:=q3;obtain⟨m',hm,w3⟩:=hN σ3 H3 n3;exact⟨m',hm,σ3,H3,I3,w3⟩
  |brk=>exact q3
  |ret v=>exact q3
 | false=>
  rw[if_neg Bool.false_ne_true];exact wpAny_execs_nil ⟨σ1,H2,I2,q2⟩
end
structure It where
 go:Nat->Hp->Prop
 yld:Nat->Hp->V->Hp->Prop
 stop:Nat->Hp->Prop
noncomputable def FpOk (X:Cx) (pins:List (Addr×Obj)) (H:Hp) (b:Addr):Prop:=
 H b=none/\b≠X.env.locals/\b∉X.fs/\(b∈X.ex\/X.s₀.heap.objs.size<=b)/\(∀x c,X.env.cells.lookup x=some c->c≠b)/\∀p∈X.pn++pins,p.1≠b
theorem Inv.fpOk {X:Cx} {pins:List (Addr×Obj)} {σ:St} {H H':Hp} {s:Shared} {b:Addr} (I:Inv X pins σ H s) (hb:s.heap.objs.size<=b) (hn:H' b=none):FpOk X pins H' b:=by
 refine⟨hn,Nat.ne_of_gt (Nat.lt_of_lt_of_le I.lt hb),I.nofs hb,.inr (Nat.le_trans I.sz hb),λ x c e z=>?_,λ p hp z=>?_⟩
 ·obtain⟨v,q⟩:=I.cell x c e;exact absurd (Nat.lt_of_lt_of_le q.lt (by rw[z];exact hb)) (Nat.lt_irrefl _)
 ·exact absurd (Nat.lt_of_lt_of_le (Heap.lt_size (I.pin p hp).1) (by rw[z];exact hb)) (Nat.lt_irrefl _)
inductive aby (X:Cx) (pins:List (Addr×Obj)) (σ:St) (H:Hp) (J:It) (tn:Nat->Heap->Prop) (fp:List Addr) (i:Nat) (u:Value) (s2:Shared):Prop
 |mk (x:V) (H':Hp) (I:Inv X pins σ H' s2) (r:RelV x u) (y:J.yld i H x H') (st:tn (i+1) s2.heap) (f:∀b∈fp,H' b=none):aby X pins σ H J tn fp i u s2
structure Turn (P:Program) (w:World) (K:PySem.W.Frag) (tg:Expr) (J:It) (fp:List Addr) (it:Addr) (tn:Nat->Heap->Prop):Prop where
 mem:it∈fp
 obj:∀i h,tn i h->∀b∈fp,∃o,h.get? b=some o/\∀v,o.data≠.cell v
 keep:∀i h h',tn i h->(∀b∈fp,∀o,h.get? b=some o->h'.get? b=some o)->tn i h'
 item:∀(X:Cx),X.prog=P->X.w=w->X.K=K->X.calm=true->∀(i:Nat) (pins:List (Addr×Obj)) (s:Shared) (σ:St) (H:Hp) (E:Value->Shared->Prop),Inv X pins σ H s->(∀b∈fp,FpOk X pins H b)->tn i s.heap->J.go i H->
  wpAny (model P w) X.A (pyNext (.ref it)) (λ r s1=>∃u,r=some u/\
   wpAny (model P w) X.A (letOwnedTupleGo tg (.ref it) u) (λ _ s2=>aby X pins σ H J tn fp i u s2) E s1) E s
 done:∀(X:Cx),X.prog=P->X.w=w->X.K=K->X.calm=true->∀(i:Nat) (pins:List (Addr×Obj)) (s:Shared) (σ:St) (H:Hp) (E:Value->Shared->Prop),Inv X pins σ H s->(∀b∈fp,FpOk X pins H b)->tn i s.heap->J.stop i H->
  wpAny (model P w) X.A (pyNext (.ref it)) (λ r s1=>r=none/\Inv X pins σ H s1) E s
 self:∀(A:Around) (i:Nat) (s:Shared) (Q:Value->Shared->Prop) (E:Value->Shared->Prop),tn i s.heap->Q (.ref it) s->wpAny (model P w) A (pyIter (.ref it)) Q E s
noncomputable abbrev TI:=St->Hp->(It->Hp->Prop)->Prop
inductive PIE (X:Cx) (pins:List (Addr×Obj)) (σ:St) (tg:Expr) (R:It->Hp->Prop) (itv:Value) (s2:Shared):Prop
 |mk (it:Addr) (fp:List Addr) (tn:Nat->Heap->Prop) (J:It) (H':Hp) (e:itv= .ref it) (I:Inv X pins σ H' s2) (T:Turn X.prog X.w X.K tg J fp it tn) (st:tn 0 s2.heap) (f:∀b∈fp,FpOk X pins H' b) (r:R J H'):PIE X pins σ tg R itv s2
noncomputable def PI (X:Cx) (tg iter:Expr) (wi:TI):Prop:=
 ∀ (pins:List (Addr×Obj)) (s:Shared) (σ:St) (H:Hp) (R:It->Hp->Prop),Inv X pins σ H s->wi σ H R->
  wpAny (model X.prog X.w) X.A (eval iter X.env) (λ v s1=>wpAny (model X.prog X.w) X.A (pyIter v) (PIE X pins σ tg R) X.xe s1) X.xe s
theorem go_of {M:Model} {A:Around} {E:Value->Shared->Prop} {s:Shared} {tg:Expr} {it:Addr} {u:Value} {o:Obj} {n:String} {vs:Array Value} {Q:Unit->Shared->Prop} (ho:s.heap.get? it=some o) (hc:o.cls= .type n) (hd:o.data= .fields vs)
  (hn:["enumerate","zip","dict_itemiterator","dict_reverseitemiterator","odict_iterator","itertools.zip_longest","itertools.pairwise"].contains n=false) (hQ:Q () s):wpAny M A (letOwnedTupleGo tg (.ref it) u) Q E s:=by
 unfold letOwnedTupleGo;cases tg <;> first
  |exact wpAny_pure hQ
  | (cases u <;> first
    |exact wpAny_pure hQ
    | (refine wpAny_bind (wpAny_load ho ?_)
       rw[hc,hd];show wpAny M A (if (["enumerate","zip","dict_itemiterator","dict_reverseitemiterator","odict_iterator","itertools.zip_longest","itertools.pairwise"].contains n && vs[0]? ==some (rawInt _))=true then _ else _) Q E s;rw[if_neg (by intro h;rw[hn,Bool.false_and] at h;cases h)];exact wpAny_pure hQ))
noncomputable def Itl (K:PySem.W.Frag) (a:Addr):It:=
 ⟨λ i H=>∃xs x,SqL K H a xs/\xs[i]?=some x,λ i H x H'=>H'=H/\∀xs,SqL K H a xs->xs[i]?=some x,λ i H=>∃xs,SqL K H a xs/\xs.length<=i⟩
noncomputable def Itt (K:PySem.W.Frag) (a:Addr):It:=
 ⟨λ i H=>∃xs x,SqT K H a xs/\xs[i]?=some x,λ i H x H'=>H'=H/\∀xs,SqT K H a xs->xs[i]?=some x,λ i H=>∃xs,SqT K H a xs/\xs.length<=i⟩
noncomputable def Itr (lo:Int) (n:Nat):It:=⟨λ i _=>i < n,λ i H x H'=>H'=H/\x= .int (lo+i),λ i _=>n<=i⟩
theorem turn_list {P:Program} {w:World} {K:PySem.W.Frag} {tg:Expr} (a it:Addr):Turn P w K tg (Itl K a) [it] it (λ i h=>h.IsListIter it a i) where
 mem:=by simp
 obj:=λ i h st b hb=>by
  have e:b=it:=by simpa using hb
  subst e;obtain⟨o,e,c,d⟩:=st;exact⟨o,e,λ v z=>by rw[d] at z;cases z⟩
 keep:=λ i h h' st k=>st.at λ o e=>k it (by simp) o e
 item:=by
  intro X hP hw hK hc i pins s σ H E I hf st hg;subst hP hw hK;obtain⟨xs,x,hq,hx⟩:=hg;obtain⟨its,rv,p,hz⟩:=I.list hq;obtain⟨u,hu,ru⟩:=rv.get hx;obtain⟨f0,f1,f2,f3,f4,f5⟩:=hf it (by simp);refine wpAny_pyNext_list_item st p.isList (x:=u) (by simpa using hu) λ h' st' sb=>?_;have I1:Inv X pins σ H {s with heap:=h'}:=I.turned (t':=s.toks) (λ b o hb e=>(sb.2 b hb).trans e) f0 f1 f3 f4 f5;obtain⟨o,e,c,d⟩:=id st';exact⟨u,rfl,go_of (s:={s with heap:=h'}) e c d (by decide) ⟨x,H,I1,ru,⟨rfl,λ ys hy=>by rw[I.list_inj hy hq];exact hx⟩,st',λ b hb=>(hf b hb).1⟩⟩
 done:=by
  intro X hP hw hK hc i pins s σ H E I hf st hg;subst hP hw hK;obtain⟨xs,hq,hx⟩:=hg;obtain⟨its,rv,p,hz⟩:=I.list hq;obtain⟨f0,f1,f2,f3,f4,f5⟩:=hf it (by simp);have hl:=rv.length;exact wpAny_pyNext_list_end (I.ok.hd hc) st p.isList (by simp;omega) λ h' eb=>⟨rfl,I.turned (t':=s.toks) (λ b o hb e=>eb b o hb e) f0 f1 f3 f4 f5⟩
 self:=λ _ _ _ _ _ st h=>wpAny_pyIter_listiter st h
theorem turn_tuple {P:Program} {w:World} {K:PySem.W.Frag} {tg:Expr} (a it:Addr):Turn P w K tg (Itt K a) [it] it (λ i h=>h.IsTupleIter it a i) where
 mem:=by simp
 obj:=λ i h st b hb=>by
  have e:b=it:=by simpa using hb
  subst e;obtain⟨o,e,c,d⟩:=st;exact⟨o,e,λ v z=>by rw[d] at z;cases z⟩
 keep:=λ i h h' st k=>st.at λ o e=>k it (by simp) o e
 item:=by
  intro X hP hw hK hc i pins s σ H E I hf st hg;subst hP hw hK;obtain⟨xs,x,hq,hx⟩:=hg;obtain⟨its,rv,p,hz⟩:=I.tuple hq;obtain⟨u,hu,ru⟩:=rv.get hx;obtain⟨f0,f1,f2,f3,f4,f5⟩:=hf it (by simp);refine wpAny_pyNext_tuple_item st (show s.heap.IsTuple a its.toArray from p) (x:=u) (by simpa using hu) λ h' st' sb=>?_;have I1:Inv X pins σ H {s with heap:=h'}:=I.turned (t':=s.toks) (λ b o hb e=>(sb.2 b hb).trans e) f0 f1 f3 f4 f5;obtain⟨o,e,c,d⟩:=id st';exact⟨u,rfl,go_of (s:={s with heap:=h'}) e c d (by decide) ⟨x,H,I1,ru,⟨rfl,λ ys hy=>by rw[I.tuple_inj hy hq];exact hx⟩,st',λ b hb=>(hf b hb).1⟩⟩
 done:=by
  intro X hP hw hK hc i pins s σ H E I hf st hg;subst hP hw hK;obtain⟨xs,hq,hx⟩:=hg;obtain⟨its,rv,p,hz⟩:=I.tuple hq;obtain⟨f0,f1,f2,f3,f4,f5⟩:=hf it (by simp);have hl:=rv.length;exact wpAny_pyNext_tuple_end (I.ok.hd hc) st (show s.heap.IsTuple a its.toArray from p) (by simp;omega) λ h' eb=>⟨rfl,I.turned (t':=s.toks) (λ b o hb e=>eb b o hb e) f0 f1 f3 f4 f5⟩
 self:=λ _ _ _ _ _ st h=>wpAny_pyIter_tupleiter st h
theorem turn_range {P:Program} {w:World} {K:PySem.W.Frag} {tg:Expr} (it:Addr) (lo:Int) (n:Nat):Turn P w K tg (Itr lo n) [it] it (λ i h=>IsRangeIter h it (lo+(i:Nat)*1) ((n:Int) - (i:Nat)) 1) where
 mem:=by simp
 obj :=λ i h st b hb=>by
  have e:b=it:=by simpa using hb
  subst e;exact⟨_,st,λ v z=>by
   have z':Data.fields _=Data.cell v:=z;cases z'⟩
 keep:=λ i h h' st k=>k it (by simp) _ st
 item:=by
  intro X hP hw hK hc i pins s σ H E I hf st hg;subst hP hw hK;obtain⟨f0,f1,f2,f3,f4,f5⟩:=hf it (by simp);have W:=Walks.range (prog:=X.prog) (w:=X.w) (I.ok.hd hc) it lo 1 n;refine W.item i s _ _ hg st λ v h' tk hv st' kk=>?_;obtain⟨t,rfl⟩:=hv;have I1:Inv X pins σ H {s with heap:=h',toks:=tk}:=I.turned (λ b o hb e=>kk b o (by simpa using hb) e) f0 f1 f3 f4 f5;refine⟨_,rfl,go_of (s:={s with heap:=h',toks:=tk}) (n:= "range_iterator") st' rfl rfl (by decide) ⟨.int (lo+i),H,I1,⟨t,?_⟩,⟨rfl,rfl⟩,st',λ b hb=>(hf b hb).1⟩⟩;rw[Int.mul_one]
 done:=by
  intro X hP hw hK hc i pins s σ H E I hf st hg;subst hP hw hK;obtain⟨f0,f1,f2,f3,f4,f5⟩:=hf it (by simp);exact wpAny_pyNext_range_end (I.ok.hd hc) st (by have:n<=i:=hg;omega) λ h' eb=>⟨rfl,I.turned (t':=s.toks) (λ b o hb e=>eb b o hb e) f0 f1 f3 f4 f5⟩
 self:=λ _ _ _ _ _ st h=>wpAny_pyIter_rangeiter st h
section
variable {X:Cx} {tg:Expr}
theorem range_it {pins:List (Addr×Obj)} {σ:St} {H:Hp} {s:Shared} {R:It->Hp->Prop} {E:Value->Shared->Prop} {lo hi:Int} {t u v:Tok} {tk:Nat} (I:Inv X pins σ H s) (h1: -(2 ^ 62)<=lo) (h2:lo < 2 ^ 62) (h3: -(2 ^ 62)<=hi) (h4:hi < 2 ^ 62)
  (q:R (Itr lo (hi - lo).toNat) H):wpAny (model X.prog X.w) X.A (pyIter (.ref s.heap.objs.size)) (PIE X pins σ tg R) E {s with heap:=s.heap.push {cls:= .type "range",data:= .fields #[.int lo t,.int hi u,.int 1 v]},toks:=tk}:=by
 refine wpAny_pyIter_range (IsRange.new ..) (small_one h1 h2 h3 h4) ?_;have I1:Inv X pins σ H {s with heap:=s.heap.push {cls:= .type "range",data:= .fields #[.int lo t,.int hi u,.int 1 v]},toks:=tk}:=I.kept λ b o e=>Heap.get?_push_of_some _ e;refine⟨(s.heap.push {cls:= .type "range",data:= .fields #[.int lo t,.int hi u,.int 1 v]}).objs.size,[(s.heap.push {cls:= .type "range",data:= .fields #[.int lo t,.int hi u,.int 1 v]}).objs.size],_,_,H,rfl,
  I1.kept (t':=tk) λ b o e=>Heap.get?_push_of_some _ e,turn_range _ lo (hi - lo).toNat,?_,λ b hb=>?_,q⟩
 ·have e1:lo+((0:Nat):Int)*1=lo:=by simp
  have e2:(((hi - lo).toNat:Nat):Int) - ((0:Nat):Int)=Builtin.Range.rangeSize lo hi 1:=by rw[rangeSize_one];split <;> omega
  show IsRangeIter _ _ (lo+((0:Nat):Int)*1) ((((hi - lo).toNat:Nat):Int) - ((0:Nat):Int)) 1;rw[e1,e2];exact Heap.get?_push_size _ rfl
 ·have e:b=(s.heap.push {cls:= .type "range",data:= .fields #[.int lo t,.int hi u,.int 1 v]}).objs.size:=by simpa using hb
  subst e;exact I1.fpOk (Nat.le_refl _) (I1.hok.fresh (Nat.le_refl _))
noncomputable def iRng1 (ta:TA):TI:=λ σ H R=>ta σ H λ vs H1=>∃j:Int,vs=[.int j]/\-(2 ^ 62)<=j/\j < 2 ^ 62/\R (Itr 0 j.toNat) H1
noncomputable def iRng2 (ta:TA):TI:=λ σ H R=>ta σ H λ vs H1=>∃i j:Int,vs=[.int i,.int j]/\(-(2 ^ 62)<=i/\i < 2 ^ 62/\-(2 ^ 62)<=j/\j < 2 ^ 62)/\R (Itr i (j - i).toNat) H1
theorem pi_range1 {a:Expr} {ta:TA} {p pos:Pos} (hg:Gl X "range") (hm:X.mg "range" =none) (ha:PA X [a] ta) (hs:starEach [a] X.env=[(false,eval a X.env)]:=by rfl):PI X tg (.Call (.Name "range" p) [a] [] pos) (iRng1 ta):=by
 intro pins s σ H R I h;refine Call_ (ld_blt I hg hm boot_range (PyProof.Rows.callWith_type1 (thn (ha pos pins s σ H _ I h) λ us s1 ⟨vs,H1,I1,r1,q1⟩=>?_) hs rfl));obtain⟨j,e,q1,q2,q⟩:=q1;subst e;cases r1 with
 | cons r rr=>
  cases rr;obtain⟨t,rfl⟩:=r;exact call_range_1 (range_it I1 (by omega) (by omega) q1 q2 (by simpa using q))
theorem pi_range2 {a b:Expr} {ta:TA} {p pos:Pos} (hg:Gl X "range") (hm:X.mg "range" =none) (ha:PA X [a,b] ta) (hs:starEach [a,b] X.env=[(false,eval a X.env),(false,eval b X.env)]:=by rfl) (hs2:starEach [b] X.env=[(false,eval b X.env)]:=by rfl):
  PI X tg (.Call (.Name "range" p) [a,b] [] pos) (iRng2 ta):=by
 intro pins s σ H R I h;refine Call_ (ld_blt I hg hm boot_range (PyProof.Rows.callWith_type1 (thn (ha pos pins s σ H _ I h) λ us s1 ⟨vs,H1,I1,r1,q1⟩=>?_) (by rw[hs,hs2]) (by rw[hs2];rfl)));obtain⟨i,j,e,⟨q1,q2,q3,q4⟩,q⟩:=q1;subst e;cases r1 with
 | cons r rr=>
  cases rr with
  | cons r' rr=>
   cases rr;obtain⟨t,rfl⟩:=r;obtain⟨t',rfl⟩:=r';exact call_range_2 (range_it I1 q1 q2 q3 q4 q)
noncomputable def tFor (wi:TI) (g:TG) (tb:TS):TS:=λ D σ H=>wi σ H λ J H1=>∃W:Nat->Nat->St->Hp->Prop,(∃m,W 0 m σ H1)/\∀i m σ H,W i m σ H->
 (J.stop i H/\D.nx σ H)\/(J.go i H/\∃N:St->Hp->Prop,(∀σ' H',N σ' H'->∃m',m' < m/\W (i+1) m' σ' H')/\∀x H',J.yld i H x H'->g x σ H' λ σ2 H2=>tb {D with nx:=N,ct:=N,bk:=D.nx} σ2 H2)
noncomputable def pinsAt (fp:List Addr) (h:Heap):List (Addr×Obj):=fp.filterMap λ b=>(h.get? b).map λ o=>(b,o)
theorem mem_pinsAt {fp:List Addr} {h:Heap} {b:Addr} {o:Obj} (hb:b∈fp) (e:h.get? b=some o):(b,o)∈pinsAt fp h:=List.mem_filterMap.mpr ⟨b,hb,by rw[e];rfl⟩
theorem of_pinsAt {fp:List Addr} {h:Heap} {p:Addr×Obj} (hp:p∈pinsAt fp h):p.1∈fp/\h.get? p.1=some p.2:=by
 obtain⟨b,hb,e⟩:=List.mem_filterMap.mp hp;cases q:h.get? b with
 |none=>rw[q] at e;cases e
 | some o=>
  rw[q] at e;have e':(b,o)=p:=Option.some.inj e;subst e';exact⟨hb,q⟩
theorem Inv.pinned {pins:List (Addr×Obj)} {σ:St} {H:Hp} {s:Shared} {fp:List Addr} (I:Inv X pins σ H s) (hf:∀b∈fp,FpOk X pins H b) (ho:∀b∈fp,∃o,s.heap.get? b=some o/\∀v,o.data≠.cell v):Inv X (pins++pinsAt fp s.heap) σ H s:=
 I.pins_of λ p hp=>(List.mem_append.mp hp).elim (λ z=>I.pin p (List.mem_append_right _ z)) λ z=>by
  obtain⟨hb,e⟩:=of_pinsAt z;obtain⟨f0,f1,f2,_⟩:=hf p.1 hb;obtain⟨o,e',d⟩:=ho p.1 hb;rw[e] at e';cases e';exact⟨e,f0,f1,f2,d⟩
theorem Inv.unpinned {pins pl:List (Addr×Obj)} {σ:St} {H:Hp} {s:Shared} (I:Inv X (pins++pl) σ H s):Inv X pins σ H s:=I.pins_of λ p hp=>I.pin p (List.mem_append_right _ (List.mem_append_left _ hp))
inductive aan (X:Cx) (pins:List (Addr×Obj)) (tn:Nat->Heap->Prop) (fp:List Addr) (W:Nat->Nat->St->Hp->Prop) (n:Nat) (s':Shared):Prop
 |mk (i:Nat) (σ':St) (H':Hp) (I:Inv X pins σ' H' s') (st:tn i s'.heap) (fr:∀b∈fp,H' b=none) (w:W i n σ' H'):aan X pins tn fp W n s'
theorem ps_for {iter:Expr} {body:List Stmt} {wi:TI} {g:TG} {tb:TS} {pos:Pos} (hp:PassesOwn (model X.prog X.w) X.A X.env X.xe) (hc:X.calm=true) (hi:PI X tg iter wi) (hg:PG X tg g) (hb:PSs X body tb)
  (hs:∀x,foldedSetIterable iter X.env x=pure x:=by intro _;rfl):PS X (.For tg iter body [] pos) (tFor wi g tb):=by
 intro pins s σ H D I h;refine wpAny_For (thn (hi pins s σ H _ I h) λ v s1 h1=>thn h1 λ itv s2 h2=>?_) hs;obtain⟨it,fp,tn,J,H2,e,I2,T,st2,f2,W,⟨m0,w0⟩,turn⟩:=h2;subst e;have stat:∀{H':Hp},(∀b∈fp,H' b=none)->∀b∈fp,FpOk X pins H' b:=λ hn b hb=>⟨hn b hb,(f2 b hb).2⟩;refine codeAny_forLoop_any (λ n s'=>aan X pins tn fp W n s') ?_ m0 ⟨0,σ,H2,I2,st2,λ b hb=>(f2 b hb).1,w0⟩
 rintro n s3 ⟨i,σ3,H3,I3,st3,fr3,w3⟩
 rcases turn i n σ3 H3 w3 with⟨stop,qn⟩ |⟨go,N,hN,step⟩
 ·refine wpAny_passesOwn hp (thn (T.done X rfl rfl rfl hc i pins s3 σ3 H3 X.xe I3 (stat fr3) st3 stop) λ r s4 bM=>?_);obtain⟨hr,I4⟩:=bM;subst hr;exact wpAny_execs_nil ⟨σ3,H3,I4,qn⟩
 ·refine wpAny_passesOwn hp (thn (T.item X rfl rfl rfl hc i pins s3 σ3 H3 X.xe I3 (stat fr3) st3 go) λ r s4 bM=>?_);obtain⟨u,hr,h4⟩:=bM;subst hr;refine wpAny_passesOwn hp (thn h4 λ _ s5 bM=>?_);obtain⟨x,H5,I5,r5,y5,st5,fr5⟩:=bM;have I5':=I5.pinned (stat fr5) (T.obj _ _ st5);refine wpAny_passesOwn hp (thn (hg _ s5 σ3 H5 x u _ I5' r5 (step x H5 y5)) λ _ s6 bM=>?_);obtain⟨σ6,H6,I6,q6⟩:=bM;refine wpAny_passesOwn hp (thn (hb _ s6 σ6 H6 _ I6 q6) λ f s7 q7=>?_);have again:∀{σ7:St} {H7:Hp},Inv X (pins++pinsAt fp s5.heap) σ7 H7 s7->N σ7 H7->∃m,m < n/\aan X pins tn fp W m s7:=λ {σ7 H7} I7 n7=>by
   obtain⟨m',hm,w7⟩:=hN σ7 H7 n7;refine⟨m',hm,i+1,σ7,H7,I7.unpinned,T.keep _ _ _ st5 λ b hb o e=>(I7.pin (b,o) (List.mem_append_right _ (List.mem_append_right _ (mem_pinsAt hb e)))).1,λ b hb=>?_,w7⟩;obtain⟨o,e,d⟩:=T.obj _ _ st5 b hb;exact (I7.pin (b,o) (List.mem_append_right _ (List.mem_append_right _ (mem_pinsAt hb e)))).2.1
  cases f with
  |next=>obtain⟨σ7,H7,I7,n7⟩:=q7;exact again I7 n7
  |cont=>obtain⟨σ7,H7,I7,n7⟩:=q7;exact again I7 n7
  |brk=>obtain⟨σ7,H7,I7,q7⟩:=q7;exact⟨σ7,H7,I7.unpinned,q7⟩
  |ret v=>obtain⟨x7,σ7,H7,I7,r7,q7⟩:=q7;exact⟨x7,σ7,H7,I7.unpinned,r7,q7⟩
end
noncomputable abbrev R2:=V->V->Hp->VK->Prop
noncomputable def OpR (X:Cx) (f:Value->Value->Sem Value) (r:R2):Prop:=
 ∀ (pins:List (Addr×Obj)) (s:Shared) (σ:St) (H:Hp) (x y:V) (v u:Value) (Q:VK),Inv X pins σ H s->RelV x v->RelV y u->r x y H Q->
  wpAny (model X.prog X.w) X.A (f v u) (EP X pins σ Q) X.xe s
noncomputable def UnR (X:Cx) (f:Value->Sem Value) (r:V->Hp->VK->Prop):Prop:=
 ∀ (pins:List (Addr×Obj)) (s:Shared) (σ:St) (H:Hp) (x:V) (v:Value) (Q:VK),Inv X pins σ H s->RelV x v->r x H Q->
  wpAny (model X.prog X.w) X.A (f v) (EP X pins σ Q) X.xe s
noncomputable def CallR (X:Cx) (f:Value) (r:List V->Hp->VK->Prop):Prop:=
 ∀ (pins:List (Addr×Obj)) (s:Shared) (σ:St) (H:Hp) (xs:List V) (us:List Value) (Q:VK),Inv X pins σ H s->Vals xs us->r xs H Q->
  wpAny (model X.prog X.w) X.A (call f us) (EP X pins σ Q) X.xe s
noncomputable def TruR (X:Cx) (r:V->Hp->(Bool->Hp->Prop)->Prop):Prop:=
 ∀ (pins:List (Addr×Obj)) (s:Shared) (σ:St) (H:Hp) (x:V) (v:Value) (Q:Bool->Hp->Prop),Inv X pins σ H s->RelV x v->r x H Q->
  wpAny (model X.prog X.w) X.A (truthy v) (TP X pins σ Q) X.xe s
noncomputable def tOp (r:R2) (ta tb:TE):TE:=λ σ H Q=>ta σ H λ x H1=>tb σ H1 λ y H2=>r x y H2 Q
noncomputable def tUn (r:V->Hp->VK->Prop) (ta:TE):TE:=λ σ H Q=>ta σ H λ x H1=>r x H1 Q
noncomputable def rI (C:Int->Int->Prop) (g:Int->Int->V):R2:=λ x y H Q=>∃i j,x= .int i/\y= .int j/\C i j/\Q (g i j) H
noncomputable def rI0 (g:Int->Int->V):R2:=λ x y H Q=>∃i j,x= .int i/\y= .int j/\Q (g i j) H
noncomputable def rU (g:Int->V):V->Hp->VK->Prop:=λ x H Q=>∃i,x= .int i/\Q (g i) H
section
variable {X:Cx} {a b c:Expr} {ta tb tc:TE} {pos:Pos}
theorem binT (ha:PE X a ta) (hb:PE X b tb) {pins:List (Addr×Obj)} {s:Shared} {σ:St} {H:Hp} {R:V->V->Hp->Prop} (I:Inv X pins σ H s)
  (h:ta σ H λ x H1=>tb σ H1 λ y H2=>R x y H2) {Q:Value->Shared->Prop} {f:Value->Value->Sem Value}
  (hf:∀v u s2 x y H2,Inv X pins σ H2 s2->RelV x v->RelV y u->R x y H2->wpAny (model X.prog X.w) X.A (f v u) Q X.xe s2):
  wpAny (model X.prog X.w) X.A (eval a X.env) (λ v s₁=>wpAny (model X.prog X.w) X.A (eval b X.env) (λ u s₂=>wpAny (model X.prog X.w) X.A (f v u) Q X.xe s₂) X.xe s₁) X.xe s:=by
 refine thn (ha pins s σ H _ I h) λ v s1 bM=>?_;obtain⟨x,H1,I1,r1,q1⟩:=bM;refine thn (hb pins s1 σ H1 _ I1 q1) λ u s2 bM=>?_;obtain⟨y,H2,I2,r2,q2⟩:=bM;exact hf v u s2 x y H2 I2 r1 r2 q2
theorem pe_op {op:Operator} {r:R2} (ho:OpR X (binaryOp op) r) (ha:PE X a ta) (hb:PE X b tb):PE X (.BinOp a op b pos) (tOp r ta tb):=by
 intro pins s σ H Q I h;exact wpAny_BinOp (binT ha hb I h λ v u s2 x y H2 I2 rx ry q=>ho pins s2 σ H2 x y v u Q I2 rx ry q)
theorem pe_un {op:UnaryOp} {r:V->Hp->VK->Prop} (ho:UnR X (unaryOp op) r) (ha:PE X a ta):PE X (.UnaryOp op a pos) (tUn r ta):=by
 intro pins s σ H Q I h;exact UnaryOp_ (thn (ha pins s σ H _ I h) λ v s1 ⟨x,H1,I1,r1,q1⟩=>ho pins s1 σ H1 x v Q I1 r1 q1)
theorem opI {f:Value->Value->Sem Value} {C:Int->Int->Prop} {g:Int->Int->Int}
  (rule:∀(i j:Int) (t u:Tok) (s:Shared) (Q:Value->Shared->Prop) (E:Value->Shared->Prop),C i j->Q (.int (g i j) s.toks) {s with toks:=s.toks+1}->wpAny (model X.prog X.w) X.A (f (.int i t) (.int j u)) Q E s):
  OpR X f (rI C λ i j=> .int (g i j)):=by
 intro pins s σ H x y v u Q I rx ry h;obtain⟨i,j,rfl,rfl,hc,q⟩:=h;obtain⟨t,rfl⟩:=rx;obtain⟨t',rfl⟩:=ry;exact rule i j t t' s _ _ hc ⟨.int (g i j),H,I.tok _,⟨_,rfl⟩,q⟩
theorem opI0 {f:Value->Value->Sem Value} {g:Int->Int->Int}
  (rule:∀(i j:Int) (t u:Tok) (s:Shared) (Q:Value->Shared->Prop) (E:Value->Shared->Prop),Q (.int (g i j) s.toks) {s with toks:=s.toks+1}->wpAny (model X.prog X.w) X.A (f (.int i t) (.int j u)) Q E s):
  OpR X f (rI0 λ i j=> .int (g i j)):=by
 intro pins s σ H x y v u Q I rx ry h;obtain⟨i,j,rfl,rfl,q⟩:=h;obtain⟨t,rfl⟩:=rx;obtain⟨t',rfl⟩:=ry;exact rule i j t t' s _ _ ⟨.int (g i j),H,I.tok _,⟨_,rfl⟩,q⟩
theorem opB0 {f:Value->Value->Sem Value} {g:Int->Int->Bool}
  (rule:∀(i j:Int) (t u:Tok) (s:Shared) (Q:Value->Shared->Prop) (E:Value->Shared->Prop),Q (.bool (g i j)) s->wpAny (model X.prog X.w) X.A (f (.int i t) (.int j u)) Q E s):
  OpR X f (rI0 λ i j=> .bl (g i j)):=by
 intro pins s σ H x y v u Q I rx ry h;obtain⟨i,j,rfl,rfl,q⟩:=h;obtain⟨t,rfl⟩:=rx;obtain⟨t',rfl⟩:=ry;exact rule i j t t' s _ _ ⟨.bl (g i j),H,I,rfl,q⟩
noncomputable def CPow (i j:Int):Prop:=0<=j/\j<=1000000/\i.natAbs < 2 ^ 64
noncomputable def CMul (i j:Int):Prop:=(-(2 ^ 64) < i/\i < 2 ^ 64)\/(-(2 ^ 64) < j/\j < 2 ^ 64)
theorem CMul.ok {i j:Int} (h:CMul i j):IntMulOk i j:=by
 rcases h with⟨h1,h2⟩ |⟨h1,h2⟩
 ·exact .of_left (intBits_le_64 h1 h2)
 ·exact .of_right (intBits_le_64 h1 h2)
theorem op_add:OpR X (binaryOp .Add) (rI0 λ i j=> .int (i+j)):=opI0 λ _ _ _ _ _ _ _ q=>add_int q
theorem op_sub:OpR X (binaryOp .Sub) (rI0 λ i j=> .int (i - j)):=opI0 λ _ _ _ _ _ _ _ q=>sub_int q
theorem op_mul:OpR X (binaryOp .Mult) (rI CMul λ i j=> .int (i*j)):=opI λ _ _ _ _ _ _ _ hc q=>mul_int q hc.ok
theorem op_mod:OpR X (binaryOp .Mod) (rI (λ _ j=>0 < j) λ i j=> .int (i % j)):=opI λ i j _ _ _ _ _ hc q=>by
 have h1:(0:Int) < j:=hc;exact mod_int' (by omega) (by rw[Int.fmod_eq_emod_of_nonneg i (by omega)];exact q)
theorem op_pow:OpR X (binaryOp .Pow) (rI CPow λ i j=> .int (i ^ j.toNat)):=opI λ _ _ _ _ _ _ _ hc q=>pow_int_small hc.1 hc.2.1 hc.2.2 q
theorem unI {f:Value->Sem Value} {g:Int->Int}
  (rule:∀(i:Int) (t:Tok) (s:Shared) (Q:Value->Shared->Prop) (E:Value->Shared->Prop),Q (.int (g i) s.toks) {s with toks:=s.toks+1}->wpAny (model X.prog X.w) X.A (f (.int i t)) Q E s):
  UnR X f (rU λ i=> .int (g i)):=by
 intro pins s σ H x v Q I rx h;obtain⟨i,rfl,q⟩:=h;obtain⟨t,rfl⟩:=rx;exact rule i t s _ _ ⟨.int (g i),H,I.tok _,⟨_,rfl⟩,q⟩
theorem un_neg:UnR X (unaryOp .USub) (rU λ i=> .int (-i)):=unI λ _ _ _ _ _ q=>neg_int q
end
section
variable {X:Cx} {a b c:Expr} {ta tb tc:TE} {pos:Pos}
theorem fin_bl {pins:List (Addr×Obj)} {σ:St} {H:Hp} {s:Shared} {Q:VK} {k k':Bool} (I:Inv X pins σ H s) (q:Q (.bl k) H) (e:k=k'):EP X pins σ Q (.bool k') s:=by
 subst e;exact⟨.bl k,H,I,rfl,q⟩
theorem op_lt:OpR X (compareOp .Lt) (rI0 λ i j=> .bl (decide (i < j))):=opB0 λ _ _ _ _ _ _ _ q=>lt_int q
theorem op_le:OpR X (compareOp .LtE) (rI0 λ i j=> .bl (decide (i<=j))):=opB0 λ _ _ _ _ _ _ _ q=>le_int q
theorem op_gt:OpR X (compareOp .Gt) (rI0 λ i j=> .bl (decide (j < i))):=opB0 λ _ _ _ _ _ _ _ q=>gt_int q
theorem op_ge:OpR X (compareOp .GtE) (rI0 λ i j=> .bl (decide (j<=i))):=opB0 λ _ _ _ _ _ _ _ q=>ge_int q
theorem op_isN:OpR X (compareOp .Is) (λ x y H Q=>y= .non/\Q (.bl (decide (x= .non))) H):=by
 intro pins s σ H x y v u Q I rx ry h;obtain⟨rfl,q⟩:=h;cases ry;refine is_none_gen (fin_bl I q ?_);cases x <;> first
  |(cases rx;rfl)
  |(obtain⟨t,rfl⟩:=rx;rfl)
theorem op_notN:OpR X (compareOp .IsNot) (λ x y H Q=>y= .non/\Q (.bl (!decide (x= .non))) H):=by
 intro pins s σ H x y v u Q I rx ry h;obtain⟨rfl,q⟩:=h;cases ry;refine isnot_none_gen (fin_bl I q ?_);cases x <;> first
  |(cases rx;rfl)
  |(obtain⟨t,rfl⟩:=rx;rfl)
theorem OpR.or {f:Value->Value->Sem Value} {r r':R2} (h:OpR X f r) (h':OpR X f r'):OpR X f (λ x y H Q=>r x y H Q\/r' x y H Q):=by
 intro pins s σ H x y v u Q I rx ry q;rcases q with q |q
 ·exact h pins s σ H x y v u Q I rx ry q
 ·exact h' pins s σ H x y v u Q I rx ry q
theorem nomark (b:Expr) {op:CmpOp} (h:op≠.In:=by decide) (h2:op≠.NotIn:=by decide):behindInMarks op b=false:=by
 have e1:(op ==CmpOp.In)=false:=by cases op <;> first |rfl |exact absurd rfl h
 have e2:(op ==CmpOp.NotIn)=false:=by cases op <;> first |rfl |exact absurd rfl h2
 cases b <;> simp[behindInMarks,e1,e2]
theorem pe_cmpR {op:CmpOp} {r:R2} (ho:OpR X (compareOp op) r) (ha:PE X a ta) (hb:PE X b tb) (hm:behindInMarks op b=false):PE X (.Compare a [op] [b] pos) (tOp r ta tb):=by
 intro pins s σ H Q I h;exact wpAny_Compare1 (binT ha hb I h λ v u s2 x y H2 I2 rx ry q=>ho pins s2 σ H2 x y v u Q I2 rx ry q) hm
noncomputable def tTest (t:TE):TT:=λ σ H Q=>t σ H λ x H'=>∃k,x= .bl k/\Q k H'
theorem pt_cmpR {op:CmpOp} {r:R2} (ho:OpR X (compareOp op) r) (ha:PE X a ta) (hb:PE X b tb) (hm:behindInMarks op b=false):PT X (.Compare a [op] [b] pos) (tTest (tOp r ta tb)):=by
 intro pins s σ H Q I h;refine wpAny_isTrue_Compare1 (thn (ha pins s σ H _ I h) λ v s1 ⟨x,H1,I1,r1,q1⟩=>thn (hb pins s1 σ H1 _ I1 q1) λ u s2 ⟨y,H2,I2,r2,q2⟩=>
  thn (ho pins s2 σ H2 x y v u _ I2 r1 r2 q2) λ c s3 ⟨z,H3,I3,r3,k,e,q3⟩=>?_) hm
 subst e;cases r3;exact wpAny_truthy_bool ⟨H3,I3,q3⟩
noncomputable def tChain (r r':R2) (ta tb tc:TE):TE:=λ σ H Q=>ta σ H λ x H1=>tb σ H1 λ y H2=>r x y H2 λ z H3=>∃k,z= .bl k/\
 (if k=true then tc σ H3 λ w' H4=>r' y w' H4 Q else Q (.bl false) H3)
theorem pe_chain {op op':CmpOp} {r r':R2} (ho:OpR X (compareOp op) r) (ho':OpR X (compareOp op') r') (ha:PE X a ta) (hb:PE X b tb) (hc:PE X c tc)
  (hm:lastMarks [op,op'] [b,c]=false:=by with_unfolding_all rfl):PE X (.Compare a [op,op'] [b,c] pos) (tChain r r' ta tb tc):=by
 intro pins s σ H Q I h;refine Compare_chain (thn (ha pins s σ H _ I h) λ v s1 ⟨x,H1,I1,r1,q1⟩=>chain_link (thn (hb pins s1 σ H1 _ I1 q1) λ u s2 ⟨y,H2,I2,r2,q2⟩=>
  thn (ho pins s2 σ H2 x y v u _ I2 r1 r2 q2) λ d s3 ⟨z,H3,I3,r3,k,e,q3⟩=>?_)) hm
 subst e;cases r3;refine wpAny_truthy_bool ?_;cases k with
 |false=>exact ite_ff ⟨.bl false,H3,I3,rfl,q3⟩
 |true=>exact ite_tt (chain_last (thn (hc pins s3 σ H3 _ I3 q3) λ w' s4 ⟨z',H4,I4,r4,q4⟩=>ho' pins s4 σ H4 y z' u w' Q I4 r2 r4 q4))
theorem pt_chain {op op':CmpOp} {r r':R2} (ho:OpR X (compareOp op) r) (ho':OpR X (compareOp op') r') (ha:PE X a ta) (hb:PE X b tb) (hc:PE X c tc)
  (hm:lastMarks [op,op'] [b,c]=false:=by with_unfolding_all rfl):PT X (.Compare a [op,op'] [b,c] pos) (tTest (tChain r r' ta tb tc)):=by
 intro pins s σ H Q I h;refine isTrue_chain (thn (ha pins s σ H _ I h) λ v s1 ⟨x,H1,I1,r1,q1⟩=>test_link (thn (hb pins s1 σ H1 _ I1 q1) λ u s2 ⟨y,H2,I2,r2,q2⟩=>
  thn (ho pins s2 σ H2 x y v u _ I2 r1 r2 q2) λ d s3 ⟨z,H3,I3,r3,k,e,q3⟩=>?_)) hm
 subst e;cases r3;refine wpAny_truthy_bool ?_;cases k with
 | false=>
  obtain⟨k',e',q'⟩:=q3;cases e';exact ite_ff ⟨H3,I3,q'⟩
 | true=>
  refine ite_tt (test_last (thn (hc pins s3 σ H3 _ I3 q3) λ w' s4 ⟨z',H4,I4,r4,q4⟩=>thn (ho' pins s4 σ H4 y z' u w' _ I4 r2 r4 q4) λ d' s5 bM=>?_));obtain⟨z2,H5,I5,r5,k2,e2,q5⟩:=bM;subst e2;cases r5;exact wpAny_truthy_bool ⟨H5,I5,q5⟩
noncomputable def TruV (K:PySem.W.Frag) (x:V) (H:Hp) (k:Bool):Prop:=
 match x with
 | .non=>k=false
 | .bl b=>k=b
 | .int i=>k=(i !=0)
 | .str y=>y.length<=sizeLine/\k=((y.length:Int) !=0)
 | .byt y=>y.size<=sizeLine/\k=((y.size:Int) !=0)
 | .ref p=>(∃xs,SqL K H p xs/\k= !xs.isEmpty)\/(∃xs,SqT K H p xs/\k= !xs.isEmpty)\/∃kvs,H p=some (.dK kvs)/\k= !kvs.isEmpty
 |_=>False
theorem isEmpty_kv {κ:Type} {kvs:List (κ×V)} {vs:List (κ×Value)} (r:KV kvs vs):(!vs.isEmpty)= !kvs.isEmpty:=by
 cases r <;> rfl
theorem isEmpty_of {xs:List V} {its:List Value} (r:Vals xs its):(!its.toArray.isEmpty)= !xs.isEmpty:=by
 cases r <;> simp
theorem line63:(sizeLine:Nat) < 2 ^ 63:=by rw[sizeLine_eq];decide
theorem tru_ok:TruR X (λ x H Q=>∃k,TruV X.K x H k/\Q k H):=by
 intro pins s σ H x v Q I rx h;obtain⟨k,e,q⟩:=h;have hl:=line63;have hs:sizeLine=16777216:=sizeLine_eq;cases x with
 | non=>
  cases rx;have e':k=false:=e;subst e';exact truthy_none ⟨H,I,q⟩
 | bl b=>
  cases rx;have e':k=b:=e;subst e';exact wpAny_truthy_bool ⟨H,I,q⟩
 | int i=>
  obtain⟨t,rfl⟩:=rx;have e':k=(i !=0):=e;subst e';exact PySem.P.truthy_int ⟨H,I,q⟩
 | str y=>
  obtain⟨t,rfl⟩:=rx;obtain⟨hy,e'⟩:y.length<=sizeLine/\k=((y.length:Int) !=0):=e;subst e';exact PySem.P.truthy_str (by omega) ⟨H,I.tok _,q⟩
 | byt y=>
  obtain⟨t,rfl⟩:=rx;obtain⟨hy,e'⟩:y.size<=sizeLine/\k=((y.size:Int) !=0):=e;subst e';exact PySem.W.truthy_bytes (by omega) ⟨H,I.tok _,q⟩
 | ref p=>
  cases rx;have e':(∃xs,SqL X.K H p xs/\k= !xs.isEmpty)\/(∃xs,SqT X.K H p xs/\k= !xs.isEmpty)\/∃kvs,H p=some (.dK kvs)/\k= !kvs.isEmpty:=e;rcases e' with⟨xs,hx,e'⟩ |⟨xs,hx,e'⟩ |⟨kvs,hx,e'⟩
  ·subst e';obtain⟨its,r,pl,hz⟩:=I.list hx;have hlen:=r.length;exact wpAny_truthy_list pl.isList (by simp only[List.size_toArray];omega) ⟨H,I.tok _,by rw[isEmpty_of r];exact q⟩
  ·subst e';obtain⟨its,r,pl,hz⟩:=I.tuple hx;have hlen:=r.length;exact truthy_tuple pl (by simp only[List.size_toArray];omega) ⟨H,I.tok _,by rw[isEmpty_of r];exact q⟩
  ·subst e';obtain⟨hz,hS,vs,r,m⟩:kvs.length<=sizeLine/\(p ==sysModules)=false/\∃vs,KV kvs vs/\s.heap.DictOf (mixKind X.prog X.w) p vs:=I.hok p _ hx;have hlen:kvs.length=vs.length:=Paired.length r;exact wpAny_truthy_dict hS m (by omega) ⟨H,I.tok _,by rw[isEmpty_kv r];exact q⟩
 |_=>exact (show False from e).elim
theorem pt_truth (ha:PE X a ta) (he:∀whole,isTrue a X.env whole=(do let v <-whole;standAt a.pos;holding [v] (truthy v))):
  PT X a (λ σ H Q=>ta σ H λ x H'=>∃k,TruV X.K x H' k/\Q k H'):=by
 intro pins s σ H Q I h;exact isTrue_plain (thn (ha pins s σ H _ I h) λ v s1 ⟨x,H1,I1,r1,q1⟩=>tru_ok pins s1 σ H1 x v Q I1 r1 q1) (he _)
theorem vals1 {x:V} {us:List Value} (r:Vals [x] us):∃u,us=[u]/\RelV x u:=by
 cases r with
 |cons r1 r2=>cases r2;exact⟨_,rfl,r1⟩
theorem vals2 {x y:V} {us:List Value} (r:Vals [x,y] us):∃u w',us=[u,w']/\RelV x u/\RelV y w':=by
 cases r with
 | cons r1 r2=>
  cases r2 with
  |cons r3 r4=>cases r4;exact⟨_,_,rfl,r1,r3⟩
theorem call_abs:CallR X (.builtin "abs") (λ xs H Q=>∃i,xs=[.int i]/\Q (.int (if i < 0 then -i else i)) H):=by
 intro pins s σ H xs us Q I r h;obtain⟨i,rfl,q⟩:=h;obtain⟨u,rfl,t,rfl⟩:=vals1 r;exact call_abs_int λ u tk=>⟨.int (if i < 0 then -i else i),H,I.tok _,⟨_,rfl⟩,q⟩
theorem call_max2 (hc:X.calm=true):CallR X (.builtin "max") (λ xs H Q=>∃i j,xs=[.int i,.int j]/\Q (.int (if j > i then j else i)) H):=by
 intro pins s σ H xs us Q I r h;obtain⟨i,j,rfl,q⟩:=h;obtain⟨u,w',rfl,⟨t,rfl⟩,⟨t',rfl⟩⟩:=vals2 r;refine max_two_ints (I.ok.hd hc) λ h' tk k=>⟨_,H,I.kept k,?_,q⟩;by_cases hj:j > i
 ·rw[if_pos hj,if_pos hj];exact⟨_,rfl⟩
 ·rw[if_neg hj,if_neg hj];exact⟨_,rfl⟩
theorem call_min2 (hc:X.calm=true):CallR X (.builtin "min") (λ xs H Q=>∃i j,xs=[.int i,.int j]/\Q (.int (if j < i then j else i)) H):=by
 intro pins s σ H xs us Q I r h;obtain⟨i,j,rfl,q⟩:=h;obtain⟨u,w',rfl,⟨t,rfl⟩,⟨t',rfl⟩⟩:=vals2 r;refine min_two_ints (I.ok.hd hc) λ h' tk k=>⟨_,H,I.kept k,?_,q⟩;by_cases hj:j < i
 ·rw[if_pos hj,if_pos hj];exact⟨_,rfl⟩
 ·rw[if_neg hj,if_neg hj];exact⟨_,rfl⟩
end
section
variable {prog:Program} {w:World} {A:Around} {E:Value->Shared->Prop} {s:Shared} {K:PySem.W.Frag} {x dx C f:Addr} {mA:Str->Option Value} {name:Str} {v:Value}
end
section
variable {P:Program} {w:World} {H H':Hp} {h h':Heap} {a C dx:Addr} {fs fs':List (Str×V)}
end
section
variable {X:Cx} {pins:List (Addr×Obj)} {σ:St} {H:Hp} {s:Shared} {a C dx:Addr} {fs:List (Str×V)} {f:Str} {v:V} {A:Around} {E:Value->Shared->Prop}
end
section
variable {X:Cx} {o e value:Expr} {f:Str} {pos pos' tpos:Pos} {ta tv:TE}
end
section
variable {X:Cx} {pins:List (Addr×Obj)} {σ:St} {H:Hp} {s:Shared} {A:Around} {E:Value->Shared->Prop} {Q:Value->Shared->Prop} {c:Value} {b:Bool}
end
structure Room (k:Nat) (A:Around):Prop where
 hd:A.handled=none
 dp:A.depth+3*k+5 < recursionLimit
 un:A.units+16*k+200 < cLine
theorem Room.mono {j k:Nat} {A:Around} (r:Room k A) (h:j<=k):Room j A:=⟨r.hd,by have:=r.dp;omega,by have:=r.un;omega⟩
theorem Room.deeper {k:Nat} {A:Around} (r:Room (k+1) A) (env:Env):Room k (A.deeper env):=
 ⟨r.hd,by have:=r.dp;show A.depth+1+3*k+5 < _;omega,by have:=r.un;show A.units+3+16*k+200 < _;omega⟩
theorem Room.depth {k:Nat} {A:Around} (r:Room k A):A.depth < recursionLimit:=by have:=r.dp;omega
noncomputable def tNil:TA:=λ _ H Q=>Q [] H
noncomputable def tCons (ta:TE) (tr:TA):TA:=λ σ H Q=>ta σ H λ x H1=>tr σ H1 λ xs H2=>Q (x::xs) H2
section
variable {X:Cx} {e:Expr} {es:List Expr} {te:TE} {t:TA} {pos:Pos}
theorem pa_nil:PA X [] tNil:=λ _ _ _ _ H Q I h=>Calls.spliced_nil ⟨[],H,I,.nil,h⟩
theorem pa_cons (ha:PE X e te) (hr:PA X es t) (hs:starEach (e::es) X.env=(false,eval e X.env)::starEach es X.env:=by rfl):PA X (e::es) (tCons te t):=by
 intro pos pins s σ H Q I h;rw[hs];show wpAny _ _ (spliced ((false,eval e X.env)::backTo pos (starEach es X.env))) _ _ s;refine Calls.spliced_cons (thn (ha pins s σ H _ I h) λ u s1 bM=>?_);obtain⟨x,H1,I1,r1,q1⟩:=bM;refine thn (hr pos pins s1 σ H1 _ I1 q1) λ us s2 bM=>?_;obtain⟨xs,H2,I2,r2,q2⟩:=bM;exact⟨x::xs,H2,I2,.cons r1 r2,q2⟩
noncomputable def tTup (t:TA):TE:=λ σ H Q=>t σ H λ xs H1=>xs.length<=sizeLine/\∀p,H1 p=none->Q (.ref p) (upd H1 p (.tup xs))
noncomputable def tLst (t:TA):TE:=λ σ H Q=>t σ H λ xs H1=>xs.length<=sizeLine/\∀p,H1 p=none->Q (.ref p) (upd H1 p (.lst xs))
theorem pe_tup {x1} (h:PA X es t):PE X (.Tuple es x1 pos) (tTup t):=by
 intro pins s σ H Q I hq;refine wpAny_Tuple_spliced (thn (h pos pins s σ H _ I hq) λ us s1 ⟨xs,H1,I1,r,z,q⟩=>⟨by rw[<-r.length];exact z,?_⟩);have hf:H1 s1.heap.objs.size=none:=I1.hok.fresh (Nat.le_refl _);refine⟨.ref s1.heap.objs.size,upd H1 s1.heap.objs.size (.tup xs),I1.laid (t':=s1.toks) (λ b u e=>Heap.get?_push_of_some _ e) (Nat.le_refl _) ?_,rfl,q _ hf⟩;exact⟨z,us,r,⟨_,Heap.get?_push_size _ rfl,rfl,_,rfl⟩⟩
theorem pe_lst (h:PA X es t):PE X (.List es pos) (tLst t):=by
 intro pins s σ H Q I hq;refine wpAny_List_spliced (thn (h pos pins s σ H _ I hq) λ us s1 ⟨xs,H1,I1,r,z,q⟩=>⟨by rw[<-r.length];exact z,?_⟩);have hf:H1 s1.heap.objs.size=none:=I1.hok.fresh (Nat.le_refl _);refine⟨.ref s1.heap.objs.size,upd H1 s1.heap.objs.size (.lst xs),I1.laid (t':=s1.toks) (λ b u e=>Heap.get?_push_of_some _ e) (Nat.le_refl _) ?_,rfl,q _ hf⟩;exact⟨z,us,0,r,Heap.get?_push_size _ rfl⟩
end
noncomputable abbrev Sp:=List V->Hp->VK->XK->Prop
noncomputable abbrev CXT:=List Env->Hp->Shared->XK->Value->Shared->Prop
structure Env0 (P:Program) (w:World) (K:PySem.W.Frag) (mg:Str->Option Value) (base:Heap) (A:Around) (outer:List Env) (s:Shared) (H:Hp):Prop where
 frames:A.frames=some outer
 mod:Mod K mg base
 bs:∀b o,base.get? b=some o->s.heap.get? b=some o/\H b=none
 bsz:base.objs.size<=s.heap.objs.size
 funs:s.heap.FunFrames base outer
 frf:∀b∈frs outer,H b=none
 hok:HOk P w H s.heap
 bare:AllBare s.gens
inductive CE (outer:List Env) (P:Program) (w:World) (H:Hp) (s:Shared) (Q:VK) (u:Value) (s':Shared):Prop
 |mk (v:V) (H':Hp) (os:s'.os=s.os) (bare:AllBare s'.gens) (un:Un (frs outer) [] H H' s.heap s'.heap) (hok:HOk P w H' s'.heap) (r:RelV v u) (q:Q v H'):CE outer P w H s Q u s'
noncomputable def CR (CX:CXT) (outer:List Env) (P:Program) (w:World) (H:Hp) (s:Shared) (Q:VK) (E:XK) (r:Result) (s':Shared):Prop:=
 match r with
 | .ok (.ret u)=>CE outer P w H s Q u s'
 | .ok _=>False
 | .error e=>CX outer H s E e s'
structure FnOk (P:Program) (w:World) (K:PySem.W.Frag) (mg:Str->Option Value) (base:Heap) (CX:CXT) (k:Nat) (f:Addr) (fd:FuncData) (ps:List Str) (sp:Sp):Prop where
 len:∀vs H Q E,sp vs H Q E->vs.length=ps.length
 run:∀(A:Around) (outer:List Env) (s:Shared) (H:Hp) (args:Args) (us:List Value) (vs:List V) (Q:VK) (E:XK),Room k A->Env0 P w K mg base A outer s H->BindsTo s fd args (ps.zip us)->Vals vs us->sp vs H Q E->
  codeAny (model P w) A (.call (.ref f) args) (CR CX outer P w H s Q E) s
theorem FnOk.mono {P:Program} {w:World} {K:PySem.W.Frag} {mg:Str->Option Value} {base:Heap} {CX:CXT} {j k:Nat} {f:Addr} {fd:FuncData} {ps:List Str} {sp:Sp} (F:FnOk P w K mg base CX j f fd ps sp) (h:j<=k):
  FnOk P w K mg base CX k f fd ps sp:=⟨F.len,λ A outer s H args us vs Q E hr=>F.run A outer s H args us vs Q E (hr.mono h)⟩
section
variable {X:Cx} {pins:List (Addr×Obj)} {σ:St} {H:Hp} {s s':Shared}
theorem Inv.env0 (I:Inv X pins σ H s):Env0 X.prog X.w X.K X.mg X.base X.A X.stack s H:=
 ⟨I.ok.frames,I.ok.mod,I.bs,Nat.le_trans I.ok.bsz I.sz,I.stack,I.stkFree,I.hok,I.bare⟩
theorem Inv.after {Q:VK} {u:Value} (I:Inv X pins σ H s) (h:CE X.stack X.prog X.w H s Q u s'):EP X pins σ Q u s':=by
 obtain⟨v,H',os,bare,un,hok,r,q⟩:=h;obtain⟨hh,g,d,t,os'⟩:=s';obtain rfl:os'=s.os:=os;exact⟨v,H',I.call (h':=hh) (g':=g) (d':=d) (t':=t) (ch:=[]) un hok bare (λ b z=>absurd z (by simp)),r,q⟩
end
noncomputable def tCall (sp:Sp) (dvs:List V) (E:XK) (t:TA):TE:=λ σ H Q=>t σ H λ vs H1=>sp (vs++dvs) H1 Q E
noncomputable def Binds (K:PySem.W.Frag) (fd:FuncData) (ps:List Str) (ds:List Value):Prop:=
 ∀(s:Shared) (us:List Value),K.In s.heap->(us++ds).length=ps.length->BindsTo s fd ⟨us,[]⟩ (ps.zip (us++ds))
theorem Binds.all {K:PySem.W.Frag} {fd:FuncData} {ps:List Str} (h:∀us:List Value,us.length=ps.length->bindArgs fd ⟨us,[]⟩=pure (ps.zip us)):Binds K fd ps []:=λ s us _ hl=>by
 rw[List.append_nil] at hl |-;exact .of_eq (h us hl)
noncomputable def Passes (CX:CXT) (X:Cx) (E:XK):Prop:=∀(pins:List (Addr×Obj)) (σ:St) (H:Hp) (s:Shared) (e:Value) (s':Shared),Inv X pins σ H s->CX X.stack H s E e s'->X.xe e s'
section
variable {X:Cx} {CX:CXT} {k:Nat} {f C:Addr} {fd:FuncData} {ps:List Str} {sp:Sp} {dvs:List V} {ds:List Value} {E:XK} {x m:Str} {p pos apos:Pos} {e o:Expr} {es:List Expr} {ta:TE} {t:TA}
theorem run_fn {pins:List (Addr×Obj)} {σ:St} {H:Hp} {s:Shared} {Q:VK} {us:List Value} {vs:List V} (F:FnOk X.prog X.w X.K X.mg X.base CX k f fd ps sp) (hr:Room k X.A) (hb:Binds X.K fd ps ds) (hd:Vals dvs ds) (hx:Passes CX X E)
  (I:Inv X pins σ H s) (r:Vals vs us) (h:sp (vs++dvs) H Q E):wpAny (model X.prog X.w) X.A (call (.ref f) us) (EP X pins σ Q) X.xe s:=by
 have r2:Vals (vs++dvs) (us++ds):=r.append hd;have hl:(us++ds).length=ps.length:=by rw[<-r2.length];exact F.len _ _ _ _ h
 refine wpAny_call (codeAny_mono (F.run X.A X.stack s H ⟨us,[]⟩ (us++ds) (vs++dvs) Q E hr I.env0 (hb s us I.kIn hl) r2 h) λ r s' hq=>?_);cases r with
 |error e=>exact hx pins σ H s e s' I hq
 | ok fl=>
  cases fl with
  |ret u=>exact I.after hq
  |next=>exact False.elim hq
  |brk=>exact False.elim hq
  |cont=>exact False.elim hq
theorem pe_call (F:FnOk X.prog X.w X.K X.mg X.base CX k f fd ps sp) (hr:Room k X.A) (hg:Gl X x) (hm:X.mg x=some (.ref f)) (hk:PySem.W.keepIn X.K (.ref f)=true) (hb:Binds X.K fd ps ds) (hd:Vals dvs ds) (hx:Passes CX X E)
  (ha:PA X (e::es) t) (hdb:(x ==("__debug__" :Str))=false:=by decide) (he:starEach (e::es) X.env=(false,eval e X.env)::starEach es X.env:=by rfl) (hpl:(backTo pos (starEach es X.env)).any (·.1)=false:=by rfl):
  PE X (.Call (.Name x p) (e::es) [] pos) (tCall sp dvs E t):=by
 intro pins s σ H Q I h;refine wpAny_Call_Name_kw (ld_glob I hg hm ?_ hdb);refine PySem.W.callWith_K (h₀:=X.base) I.ok.mod.kin hk (thn (ha pos pins s σ H _ I h) λ us s1 ⟨vs,H1,I1,r,q⟩=>⟨I1.kIn,?_⟩) he hpl;exact run_fn F hr hb hd hx I1 r q
end
noncomputable def PK (X:Cx) (kws:List Keyword) (t:TA):Prop:=
 ∀(pos:Pos) (pins:List (Addr×Obj)) (s:Shared) (σ:St) (H:Hp) (Q:List V->Hp->Prop),Inv X pins σ H s->t σ H Q->wpAny (model X.prog X.w) X.A (evalAll ((backToKw pos (keywordEach kws X.env)).map (·.2))) (AP X pins σ Q) X.xe s
section
variable {X:Cx} {CX:CXT} {k:Nat} {f C:Addr} {fd:FuncData} {ps ks:List Str} {sp:Sp} {E:XK} {x m:Str} {p pos apos kpos:Pos} {e o:Expr} {es:List Expr} {kws:List Keyword} {te ta:TE} {t tk:TA} {nm:Option Str}
theorem pk_nil:PK X [] tNil:=λ _ _ _ _ H Q I h=>wpAny_evalAll_nil ⟨[],H,I,.nil,h⟩
theorem pk_cons (ha:PE X e te) (hr:PK X kws t):PK X (⟨nm,e,kpos⟩::kws) (tCons te t):=by
 intro pos pins s σ H Q I h;show wpAny _ _ (evalAll ((do let v <-eval e X.env;standAt pos;pure v)::(backToKw pos (keywordEach kws X.env)).map (·.2))) _ _ s;refine wpAny_evalAll_cons (wpAny_bind (thn (ha pins s σ H _ I h) λ u s1 ⟨x,H1,I1,r1,q1⟩=>wpAny_bind (wpAny_standAt (wpAny_pure ?_))));refine thn (hr pos pins s1 σ H1 _ I1 q1) λ us s2 bM=>?_;obtain⟨xs,H2,I2,r2,q2⟩:=bM;exact⟨x::xs,H2,I2,.cons r1 r2,q2⟩
variable {g:List Value->List Value->List Value} {gV:List V->List V->List V}
end
structure FnScope (N P:List Str) (sc:Scope):Prop where
 kind:sc.kind= .function
 co:sc.isCoroutine=false
 gen:sc.isGenerator=false
 nd:N.Nodup
 pre:N.take P.length=P
 par:∀x∈P,sc.names.lookup x=some .local\/sc.names.lookup x=some .cell
 nofree:∀y∈sc.names,y.2≠.free
theorem bindL_out {kindOf:Str->Option NameKind} {x:Str}:∀{binds:List (Str×Value)} {m:Str->Option Value},(∀v,(x,v)∉binds)->bindL kindOf binds m x=m x
 |[],_,_=>rfl
 | (n,v)::r,m,h=>by
  unfold bindL;rw[bindL_out λ w hw=>h w (List.mem_cons_of_mem _ hw)];split
  ·have:x≠n:=by rintro rfl;exact h v List.mem_cons_self
   simp[this]
  ·rfl
theorem bindC_out {kindOf:Str->Option NameKind} {x:Str}:∀{binds:List (Str×Value)} {m:Str->Option Value},(∀v,(x,v)∉binds)->bindC kindOf binds m x=m x
 |[],_,_=>rfl
 | (n,v)::r,m,h=>by
  unfold bindC;rw[bindC_out λ w hw=>h w (List.mem_cons_of_mem _ hw)];split
  ·rfl
  ·have:x≠n:=by rintro rfl;exact h v List.mem_cons_self
   simp[this]
theorem bindL_get {kindOf:Str->Option NameKind} {x:Str} {v:Value}:∀{P:List Str} {vs:List Value} {i:Nat} {m:Str->Option Value},P.Nodup->P[i]?=some x->vs[i]?=some v->kindOf x=some .local->
  bindL kindOf (P.zip vs) m x=some v
 |[],_,_,_,_,h,_,_=>by simp at h
 |_::_,[],_,_,_,_,h,_=>by simp at h
 | p::P,w::vs,0,m,nd,h1,h2,hk=>by
  simp at h1 h2;subst h1;subst h2;show bindL kindOf ((p,w)::P.zip vs) m p=_;unfold bindL;rw[bindL_out λ v hv=>(List.nodup_cons.mp nd).1 (List.of_mem_zip hv).1,if_pos hk];simp
 | p::P,w::vs,i+1,m,nd,h1,h2,hk=>by
  show bindL kindOf ((p,w)::P.zip vs) m x=_;unfold bindL;exact bindL_get (i:=i) (List.nodup_cons.mp nd).2 (by simpa using h1) (by simpa using h2) hk
theorem bindC_get {kindOf:Str->Option NameKind} {x:Str} {v:Value}:∀{P:List Str} {vs:List Value} {i:Nat} {m:Str->Option Value},P.Nodup->P[i]?=some x->vs[i]?=some v->kindOf x≠some .local->
  bindC kindOf (P.zip vs) m x=some v
 |[],_,_,_,_,h,_,_=>by simp at h
 |_::_,[],_,_,_,_,h,_=>by simp at h
 | p::P,w::vs,0,m,nd,h1,h2,hk=>by
  simp at h1 h2;subst h1;subst h2;show bindC kindOf ((p,w)::P.zip vs) m p=_;unfold bindC;rw[bindC_out λ v hv=>(List.nodup_cons.mp nd).1 (List.of_mem_zip hv).1,if_neg hk];simp
 | p::P,w::vs,i+1,m,nd,h1,h2,hk=>by
  show bindC kindOf ((p,w)::P.zip vs) m x=_;unfold bindC;exact bindC_get (i:=i) (List.nodup_cons.mp nd).2 (by simpa using h1) (by simpa using h2) hk
noncomputable def start (N:List Str) (vs:List V):St:=vs.map some++List.replicate (N.length - vs.length) none
noncomputable def cxOf (CX:CXT) (P:Program) (w:World) (K:PySem.W.Frag) (mg:Str->Option Value) (base:Heap) (N:List Str) (qual:Str) (scope:Scope) (f:Addr) (cd:Value) (A:Around) (outer:List Env) (s:Shared) (H:Hp) (E:XK):Cx where
 prog:=P
 w:=w
 K:=K
 mg:=mg
 base:=base
 A:=A.deeper (envOfC qual scope s.heap.objs.size f cd)
 N:=N
 s₀:=s
 H₀:=H
 env:=envOfC qual scope s.heap.objs.size f cd
 outer:=outer
 stack:=envOfC qual scope s.heap.objs.size f cd::outer
 ex:=[]
 calm:=true
 fn:=λ _=>true
 pn:=[]
 xe:=λ e s'=>wpAny (model P w) (A.deeper (envOfC qual scope s.heap.objs.size f cd)) (leaving (envOfC qual scope s.heap.objs.size f cd) e) (λ _ s''=>CX outer H s E e s'') (λ e' s''=>CX outer H s E e' s'') s'
theorem cell_has {sc:Scope} {n:Nat} {x:Str} (h:sc.names.lookup x=some .cell):∃c,(cellsFrom n sc.names []).lookup x=some c:=by
 have q:=PySem.W.cellsFrom_some sc.names n [] (.inl h);exact Option.isSome_iff_exists.mp q
theorem inv_start {CX:CXT} {P:Program} {w:World} {K:PySem.W.Frag} {mg:Str->Option Value} {base:Heap} {N ps:List Str} {qual:Str} {scope:Scope} {f:Addr} {cd:Value} {A:Around} {outer:List Env} {s s1:Shared} {H:Hp} {E:XK} {us:List Value} {vs:List V}
  (S:FnScope N ps scope) (hd:A.handled=none) (e0:Env0 P w K mg base A outer s H) (hl:vs.length=ps.length) (r:Vals vs us)
  (x:InCallC s s.heap.objs.size (bindL (envOfC qual scope s.heap.objs.size f cd).kindOf (ps.zip us) λ _=>none) (cellsFrom (s.heap.objs.size+1) scope.names []) (bindC (envOfC qual scope s.heap.objs.size f cd).kindOf (ps.zip us) λ _=>none) s1):
  Inv (cxOf CX P w K mg base N qual scope f cd A outer s H E) [] (start N vs) H s1:=by
 have hpl:ps.length<=N.length:=by have:=congrArg List.length S.pre;rw[List.length_take] at this;omega
 obtain⟨h1,tk,rfl,hk⟩:=x.done;have noA:∀b:Addr,b∉(cxOf CX P w K mg base N qual scope f cd A outer s H E).ex:=λ b z=>absurd (show b∈([]:List Addr) from z) (by simp);refine⟨⟨e0.mod,S.kind,rfl,rfl,Nat.le_refl _,λ y z c h1 h2=>?_,λ y hy=>?_,λ y c _ h=>?_,λ _=>hd,Around.frames_deeper e0.frames,.inr ⟨rfl,rfl⟩,λ b z=>absurd z (noA b),e0.bs,e0.bsz,λ b _ _=>noA b,λ b z=>absurd z (noA b),e0.funs,e0.frf⟩,
  rfl,e0.bare,Un.kept hk,⟨_,x.toInCall.ns,λ i y v h1 h2 h3=>?_⟩,λ y c h=>⟨_,x.cell y c h⟩,e0.hok.fresh (Nat.le_refl _),λ y c h=>?_,λ p hp=>absurd (show p∈([]:List (Addr×Obj)) from hp) (by simp),e0.hok.kept hk,?_⟩
 ·exact name_of_addr x.apart (PySem.mem_of_lookup h1) (PySem.mem_of_lookup h2)
 ·have hy:scope.names.lookup y=some .cell\/scope.names.lookup y=some .free:=hy;rcases hy with hy |hy
  ·exact cell_has hy
  ·exact absurd rfl (S.nofree _ (PySem.mem_of_lookup hy))
 ·exact Nat.le_of_lt (x.above y c (PySem.mem_of_lookup h))
 ·have hi:i < vs.length:=by
   unfold start at h2;by_cases hi:i < vs.length
   ·exact hi
   ·rw[List.getElem?_append_right (by simpa using hi)] at h2;rw[List.getElem?_replicate] at h2;split at h2 <;> cases h2
  have ha:vs[i]?=some v:=by
   unfold start at h2;rw[List.getElem?_append_left (by simpa using hi),List.getElem?_map] at h2;cases e:vs[i]? with
   |none=>rw[e] at h2;cases h2
   |some a=>rw[e] at h2;cases h2;rfl
  obtain⟨u,hu,rv⟩:=r.get ha;have hp:ps[i]?=some y:=by
   rw[<-S.pre,List.getElem?_take_of_lt (by omega)];exact h1
  have ndP:ps.Nodup:=by rw[<-S.pre];exact S.nd.sublist (List.take_sublist _ _)
  refine⟨u,rv,?_⟩;rcases S.par y (List.mem_of_getElem? hp) with k |k
  ·exact .inl ⟨k,bindL_get ndP hp hu k⟩
  ·obtain⟨c,e⟩:=cell_has (n:=s.heap.objs.size+1) k;refine .inr ⟨.inl k,c,e,?_⟩;have q:=x.cell y c e;rw[bindC_get ndP hp hu (by show scope.names.lookup y≠_;rw[k];decide)] at q;exact q
 ·exact e0.hok.fresh (Nat.le_of_lt (x.above y c (PySem.mem_of_lookup h)))
 ·unfold start;show _=N.length;rw[List.length_append,List.length_map,List.length_replicate];omega
theorem fn_of {CX:CXT} {P:Program} {w:World} {K:PySem.W.Frag} {mg:Str->Option Value} {base:Heap} {k:Nat} {f:Addr} {name qual:Str} {params:Arguments} {body:List Stmt} {scope:Scope} {dV kV doc pm cdv ct oc:Value} {an od:Option Addr}
  {osl:Array (Option Value)} {N ps:List Str} {sp:Sp} (lk:K.lookup f=some ⟨oc,od,.func (PySem.W.fnOf name qual params body scope dV kV doc pm an cdv ct),osl⟩) (hcd:PySem.W.codeIn K cdv qual=true) (S:FnScope N ps scope)
  (len:∀vs H Q E,sp vs H Q E->vs.length=ps.length)
  (hbody:∀(A:Around) (outer:List Env) (s:Shared) (H:Hp) (vs:List V) (Q:VK) (E:XK),Room k (A.deeper (envOfC qual scope s.heap.objs.size f cdv))->sp vs H Q E->
   ∃t,PSs (cxOf CX P w K mg base N qual scope f cdv A outer s H E) body t/\t {nx:=λ _ H'=>Q .non H',rt:=Q} (start N vs) H):
  FnOk P w K mg base CX (k+1) f (PySem.W.fnOf name qual params body scope dV kV doc pm an cdv ct) ps sp:=by
 refine⟨len,λ A outer s H args us vs Q E hr e0 hb r hsp=>?_⟩;have hl:=len _ _ _ _ hsp;have KX:K.In s.heap:=e0.mod.kin.keeps λ b o e=>(e0.bs b o e).1;have lim:s.heap.NoLimit:=e0.mod.nolimit.keeps λ b o e=>(e0.bs b o e).1;have hkind:∀y∈ps.zip us,scope.names.lookup y.1=some .local\/(scope.names.lookup y.1=some .cell/\((cellsFrom (s.heap.objs.size+1) scope.names []).lookup y.1).isSome=true):=λ ⟨n,v⟩ hy=>by
  rcases S.par n (List.of_mem_zip hy).1 with q |q
  ·exact .inl q
  ·exact .inr ⟨q,PySem.W.cellsFrom_some _ _ _ (.inl q)⟩
 refine codeAny_call_function hr.depth (KX _ _ lk) rfl S.co S.gen rfl (PySem.W.codeRec_of KX hcd) (hb _ _ _ _ ?_);refine wpAny_newFunctionEnv_cells S.kind hkind λ env he s1 x=>?_;subst he;refine⟨lim.keeps x.toInCall.keep,codeAny_func ?_⟩;obtain⟨t,ht,hq⟩:=hbody A outer s H vs Q E (hr.deeper _) hsp;have I:Inv (cxOf CX P w K mg base N qual scope f cdv A outer s H E) [] (start N vs) H s1:=inv_start S hr.hd e0 hl r x;refine wpAny_mono (ht [] s1 (start N vs) H _ I hq) (λ fl s' hs=>?_) λ e s' hs=>hs;have fin:∀{σ':St} {H':Hp} {v:V} {u:Value},Inv (cxOf CX P w K mg base N qual scope f cdv A outer s H E) [] σ' H' s'->RelV v u->Q v H'->CE outer P w H s Q u s':=
  λ {σ' H' v u} J rv q=>⟨v,H',J.os,J.bare,J.base,J.hok,rv,q⟩
 cases fl with
 | ret u=>
  obtain⟨v,σ',H',J,rv,q⟩:=hs;exact fin J rv q
 | next=>
  obtain⟨σ',H',J,q⟩:=hs;exact fin (v:=V.non) (u:=Value.none) J rfl q
 | brk=>
  obtain⟨_,_,_,q⟩:=hs;exact False.elim q
 | cont=>
  obtain⟨_,_,_,q⟩:=hs;exact False.elim q
section
variable {X:Cx} {x:Str} {p pos:Pos} {e:Expr} {es:List Expr} {t:TA} {id T:String} {r:List V->Hp->VK->Prop}
noncomputable def tCB (r:List V->Hp->VK->Prop) (t:TA):TE:=λ σ H Q=>t σ H λ vs H1=>r vs H1 Q
theorem pe_callB (hc:CallR X (.builtin id) r) (hg:Gl X x) (hm:X.mg x=none) (hv:bootBuiltins x=some (.builtin id)) (ha:PA X (e::es) t) (hn:x≠"__name__" :=by decide) (hdb:(x ==("__debug__" :Str))=false:=by decide)
  (he:starEach (e::es) X.env=(false,eval e X.env)::starEach es X.env:=by rfl) (hpl:(backTo pos (starEach es X.env)).any (·.1)=false:=by rfl):PE X (.Call (.Name x p) (e::es) [] pos) (tCB r t):=by
 intro pins s σ H Q I h;refine wpAny_Call_Name_kw (ld_blt I hg hm hv ?_ hn hdb);exact PyProof.Rows.callWith_builtin1 (thn (ha pos pins s σ H _ I h) λ us s1 ⟨vs,H1,I1,r1,q1⟩=>hc pins s1 σ H1 vs us Q I1 r1 q1) he hpl
theorem pe_callTy (hc:CallR X (.type T) r) (hg:Gl X x) (hm:X.mg x=none) (hv:bootBuiltins x=some (.type T)) (ha:PA X (e::es) t) (hn:x≠"__name__" :=by decide) (hdb:(x ==("__debug__" :Str))=false:=by decide)
  (he:starEach (e::es) X.env=(false,eval e X.env)::starEach es X.env:=by rfl) (hpl:(backTo pos (starEach es X.env)).any (·.1)=false:=by rfl):PE X (.Call (.Name x p) (e::es) [] pos) (tCB r t):=by
 intro pins s σ H Q I h;refine wpAny_Call_Name_kw (ld_blt I hg hm hv ?_ hn hdb);exact PyProof.Rows.callWith_type1 (thn (ha pos pins s σ H _ I h) λ us s1 ⟨vs,H1,I1,r1,q1⟩=>hc pins s1 σ H1 vs us Q I1 r1 q1) he hpl
end
end L2
namespace HT
open PySem PyProof.Rows
section
open PySem.SeqAt
open PySem.AutoSeq1 (wpAny_loadPart')
open PySem.MeetsSeq PySem.MeetsSeq2 PySem.MeetsSeq3
end
section
variable {prog:Program} {w:World} {A:Around} {E:Value->Shared->Prop} {s:Shared}
theorem cat_tup {t b:Addr} {vs ws:List Value} {Q:Value->Shared->Prop} (ht:IsTup s.heap t vs.toArray) (hb:IsTup s.heap b ws.toArray) (hv:vs≠[])
  (h1:ws=[]->Q (.ref t) s) (h2:ws≠[]->Q (.ref s.heap.objs.size) {s with heap:=s.heap.push {cls:= .type "tuple",data:= .seq (vs++ws).toArray}})
  (hsz:vs.length+ws.length<=sizeLine):wpAny (model prog w) A (binaryOp .Add (.ref t) (.ref b)) Q E s:=by
 obtain⟨⟨cls,dd,data,sl⟩,ho,hc,n,hd⟩:=id ht;obtain⟨⟨cls2,dd2,data2,sl2⟩,ho2,hc2,n2,hd2⟩:=id hb;simp only at hc hd hc2 hd2;subst hc hd hc2 hd2;have e:vs.toArray++ws.toArray=(vs++ws).toArray:=by simp
 by_cases hw:ws=[]
 ·exact concat_meets ⟨_,ho,rfl⟩ ⟨_,ho2,rfl⟩ noFill_tuple_add seq_tuple_add PySem.F.slot_tuple_add PySem.F.entry_tuple_add (PySem.F.args_tuple_add_2 _ _)
   (tuple_addW1 t b vs.toArray ws.toArray n n2 dd dd2 sl sl2 (by simpa using hv) (by simp[hw])) ⟨ho,ho2,h1 hw⟩
 ·refine concat_meets ⟨_,ho,rfl⟩ ⟨_,ho2,rfl⟩ noFill_tuple_add seq_tuple_add PySem.F.slot_tuple_add PySem.F.entry_tuple_add (PySem.F.args_tuple_add_2 _ _)
   (tuple_addW2 t b vs.toArray ws.toArray n n2 dd dd2 sl sl2 (by simpa using hv) (by simpa using hw) (by rw[List.size_toArray,List.size_toArray];exact hsz)) ⟨ho,ho2,?_⟩
  rw[e];exact h2 hw
noncomputable def sIx (n d:Nat):Option Int->Nat
 |none=>d
 |some v=>if v < 0 then (v+(n:Int)).toNat else min v.toNat n
theorem sIx_le (n d:Nat) (hd:d<=n) (o:Option Int):sIx n d o<=n:=by
 cases o with
 |none=>exact hd
 | some v=>
  show (if v < 0 then (v+(n:Int)).toNat else min v.toNat n)<=n;by_cases hv:v < 0
  ·rw[if_pos hv];omega
  ·rw[if_neg hv];exact Nat.min_le_right _ _
theorem Xa (a b:Nat):((min a b:Nat):Int)=min (a:Int) (b:Int):=by
 rcases Nat.le_total a b with h |h
 ·rw[Nat.min_eq_left h,Int.min_eq_left (Int.ofNat_le.mpr h)]
 ·rw[Nat.min_eq_right h,Int.min_eq_right (Int.ofNat_le.mpr h)]
theorem adF {i:Int} (n:Nat) (h:i < 0):max 0 (min (i+(n:Int)) (n:Int))=(((i+(n:Int)).toNat:Nat):Int):=by
 rw[Int.min_eq_left (by omega),Int.max_comm];exact (Int.ofNat_toNat _).symm
theorem adG (k n:Nat):max 0 (min (k:Int) (n:Int))=((min (k:Int).toNat n:Nat):Int):=by
 rw[Int.max_eq_right (Int.le_min.mpr ⟨Int.natCast_nonneg _,Int.natCast_nonneg _⟩)];exact (Xa k n).symm
theorem clip_eq (v:Int) (n d:Nat):(if v < 0 then max (v+(n:Int)) 0 else min v (n:Int))=((sIx n d (some v):Nat):Int):=by
 show (if v < 0 then max (v+(n:Int)) 0 else min v (n:Int))=(((if v < 0 then (v+(n:Int)).toNat else min v.toNat n):Nat):Int);by_cases hv:v < 0
 ·simp only[if_pos hv];exact (Int.ofNat_toNat _).symm
 ·simp only[if_neg hv];obtain⟨k,rfl⟩:=Int.eq_ofNat_of_zero_le (Int.not_lt.mp hv);exact (Xa k n).symm
theorem adjust_gen (lo hi:Option Int) (n:Nat):Builtin.Slice.sliceAdjust lo hi 1 (n:Int)=(((sIx n 0 lo:Nat):Int),((sIx n n hi:Nat):Int)):=by
 have h1:¬((1:Int) < 0):=by omega
 unfold Builtin.Slice.sliceAdjust;simp only[h1,if_false];refine Prod.ext ?_ ?_
 ·cases lo with
  |none=>rfl
  |some v=>exact clip_eq v n 0
 ·cases hi with
  |none=>rfl
  |some v=>exact clip_eq v n n
theorem places_gen (i j:Nat):Builtin.Slice.slicePlaces (i:Int) (j:Int) 1=j - i:=by
 unfold Builtin.Slice.slicePlaces;have h1:(1:Int) > 0:=by omega
 simp only[h1,if_true,Int.ediv_one];split <;> omega
theorem slicePart_ {v:Value} {o:Option Int} {Q:Option Int->Shared->Prop} (p:IsPart v o) (h:Q o s):wpAny (model prog w) A (Builtin.Slice.slicePartIndex v) Q E s:=by
 cases p with
 |none=>exact slicePart_none h
 |int i t=>exact slicePart_int h
theorem sliceApplied_gen {sl:Addr} {vl vu:Value} {lo hi:Option Int} {n:Nat} {Q:Int×Int×Nat->Shared->Prop} (hs:s.heap.IsSliceOf sl vl vu .none) (pl:IsPart vl lo) (pu:IsPart vu hi)
  (h:Q (((sIx n 0 lo:Nat):Int),1,sIx n n hi - sIx n 0 lo) s):wpAny (model prog w) A (Builtin.Slice.sliceApplied (.ref sl) (pure (n:Int))) Q E s:=by
 obtain⟨os,hos,hcs,hds⟩:=id hs;unfold Builtin.Slice.sliceApplied Builtin.Slice.sliceFields;refine wpAny_bind (wpAny_bind (wpAny_field hos hds (x:=vl) rfl (wpAny_bind (wpAny_field hos hds (x:=vu) rfl (wpAny_bind (wpAny_field hos hds (x:= .none) rfl (wpAny_pure ?_)))))));refine wpAny_bind (slicePart_none ?_);show wpAny _ _ (if ((1:Int) ==0)=true then _ else _) _ _ s;rw[if_neg (by decide)];refine wpAny_bind (slicePart_ pl (wpAny_bind (slicePart_ pu (wpAny_bind (wpAny_pure ?_)))));show wpAny _ _ (match Builtin.Slice.sliceAdjust lo hi 1 (n:Int) with |(lo,hi)=>pure (lo,(1:Int),Builtin.Slice.slicePlaces lo hi 1)) _ _ s;rw[adjust_gen lo hi n];show wpAny _ _ (pure (((sIx n 0 lo:Nat):Int),(1:Int),Builtin.Slice.slicePlaces ((sIx n 0 lo:Nat):Int) ((sIx n n hi:Nat):Int) 1)) _ _ s;rw[places_gen];exact wpAny_pure h
theorem pick_gen (xs:Array Value) (i k:Nat):((List.range k).filterMap λ (m:Nat)=>xs[((i:Int)+(m:Int)*1).toNat]?).toArray=((xs.toList.drop i).take k).toArray:=by
 have e:(λ (m:Nat)=>xs[((i:Int)+(m:Int)*1).toNat]?)=λ m=>xs[i+m]?:=by
  funext m;have:((i:Int)+(m:Int)*1).toNat=i+m:=by omega
  rw[this]
 rw[e];have:=pick_run xs i k;rw[List.filterMap_map] at this;have e2:((λ x=>xs[x]?) ∘ λ x=>i+x)=λ m=>xs[i+m]?:=rfl;rw[e2] at this;rw[this]
theorem getItem_tuple_cut {t sl:Addr} {items:Array Value} {vl vu:Value} {lo hi:Option Int} {Q:Value->Shared->Prop} (ht:IsTup s.heap t items) (hs:s.heap.IsSliceOf sl vl vu .none) (pl:IsPart vl lo) (pu:IsPart vu hi)
  (hw:¬(sIx items.size 0 lo=0/\sIx items.size items.size hi=items.size))
  (h:Q (.ref s.heap.objs.size) {s with heap:=s.heap.push {cls:= .type "tuple",data:= .seq ((items.toList.drop (sIx items.size 0 lo)).take (sIx items.size items.size hi - sIx items.size 0 lo)).toArray}})
  (hsz:items.size<=sizeLine):wpAny (model prog w) A (getItem (.ref t) (.ref sl)) Q E s:=by
 have htake:sizeOk (.seq ((items.toList.drop (sIx items.size 0 lo)).take (sIx items.size items.size hi - sIx items.size 0 lo)).toArray):=by
  show ((items.toList.drop (sIx items.size 0 lo)).take (sIx items.size items.size hi - sIx items.size 0 lo)).toArray.size<=sizeLine;rw[List.size_toArray,List.length_take,List.length_drop,Array.length_toList];omega
 have hj:sIx items.size items.size hi<=items.size:=sIx_le _ _ (Nat.le_refl _) hi;obtain⟨os,hos,hcs,hds⟩:=id hs;have hTs:s.TypeIs (.ref sl) "slice" :=⟨os,hos,hcs⟩;unfold getItem
 try with_reducible refine wpAny_holding ?_
 first |refine wpAny_bind (wpAny_pure ?_) |skip
 refine wpAny_bind (wpAny_sequenceKey ht.typeIs (by decide) ?_);refine wpAny_bind (wpAny_callSpecial?_slot (name:=Str.ofString "__getitem__") ht.typeIs PyProof.Rows.slot_tuple_getitem
  (wpAny_call_entry PyProof.Rows.slot_tuple_getitem ht.typeIs entry_tuple_getitem ?_ (args_tuple_getitem _ _)))
 show wpAny _ _ (Builtin.Tuple.tupleItemsOf (.ref t) >>=_) _ _ s;refine wpAny_bind (tupleItemsOf_ ht ?_);refine wpAny_bind (wpAny_typeOf hTs ?_);rw[if_pos (by decide)];refine wpAny_bind (sliceApplied_gen hs pl pu ?_);have hno:¬((((sIx items.size 0 lo:Nat):Int) ==0 && (1:Int) ==1 && (sIx items.size items.size hi - sIx items.size 0 lo) ==items.size)=true):=by
  intro q;rw[Bool.and_eq_true,Bool.and_eq_true] at q;have q1:((sIx items.size 0 lo:Nat):Int)=0:=eq_of_beq q.1.1;have q2:sIx items.size items.size hi - sIx items.size 0 lo=items.size:=eq_of_beq q.2;exact hw ⟨by omega,by omega⟩
 show wpAny _ _ (if (((sIx items.size 0 lo:Nat):Int) ==0 && (1:Int) ==1 && (sIx items.size items.size hi - sIx items.size 0 lo) ==items.size)=true then _ else _) _ _ s;rw[if_neg hno,pick_gen]
 first
  |exact wpAny_bind (m:=Builtin.Tuple.tupleExact _) (wpAny_newObj_type (wpAny_pure ⟨_,rfl,wpAny_pure h⟩) htake)
  |exact wpAny_bind (m:=Builtin.Tuple.tupleExact _) (wpAny_newObj_type (wpAny_bind (wpAny_pure (wpAny_pure ⟨_,rfl,wpAny_pure h⟩))) htake)
  |exact wpAny_bind (wpAny_bind (m:=Builtin.Tuple.tupleExact _) (wpAny_newObj_type (wpAny_pure (wpAny_pure ⟨_,rfl,wpAny_pure h⟩)) htake))
  |exact wpAny_bind (wpAny_bind (m:=Builtin.Tuple.tupleExact _) (wpAny_newObj_type (wpAny_pure ⟨_,rfl,wpAny_pure h⟩) htake))
end
end HT
namespace L2
open PySem PySem.Spec PyProof.Rows
noncomputable abbrev TO:=St->Hp->(Option Int->Hp->Prop)->Prop
noncomputable def PO (X:Cx) (e:Option Expr) (t:TO):Prop:=
 ∀ (pins:List (Addr×Obj)) (s:Shared) (σ:St) (H:Hp) (Q:Option Int->Hp->Prop),Inv X pins σ H s->t σ H Q->
  wpAny (model X.prog X.w) X.A (evalPart e X.env) (λ u s'=>∃o H',Inv X pins σ H' s'/\IsPart u o/\Q o H') X.xe s
noncomputable def tNoPart:TO:=λ _ H Q=>Q none H
noncomputable def tPart (t:TE):TO:=λ σ H Q=>t σ H λ x H1=>∃i,x= .int i/\Q (some i) H1
theorem intsAre_of {ns:List Int}:∀{us:List Value},Vals (ns.map V.int) us->IntsAre us ns:=by
 induction ns with
 |nil=>intro us r;rw[List.map_nil] at r;cases r;exact .nil
 | cons n ns ih=>
  intro us r;rw[List.map_cons] at r;cases r with
  | cons r1 r2=>
   obtain⟨t,e⟩:=r1;subst e;exact .cons n t (ih r2)
section
variable {X:Cx} {e:Expr} {te:TE} {lo hi:Option Expr} {tl th:TO} {pos p2:Pos}
theorem po_none:PO X none tNoPart:=by
 intro pins s σ H Q I h;rw[evalPart_none];exact wpAny_pure ⟨none,H,I,.none,h⟩
theorem po_some (h:PE X e te):PO X (some e) (tPart te):=by
 intro pins s σ H Q I hw;rw[evalPart_some];refine thn (h pins s σ H _ I hw) λ u s1 bM=>?_;obtain⟨x,H1,I1,r1,q1⟩:=bM;obtain⟨i,rfl,q⟩:=q1;obtain⟨t,rfl⟩:=r1;exact⟨some i,H1,I1,.int i t,q⟩
noncomputable def SlR (X:Cx) (r:V->Option Int->Option Int->Hp->VK->Prop):Prop:=
 ∀ (pins:List (Addr×Obj)) (s:Shared) (σ:St) (H:Hp) (x:V) (v vl vu:Value) (lo hi:Option Int) (sl:Addr) (Q:VK),Inv X pins σ H s->RelV x v->s.heap.IsSliceOf sl vl vu .none->IsPart vl lo->IsPart vu hi->r x lo hi H Q->
  ∃T id,typeLookup (.type T) "__getitem__" =pure (some (.builtin id))/\s.TypeIs v T/\wpAny (model X.prog X.w) X.A (getItem v (.ref sl)) (EP X pins σ Q) X.xe s
theorem SlR.or {r r':V->Option Int->Option Int->Hp->VK->Prop} (h:SlR X r) (h':SlR X r'):SlR X (λ x lo hi H Q=>r x lo hi H Q\/r' x lo hi H Q):=by
 intro pins s σ H x v vl vu lo hi sl Q I rx hs pl pu q;rcases q with q |q
 ·exact h pins s σ H x v vl vu lo hi sl Q I rx hs pl pu q
 ·exact h' pins s σ H x v vl vu lo hi sl Q I rx hs pl pu q
noncomputable def tSl (r:V->Option Int->Option Int->Hp->VK->Prop) (te:TE) (tl th:TO):TE:=λ σ H Q=>te σ H λ x H1=>tl σ H1 λ l H2=>th σ H2 λ u H3=>r x l u H3 Q
theorem pe_slice {r:V->Option Int->Option Int->Hp->VK->Prop} (hr:SlR X r) (he:PE X e te) (hl:PO X lo tl) (hu:PO X hi th):PE X (.Subscript e (.Slice lo hi none p2) pos) (tSl r te tl th):=by
 intro pins s σ H Q I h;refine Subscript_ (thn (he pins s σ H _ I h) λ v s1 bM=>?_);obtain⟨x,H1,I1,r1,q1⟩:=bM;refine wpAny_Slice (thn (hl pins s1 σ H1 _ I1 q1) λ vl s2 ⟨l,H2,I2,pl,q2⟩=>thn (hu pins s2 σ H2 _ I2 q2) λ vu s3 bM=>?_);obtain⟨u,H3,I3,pu,q3⟩:=bM;rw[evalPart_none];refine wpAny_pure ?_;have I4:Inv X pins σ H3 {s3 with heap:=s3.heap.push {cls:= .type "slice",data:= .fields #[vl,vu,.none]}}:=I3.kept (t':=s3.toks) λ b ob q=>Heap.get?_push_of_some _ q;obtain⟨T,id,hT,ht,hg⟩:=hr pins {s3 with heap:=s3.heap.push {cls:= .type "slice",data:= .fields #[vl,vu,.none]}} σ H3 x v vl vu l u s3.heap.objs.size Q I4 r1 (Heap.IsSliceOf.new ..) pl pu q3;show wpAny (model X.prog X.w) X.A (subscriptTail e (.Slice lo hi none p2) v (.ref s3.heap.objs.size)) (EP X pins σ Q) X.xe {s3 with heap:=s3.heap.push {cls:= .type "slice",data:= .fields #[vl,vu,.none]}};exact tail_any (ops:=[.ref s3.heap.objs.size,v]) ht hT hg (by with_unfolding_all rfl)
noncomputable def cutV (xs:List V) (lo hi:Option Int):List V:=(xs.drop (HT.sIx xs.length 0 lo)).take (HT.sIx xs.length xs.length hi - HT.sIx xs.length 0 lo)
theorem cutV_length (xs:List V) (lo hi:Option Int):(cutV xs lo hi).length<=xs.length:=by
 unfold cutV;rw[List.length_take,List.length_drop];omega
noncomputable def rSlT (K:PySem.W.Frag):V->Option Int->Option Int->Hp->VK->Prop:=λ x lo hi H Q=>∃a xs,x= .ref a/\SqT K H a xs/\
 ¬(HT.sIx xs.length 0 lo=0/\HT.sIx xs.length xs.length hi=xs.length)/\∀p,H p=none->Q (.ref p) (upd H p (.tup (cutV xs lo hi)))
theorem sl_tup:SlR X (rSlT X.K):=by
 intro pins s σ H x v vl vu lo hi sl Q I rx hs pl pu h;obtain⟨a,xs,rfl,hx,hw,q⟩:=h;cases rx;obtain⟨its,r,ht,hz⟩:=I.tuple hx;have hlen:its.toArray.size=xs.length:=by rw[List.size_toArray];exact r.length.symm
 refine⟨"tuple",_,PyProof.Rows.slot_tuple_getitem.lookup,ht.typeIs,?_⟩;refine HT.getItem_tuple_cut ht hs pl pu (by rw[hlen];exact hw) ?_ (by rw[hlen];exact hz);rw[hlen];refine⟨.ref s.heap.objs.size,_,I.laid (t':=s.toks) (o:= .tup (cutV xs lo hi)) (λ b ob q=>Heap.get?_push_of_some _ q) (Nat.le_refl _) ?_,rfl,q _ (I.hok.fresh (Nat.le_refl _))⟩;exact⟨Nat.le_trans (cutV_length xs lo hi) hz,_,(r.drop (HT.sIx xs.length 0 lo)).take (HT.sIx xs.length xs.length hi - HT.sIx xs.length 0 lo),IsTup.new _ _⟩
noncomputable def rCatT (K:PySem.W.Frag):R2:=λ x y H Q=>∃a b xs ys,x= .ref a/\y= .ref b/\SqT K H a xs/\SqT K H b ys/\xs≠[]/\xs.length+ys.length<=sizeLine/\
 (ys=[]->Q (.ref a) H)/\(ys≠[]->∀p,H p=none->Q (.ref p) (upd H p (.tup (xs++ys))))
theorem Vals.nil_iff {xs:List V} {us:List Value} (r:Vals xs us):us=[]↔xs=[]:=by
 cases r with
 |nil=>simp
 |cons _ _=>simp
theorem op_catT:OpR X (binaryOp .Add) (rCatT X.K):=by
 intro pins s σ H x y v u Q I rx ry h;obtain⟨a,b,xs,ys,rfl,rfl,ha,hb,hx,hz,q1,q2⟩:=h;cases rx;cases ry;obtain⟨its,r1,p1,_⟩:=I.tuple ha;obtain⟨its2,r2,p2,_⟩:=I.tuple hb;refine HT.cat_tup p1 p2 (λ z=>hx (r1.nil_iff.mp z)) (λ z=>⟨.ref a,H,I,rfl,q1 (r2.nil_iff.mp z)⟩) (λ z=>?_) (by rw[<-r1.length,<-r2.length];exact hz);refine⟨.ref s.heap.objs.size,_,I.laid (t':=s.toks) (o:= .tup (xs++ys)) (λ b ob q=>Heap.get?_push_of_some _ q) (Nat.le_refl _) ?_,rfl,q2 (λ w=>z (r2.nil_iff.mpr w)) _ (I.hok.fresh (Nat.le_refl _))⟩;exact⟨by rw[List.length_append];exact hz,_,r1.append r2,IsTup.new _ _⟩
end
noncomputable def ixN (n:Nat) (i:Int):Option Nat:=if 0<=i then (if i < n then some i.toNat else none) else if -(n:Int)<=i then some (i+n).toNat else none
noncomputable def atI {α:Type} (xs:List α) (i:Int):Option α:=(ixN xs.length i).bind λ j=>xs[j]?
theorem ixN_seq {n:Nat} {i:Int} {j:Nat} (h:ixN n i=some j):seqIndex? i n=some j/\j < n/\-(n:Int)<=i/\i < n:=by
 unfold ixN at h;by_cases h0:0<=i
 ·rw[if_pos h0] at h;by_cases h1:i < n
  ·rw[if_pos h1] at h;have e:i.toNat=j:=Option.some.inj h;exact⟨by rw[seqIndex_of h0 h1,e],by omega,by omega,h1⟩
  ·rw[if_neg h1] at h;cases h
 ·rw[if_neg h0] at h;by_cases h1: -(n:Int)<=i
  ·rw[if_pos h1] at h;have e:(i+n).toNat=j:=Option.some.inj h;exact⟨by rw[seqIndex_neg (by omega) h1,e],by omega,h1,by omega⟩
  ·rw[if_neg h1] at h;cases h
theorem atI_get {α:Type} {xs:List α} {i:Int} {v:α} (h:atI xs i=some v):∃j,seqIndex? i xs.length=some j/\xs[j]?=some v/\j < xs.length/\-(xs.length:Int)<=i/\i < xs.length:=by
 unfold atI at h;cases e:ixN xs.length i with
 |none=>rw[e] at h;cases h
 | some j=>
  rw[e] at h;obtain⟨h1,h2,h3,h4⟩:=ixN_seq e;exact⟨j,h1,h,h2,h3,h4⟩
noncomputable def PlainIx (b:Expr):Prop:=∀o i,subscripted b false o i=operate [o,i] (getItem o i)
noncomputable def IxR (X:Cx) (r:R2):Prop:=
 ∀ (value slice:Expr) (pins:List (Addr×Obj)) (s:Shared) (σ:St) (H:Hp) (x y:V) (v u:Value) (Q:VK),Inv X pins σ H s->RelV x v->RelV y u->r x y H Q->
  subscripted slice false v u=operate [v,u] (getItem v u)->wpAny (model X.prog X.w) X.A (subscriptTail value slice v u) (EP X pins σ Q) X.xe s
noncomputable def MtR (X:Cx) (id:String) (r:V->List V->Hp->VK->Prop):Prop:=
 ∀ (pins:List (Addr×Obj)) (s:Shared) (σ:St) (H:Hp) (x:V) (xs:List V) (v:Value) (us:List Value) (Q:VK),Inv X pins σ H s->RelV x v->Vals xs us->r x xs H Q->
  wpAny (model X.prog X.w) X.A (call (.builtin id) (v::us)) (EP X pins σ Q) X.xe s
section
variable {X:Cx} {a b:Expr} {ta tb:TE} {pos:Pos}
theorem IxR.or {r r':R2} (h:IxR X r) (h':IxR X r'):IxR X (λ x y H Q=>r x y H Q\/r' x y H Q):=by
 intro value slice pins s σ H x y v u Q I rx ry q hs;rcases q with q |q
 ·exact h value slice pins s σ H x y v u Q I rx ry q hs
 ·exact h' value slice pins s σ H x y v u Q I rx ry q hs
theorem pe_ix {r:R2} (hr:IxR X r) (ha:PE X a ta) (hb:PE X b tb) (hs:PlainIx b):PE X (.Subscript a b pos) (tOp r ta tb):=by
 intro pins s σ H Q I h;exact Subscript_ (binT ha hb I h λ v u s2 x y H2 I2 rx ry q=>hr a b pins s2 σ H2 x y v u Q I2 rx ry q (hs _ _))
noncomputable def rIxL (K:PySem.W.Frag):R2:=λ x y H Q=>∃p xs i v,x= .ref p/\y= .int i/\SqL K H p xs/\atI xs i=some v/\Q v H
noncomputable def rIxT (K:PySem.W.Frag):R2:=λ x y H Q=>∃p xs i v,x= .ref p/\y= .int i/\SqT K H p xs/\atI xs i=some v/\Q v H
noncomputable def rIxS:R2:=λ x y H Q=>∃z i c,x= .str z/\y= .int i/\z.length<=sizeLine/\atI z.cps.toList i=some c/\Q (.str ⟨#[c]⟩) H
theorem ix_list:IxR X (rIxL X.K):=by
 intro value slice pins s σ H x y v u Q I rx ry h hs;obtain⟨p,xs,i,z,rfl,rfl,hq,he,q⟩:=h;cases rx;obtain⟨t,rfl⟩:=ry;obtain⟨its,r,pl,hz⟩:=I.list hq;obtain⟨j,h1,h2,h3,h4,h5⟩:=atI_get he;obtain⟨w,ew,rw'⟩:=r.get h2;have hl:=r.length;have hn:=line63;have fin:EP X pins σ Q w s:=⟨z,H,I,rw',q⟩;by_cases h0:0<=i
 ·have hj:i.toNat=j:=by
   rw[seqIndex_of h0 h5] at h1;exact Option.some.inj h1
  exact item_listR pl.isList h0 (by omega) (by rw[hj];simpa using ew) fin hs
 ·have hj:(i+(its.toArray.size:Int)).toNat=j:=by
   rw[seqIndex_neg (by omega) h4] at h1;rw[List.size_toArray,<-hl];exact Option.some.inj h1
  exact subscriptTail_builtinR (x:=w) pl.isList.typeIs slot_list_getitem.lookup
   (wpAny_getItem_list_neg (Q:=λ r s'=>r=w/\EP X pins σ Q r s') pl.isList (by omega) (by rw[List.size_toArray] <;> omega) (by omega) (by rw[hj];simpa using ew) ⟨rfl,fin⟩) hs
theorem ix_tup:IxR X (rIxT X.K):=by
 intro value slice pins s σ H x y v u Q I rx ry h hs;obtain⟨p,xs,i,z,rfl,rfl,hq,he,q⟩:=h;cases rx;obtain⟨t,rfl⟩:=ry;obtain⟨its,r,pl,hz⟩:=I.tuple hq;obtain⟨j,h1,h2,h3,h4,h5⟩:=atI_get he;obtain⟨w,ew,rw'⟩:=r.get h2;have hl:=r.length;have hn:=line63;have fin:EP X pins σ Q w s:=⟨z,H,I,rw',q⟩;exact subscriptTail_builtinR (x:=w) pl.typeIs slot_tuple_getitem.lookup
  (getItem_tuple (j:=j) (Q:=λ r s'=>r=w/\EP X pins σ Q r s') pl (by omega) (by omega) (by rw[List.size_toArray,<-hl];exact h1) (by simpa using ew) ⟨rfl,fin⟩) hs
theorem ix_str:IxR X rIxS:=by
 intro value slice pins s σ H x y v u Q I rx ry h hs;obtain⟨z,i,c,rfl,rfl,hz,he,q⟩:=h;obtain⟨t,rfl⟩:=rx;obtain⟨t',rfl⟩:=ry;obtain⟨j,h1,h2,h3,h4,h5⟩:=atI_get he;have hl:z.cps.toList.length=z.length:=by simp[Str.length]
 rw[hl] at h1 h4 h5;have hn:=line63;exact tail_any (typeIs_str s z t) slot_str_getitem.lookup (getItem_str (c:=c) (by
  have e1:decide (i < -(2 ^ 63:Int))=false:=decide_eq_false (by omega);have e2:decide (i>=2 ^ 63)=false:=decide_eq_false (by omega);rw[e1,e2,Bool.or_false]) (by rw[h1];simpa using h2) ⟨.str ⟨#[c]⟩,H,I.tok _,⟨_,rfl⟩,q⟩) hs
noncomputable def rIx (K:PySem.W.Frag):R2:=λ x y H Q=>rIxL K x y H Q\/rIxT K x y H Q\/rIxS x y H Q
theorem ix_seq:IxR X (rIx X.K):=ix_list.or (ix_tup.or ix_str)
theorem Inv.lst {pins:List (Addr×Obj)} {σ:St} {H:Hp} {s:Shared} {p:Addr} {xs:List V} (I:Inv X pins σ H s) (h:H p=some (.lst xs)):
  ∃(its:List Value) (n:Nat),Vals xs its/\s.heap.get? p=some {cls:= .type "list",data:= .seq its.toArray n}/\xs.length<=sizeLine:=by
 obtain⟨z,its,n,r,e⟩:=I.hok p _ h;exact⟨its,n,r,e,z⟩
theorem slice_bounds (lo hi:Option Int) (n:Nat):(sliceBounds lo hi none n).1=((HT.sIx n 0 lo:Nat):Int)/\(sliceBounds lo hi none n).2.1=((HT.sIx n n hi:Nat):Int)/\(sliceBounds lo hi none n).2.2=1:=by
 refine⟨?_,?_,rfl⟩
 ·cases lo with
  |none=>simp[sliceBounds,HT.sIx]
  | some i=>
   simp only[sliceBounds,HT.sIx,Option.getD_none,show (1:Int) > 0 by decide,if_true];by_cases h:i < 0
   ·simp only[h,if_true];exact HT.adF n h
   ·simp only[h,if_false];obtain⟨k,rfl⟩:=Int.eq_ofNat_of_zero_le (Int.not_lt.mp h);exact HT.adG k n
 ·cases hi with
  |none=>simp[sliceBounds,HT.sIx]
  | some i=>
   simp only[sliceBounds,HT.sIx,Option.getD_none,show (1:Int) > 0 by decide,if_true];by_cases h:i < 0
   ·simp only[h,if_true];exact HT.adF n h
   ·simp only[h,if_false];obtain⟨k,rfl⟩:=Int.eq_ofNat_of_zero_le (Int.not_lt.mp h);exact HT.adG k n
theorem slicePick_cut (its:List Value) (lo hi:Option Int):slicePick its.toArray lo hi none=((its.drop (HT.sIx its.length 0 lo)).take (HT.sIx its.length its.length hi - HT.sIx its.length 0 lo)).toArray:=by
 obtain⟨h1,h2,h3⟩:=slice_bounds lo hi its.toArray.size;unfold slicePick;rw[h1,h2,h3];simp only[sliceRange_one,pick_run,List.size_toArray] <;> rfl
noncomputable def rSlL (K:PySem.W.Frag):V->Option Int->Option Int->Hp->VK->Prop:=λ x lo hi H Q=>∃a xs,x= .ref a/\SqL K H a xs/\∀p,H p=none->Q (.ref p) (upd H p (.lst (cutV xs lo hi)))
theorem sl_list:SlR X (rSlL X.K):=by
 intro pins s σ H x v vl vu lo hi sl Q I rx hs pl pu h;obtain⟨a,xs,rfl,hx,q⟩:=h;cases rx;obtain⟨its,r,ht,hz⟩:=I.list hx;have hlen:=r.length;refine⟨"list",_,slot_list_getitem.lookup,ht.isList.typeIs,?_⟩;refine wpAny_getItem_list_slice ht.isList hs pl pu .none (by simp) ?_ (by rw[List.size_toArray] <;> omega);rw[slicePick_cut,<-hlen];refine⟨.ref s.heap.objs.size,_,I.laid (t':=s.toks) (o:= .lst (cutV xs lo hi)) (λ b ob q=>Heap.get?_push_of_some _ q) (Nat.le_refl _) ?_,rfl,q _ (I.hok.fresh (Nat.le_refl _))⟩;exact⟨Nat.le_trans (cutV_length xs lo hi) hz,_,0,(r.drop (HT.sIx xs.length 0 lo)).take (HT.sIx xs.length xs.length hi - HT.sIx xs.length 0 lo),Heap.get?_push_size _ rfl⟩
noncomputable def flatV:V->Bool
 | .non=>true
 | .bl _=>true
 | .int _=>true
 | .str _=>true
 |_=>false
noncomputable def eqV:V->V->Bool
 | .non,.non=>true
 | .bl a,.bl b=>a ==b
 | .bl a,.int b=>(if a then 1 else 0) ==b
 | .int a,.bl b=>a ==(if b then 1 else 0)
 | .int a,.int b=>a ==b
 | .str a,.str b=>a ==b
 |_,_=>false
theorem eqAt_V {A:Around} {s:Shared} {y x:V} {u v:Value} (ry:RelV y u) (rx:RelV x v) (fy:flatV y=true) (fx:flatV x=true):SeqAt.EqAt A s u v (eqV y x):=by
 cases y with
 | non=>
  cases ry;cases x with
  |non=>cases rx;exact SeqAt.EqAt.same _
  |bl b=>cases rx;exact SeqAt.EqAt.none_bool b
  |int b=>obtain⟨t,rfl⟩:=rx;exact SeqAt.EqAt.none_int b t
  |str b=>obtain⟨t,rfl⟩:=rx;exact SeqAt.EqAt.none_str b t
  |_=>exact absurd (show false=true from fx) Bool.false_ne_true
 | bl a=>
  cases ry;cases x with
  |non=>cases rx;exact SeqAt.EqAt.bool_none a
  |bl b=>cases rx;exact SeqAt.EqAt.bool_bool a b
  |int b=>obtain⟨t,rfl⟩:=rx;exact SeqAt.EqAt.bool_int a b t
  |str b=>obtain⟨t,rfl⟩:=rx;exact SeqAt.EqAt.bool_str a b t
  |_=>exact absurd (show false=true from fx) Bool.false_ne_true
 | int a=>
  obtain⟨t',rfl⟩:=ry;cases x with
  |non=>cases rx;exact SeqAt.EqAt.int_none a t'
  |bl b=>cases rx;exact SeqAt.EqAt.int_bool a t' b
  |int b=>obtain⟨t,rfl⟩:=rx;exact SeqAt.EqAt.int_int a t' b t
  |str b=>obtain⟨t,rfl⟩:=rx;exact SeqAt.EqAt.int_str a t' b t
  |_=>exact absurd (show false=true from fx) Bool.false_ne_true
 | str a=>
  obtain⟨t',rfl⟩:=ry;cases x with
  |non=>cases rx;exact SeqAt.EqAt.str_none a t'
  |bl b=>cases rx;exact SeqAt.EqAt.str_bool a t' b
  |int b=>obtain⟨t,rfl⟩:=rx;exact SeqAt.EqAt.str_int a t' b t
  |str b=>obtain⟨t,rfl⟩:=rx;exact SeqAt.EqAt.str_str a t' b t
  |_=>exact absurd (show false=true from fx) Bool.false_ne_true
 |_=>exact absurd (show false=true from fy) Bool.false_ne_true
noncomputable def eqU (x:V) (u:Value):Bool:=match u with
 | .none=>eqV .non x
 | .bool b=>eqV (.bl b) x
 | .int i _=>eqV (.int i) x
 | .str z _=>eqV (.str z) x
 |_=>false
theorem eqU_of {x y:V} {u:Value} (r:RelV y u) (f:flatV y=true):eqU x u=eqV y x:=by
 cases y with
 |non=>cases r;rfl
 |bl b=>cases r;rfl
 |int i=>obtain⟨t,rfl⟩:=r;rfl
 |str z=>obtain⟨t,rfl⟩:=r;rfl
 |_=>exact absurd (show false=true from f) Bool.false_ne_true
theorem any_eqU {x:V}:∀{xs:List V} {us:List Value},Vals xs us->xs.all flatV=true->us.any (eqU x)=xs.any λ y=>eqV y x
 |_,_,.nil,_=>rfl
 | y::xs,u::us,.cons r t,f=>by
  rw[List.all_cons,Bool.and_eq_true] at f;rw[List.any_cons,List.any_cons,eqU_of r f.1,any_eqU t f.2]
theorem mem_eqAt {A:Around} {s:Shared} {x:V} {v:Value} (rx:RelV x v) (fx:flatV x=true):∀{xs:List V} {us:List Value},Vals xs us->xs.all flatV=true->∀u∈us,SeqAt.EqAt A s u v (eqU x u)
 |_,_,.nil,_=>λ u hu=>by cases hu
 | y::xs,u::us,.cons r t,f=>λ u' hu=>by
  rw[List.all_cons,Bool.and_eq_true] at f;rcases List.mem_cons.mp hu with rfl |hu
  ·rw[eqU_of r f.1];exact eqAt_V r rx f.1 fx
  ·exact mem_eqAt rx fx t f.2 u' hu
noncomputable def inV (x:V) (xs:List V):Bool:=xs.any λ y=>eqV y x
noncomputable def rIn (K:PySem.W.Frag) (neg:Bool):R2:=λ x y H Q=>∃p xs,y= .ref p/\(SqL K H p xs\/SqT K H p xs)/\flatV x=true/\xs.all flatV=true/\Q (.bl (if neg then !inV x xs else inV x xs)) H
theorem op_notIn_seq:OpR X (compareOp .NotIn) (rIn X.K true):=by
 intro pins s σ H x y v u Q I rx ry h;obtain⟨p,xs,rfl,hq,fx,fs,q⟩:=h;cases ry;rcases hq with hq |hq
 ·obtain⟨its,r,pl,hz⟩:=I.list hq;refine SeqAt.notIn_listAt (eqU x) pl.isList (λ w hw=>mem_eqAt rx fx r fs w (by simpa using hw)) ⟨.bl _,H,I,rfl,?_⟩;rw[show its.toArray.any (eqU x)=its.any (eqU x) by simp,any_eqU r fs];exact q
 ·obtain⟨its,r,pl,hz⟩:=I.tuple hq;refine SeqAt.notIn_tupleAt (eqU x) pl (λ w hw=>mem_eqAt rx fx r fs w (by simpa using hw)) ⟨.bl _,H,I,rfl,?_⟩;rw[show its.toArray.any (eqU x)=its.any (eqU x) by simp,any_eqU r fs];exact q
theorem call_len_seq:CallR X (.builtin "len") (λ xs H Q=>∃p ys,xs=[.ref p]/\(SqL X.K H p ys\/SqT X.K H p ys)/\Q (.int ys.length) H):=by
 intro pins s σ H xs us Q I r h;obtain⟨p,ys,rfl,hq,q⟩:=h;obtain⟨u,rfl,rx⟩:=vals1 r;cases rx;have hn:=line63;rcases hq with hq |hq
 ·obtain⟨its,r',pl,hz⟩:=I.list hq;have hlen:=r'.length;exact Calls.call_len_list pl.isList (by simp only[List.size_toArray] <;> omega) ⟨.int ys.length,H,I.tok _,⟨s.toks+1,by rw[List.size_toArray,hlen]⟩,q⟩
 ·obtain⟨its,r',pl,hz⟩:=I.tuple hq;have hlen:=r'.length;exact len_tuple pl (by simp only[List.size_toArray] <;> omega) ⟨.int ys.length,H,I.tok _,⟨s.toks+1,by rw[List.size_toArray,hlen]⟩,q⟩
theorem call_tuple_of:CallR X (.type "tuple") (λ xs H Q=>∃p ys,xs=[.ref p]/\((SqL X.K H p ys/\∀l,H l=none->Q (.ref l) (upd H l (.tup ys)))\/(SqT X.K H p ys/\Q (.ref p) H))):=by
 intro pins s σ H xs us Q I r h;obtain⟨p,ys,rfl,h⟩:=h;obtain⟨u,rfl,rx⟩:=vals1 r;cases rx;rcases h with⟨hq,q⟩ |⟨hq,q⟩
 ·obtain⟨its,r',pl,hz⟩:=I.list hq;have hlen:=r'.length;refine call_tuple_list pl.isList (λ h' kp=>?_) (by simp only[List.size_toArray] <;> omega);have I1:Inv X pins σ H {s with heap:=h'}:=I.kept (t':=s.toks) kp;have I2:Inv X pins σ (upd H h'.objs.size (.tup ys)) {s with heap:=h'.push {cls:= .type "tuple",data:= .seq its.toArray}}:=
   I1.laid (t':=s.toks) (λ b o e=>Heap.get?_push_of_some _ e) (Nat.le_refl _) (show ObjOk X.prog X.w _ _ _ (.tup ys) from ⟨hz,its,r',IsTup.new _ _⟩)
  exact⟨.ref h'.objs.size,_,I2,rfl,q _ (I1.hok.fresh (Nat.le_refl _))⟩
 ·obtain⟨its,r',pl,hz⟩:=I.tuple hq;exact call_tuple_same pl ⟨.ref p,H,I,rfl,q⟩
noncomputable def tyV (K:PySem.W.Frag) (T:String) (x:V) (H:Hp):Prop:=match x with
 | .str _=>T= "str"
 | .int _=>T= "int"
 | .ref p=>(T= "list"/\∃xs,SqL K H p xs)\/(T= "tuple"/\∃o,K.lookup p=some o/\o.cls= .type "tuple"/\o.dict=none)\/
   (T= "dict"/\((∃kvs,H p=some (.dK kvs))\/∃kvs,H p=some (.dT kvs)))\/(T= "set"/\∃S n,H p=some (.set S n))
 |_=>False
theorem tyV_is {pins:List (Addr×Obj)} {σ:St} {H:Hp} {s:Shared} {T:String} {x:V} {v:Value} (I:Inv X pins σ H s) (r:RelV x v) (ty:tyV X.K T x H):
  s.TypeIs v T/\∀a,v= .ref a->∃ob,s.heap.get? a=some ob/\ob.dict=none:=by
 cases x with
 | str z=>
  obtain⟨t,rfl⟩:=r;cases (show T= "str" from ty);exact⟨typeIs_str s z t,λ _ e=>nomatch e⟩
 | int i=>
  obtain⟨t,rfl⟩:=r;cases (show T= "int" from ty);exact⟨typeIs_int s i t,λ _ e=>nomatch e⟩
 | ref p =>
  cases r;rcases ty with⟨rfl,xs,hq⟩ |⟨rfl,o,hk,hc,hd⟩ |⟨rfl,hk⟩ |⟨rfl,S,n,hk⟩
  ·obtain⟨its,_,pl,_⟩:=I.list hq;refine⟨pl.isList.typeIs,λ a e=>?_⟩;cases e;obtain⟨o,n,e,c,hd,_⟩:=pl;exact⟨o,e,hd⟩
  ·refine⟨⟨o,I.kIn p o hk,hc⟩,λ a e=>?_⟩;cases e;exact⟨o,I.kIn _ o hk,hd⟩
  ·have z:∃o,s.heap.get? p=some o/\o.ExactDict:=by
    rcases hk with⟨kvs,hk⟩ |⟨kvs,hk⟩
    ·obtain⟨_,_,_,_,o,_,_,e,ex,_⟩:=I.hok p _ hk;exact⟨o,e,ex⟩
    ·obtain⟨_,_,_,_,o,_,_,e,ex,_⟩:=I.hok p _ hk;exact⟨o,e,ex⟩
   obtain⟨o,e,ex⟩:=z;refine⟨⟨o,e,ex.1⟩,λ a e2=>?_⟩;cases e2;exact⟨o,e,ex.2.1⟩
  ·obtain⟨o,_,_,_,e,ex,_⟩:=I.hok p _ hk;refine⟨⟨o,e,ex.1⟩,λ a e2=>?_⟩;cases e2;exact⟨o,e,ex.2.1⟩
 |_=>exact False.elim ty
noncomputable def tBM (K:PySem.W.Frag) (T:String) (r:V->List V->Hp->VK->Prop) (to:TE) (t:TA):TE:=λ σ H Q=>to σ H λ x H1=>tyV K T x H1/\t σ H1 λ xs H2=>r x xs H2 Q
variable {o e:Expr} {es:List Expr} {to:TE} {t:TA} {name:Str} {apos cpos:Pos} {T id:String} {r:V->List V->Hp->VK->Prop}
theorem pe_bm (pa:PlainAttrs T) (slot:Slot T name id) (hty:typeOf (.builtin id)=pure (.type "method_descriptor")) (hm:MtR X id r) (ho:PE X o to) (ha:PA X (e::es) t)
  (hbase:attributeBase o name X.env (eval o X.env)=eval o X.env:=by rfl)
  (hfew:((backTo cpos (starEach (e::es) X.env)).all (λ x=> !x.1) && (backToKw cpos (keywordEach [] X.env)).all (λ x=>x.1.isSome)
   && decide ((e::es).length+([]:List Keyword).length+(if ([]:List Keyword).isEmpty then 0 else 1) < 30))=true:=by rfl)
  (hline:(apos.endLine ==cpos.line)=true:=by rfl) (hs:starEach (e::es) X.env=(false,eval e X.env)::starEach es X.env:=by rfl) (hplain:(backTo cpos (starEach es X.env)).any (·.1)=false:=by rfl):
  PE X (.Call (.Attribute o name apos) (e::es) [] cpos) (tBM X.K T r to t):=by
 intro pins s σ H Q I h;refine wpAny_Call_method_late hbase hfew hline rfl (thn (ho pins s σ H _ I h) λ v s1 bM=>?_);obtain⟨x,H1,I1,r1,ty,q1⟩:=bM;obtain⟨h1,h2⟩:=tyV_is I1 r1 ty;refine⟨T,id,pa,slot,hty,h1,h2,?_⟩;have hA:=ha cpos pins s1 σ H1 _ I1 q1;rw[hs] at hA |-;refine Calls.callWith_builtin (by show (false || (backTo cpos (starEach es X.env)).any (·.1))=false;rw[hplain] <;> rfl) (Calls.evalArgs_plain ?_);refine thn hA λ us s2 bM=>?_;obtain⟨vs,H2,I2,r2,q2⟩:=bM;exact hm pins s2 σ H2 x vs v us Q I2 r1 r2 q2
end
noncomputable def MtM (X:Cx) (id:String) (r:V->List V->Hp->VK->Prop):Prop:=
 ∀ (pins:List (Addr×Obj)) (s:Shared) (σ:St) (H:Hp) (x:V) (xs:List V) (v:Value) (us:List Value) (Q:VK),Inv X pins σ H s->RelV x v->Vals xs us->r x xs H Q->
  wpAny (model X.prog X.w) X.A (call (.builtin id) (v::us)) (EP X pins σ Q) X.xe s
theorem Vals.one:∀{x:V} {us:List Value},Vals [x] us->∃u,us=[u]/\RelV x u
 | _,_,h=>by
  cases h with
  |cons r t=>cases t;exact⟨_,rfl,r⟩
theorem Vals.rep {xs:List V} {us:List Value} (h:Vals xs us):∀k:Nat,Vals (List.replicate k xs).flatten (List.replicate k us).flatten
 |0=> .nil
 | k+1=>by
  rw[List.replicate_succ,List.replicate_succ,List.flatten_cons,List.flatten_cons];exact Vals.append h (Vals.rep h k)
theorem foldl_rep (its:List Value):∀(k:Nat) (acc:List Value),
  List.foldl (λ x1 x2=>x1++x2) acc.toArray (List.replicate k its.toArray)=(acc++(List.replicate k its).flatten).toArray
 |0,acc=>by simp
 | k +1,acc=>by
  have e:acc.toArray++its.toArray=(acc++its).toArray:=by simp
  have e2:(acc++its)++(List.replicate k its).flatten=acc++(List.replicate (k+1) its).flatten:=by
   rw[List.replicate_succ,List.flatten_cons,List.append_assoc]
  rw[<-e2,<-foldl_rep its k (acc++its),<-e,List.replicate_succ,List.foldl_cons]
section
variable {X:Cx} {pins:List (Addr×Obj)} {σ:St} {H:Hp} {s:Shared} {l b:Addr} {xs ys zs:List V}
theorem Inv.lset {its its':List Value} {n:Nat} {f:Array Value->Array Value} {t':Nat} (I:Inv X pins σ H s) (hH:H l=some (.lst xs))
  (e:s.heap.get? l=some {cls:= .type "list",data:= .seq its.toArray n}) (hf:f its.toArray=its'.toArray) (hv:Vals ys its') (hz:ys.length<=sizeLine):
  Inv X pins σ (upd H l (.lst ys)) {s with heap:=s.heap.update l (Obj.mapSeq f),toks:=t'}:=by
 have q:=PySem.IsL.update e f;rw[hf] at q;refine I.write (x:=l) (e:=l) (by rw[hH];exact trivial) (.inl rfl) (λ b' u hb hu=>(Heap.get?_update_other s.heap (Obj.mapSeq f) (Ne.symm hb)).trans hu) ⟨_,q⟩ ?_;exact⟨hz,its',_,hv,q⟩
theorem Inv.lnew {its:List Value} {t':Nat} (I:Inv X pins σ H s) (hv:Vals ys its) (hz:ys.length<=sizeLine):
  Inv X pins σ (upd H s.heap.objs.size (.lst ys)) {s with heap:=s.heap.push {cls:= .type "list",data:= .seq its.toArray},toks:=t'}:=
 I.laid (λ _ _ q=>Heap.get?_push_of_some _ q) (Nat.le_refl _) ⟨hz,its,0,hv,Heap.get?_push_size _ rfl⟩
theorem Inv.fresh (I:Inv X pins σ H s):H s.heap.objs.size=none:=I.hok.fresh (Nat.le_refl _)
theorem Inv.lstM (I:Inv X pins σ H s) (hH:H l=some (.lst xs)):xs.length<=sizeLine/\∃(its:List Value) (n:Nat),Vals xs its/\xs.length=its.length/\s.heap.get? l=some {cls:= .type "list",data:= .seq its.toArray n}:=by
 obtain⟨z,its,n,r,e⟩:=I.hok l _ hH;exact⟨z,its,n,r,r.length,e⟩
end
section
variable {X:Cx}
noncomputable def rAppend:V->List V->Hp->VK->Prop:=λ x vs H Q=>∃l xs y,x= .ref l/\vs=[y]/\H l=some (.lst xs)/\xs.length < sizeLine/\Q .non (upd H l (.lst (xs++[y])))
theorem mt_append:MtM X "list.append" rAppend:=by
 intro pins s σ H x vs v us Q I rx rv h;obtain⟨l,xs,y,rfl,rfl,hH,hz,q⟩:=h;cases rx;obtain⟨u,rfl,ru⟩:=rv.one;obtain⟨z,its,n,r,hl,e⟩:=I.lstM hH;refine call_meets F.slot_list_append ⟨_,e,rfl⟩ F.entry_list_append (F.args_list_append_2 _ _) (PySem.list_append l its.toArray n u (by rw[List.size_toArray];omega)) ⟨e,?_⟩;refine⟨.non,_,I.lset (its':=its++[u]) hH e (by simp) (r.append (.cons ru .nil)) ?_,rfl,q⟩;rw[List.length_append,List.length_singleton];omega
theorem len_rep {α:Type} (xs:List α) (k:Nat):(List.replicate k xs).flatten.length=k*xs.length:=by
 induction k with
 |zero=>simp
 |succ k ih=>rw[List.replicate_succ,List.flatten_cons,List.length_append,ih,Nat.succ_mul,Nat.add_comm]
end
section
variable {prog:Program} {w:World} {A:Around} {E:Value->Shared->Prop} {s:Shared}
end
section
variable {X:Cx}
end
section
variable {κ:Type} [DecidableEq κ]
end
section
variable {P:Program} {w:World} {H:Hp} {h:Heap} {a:Addr}
end
section
variable {X:Cx} {pins:List (Addr×Obj)} {σ:St} {H:Hp} {s:Shared} {a:Addr} {y v:V} {u r:Value} {o:Option V} {A:Around} {E:Value->Shared->Prop}
end
section
variable {X:Cx} {pins:List (Addr×Obj)} {σ:St} {H:Hp} {s:Shared} {a:Addr} {kvs:List (Key×V)} {k:Key} {u:Value} {A:Around} {E:Value->Shared->Prop}
end
section
variable {X:Cx} {o i e value:Expr} {pos pos' tpos:Pos} {td ty tv:TE}
end
section
variable {X:Cx} {pos:Pos}
end
section
variable {X:Cx} {pins:List (Addr×Obj)} {σ:St} {H:Hp} {s:Shared} {a:Addr} {y d:V} {u r:Value} {o:Option V} {A:Around} {E:Value->Shared->Prop}
end
section
variable {X:Cx} {o e f:Expr} {apos cpos:Pos} {td ty tx:TE}
end
section
variable {X:Cx} {pins:List (Addr×Obj)} {σ:St} {H:Hp} {s:Shared} {a:Addr} {kvs:List (Key×V)} {A:Around} {E:Value->Shared->Prop}
end
section
variable {X:Cx} {pins:List (Addr×Obj)} {σ:St} {H:Hp} {s:Shared} {a:Addr} {y:V} {u:Value} {A:Around} {E:Value->Shared->Prop}
end
end L2
namespace Att
open PySem PySem.W PySem.Calls PyProof.Rows
theorem ints_of_wellAll {P:Params} {h:Heap}:∀(ns:List Int) (vs:List Value),WellAll P h vs (ns.map WData.int)->IntsAre vs ns:=by
 intro ns
 induction ns with
 | nil=>
  intro vs w;rw[List.map_nil] at w;cases w;exact .nil
 | cons n ns ih=>
  intro vs w;rw[List.map_cons] at w;cases w with
  | cons a b=>
   cases a;exact .cons _ _ (ih _ b)
theorem script_of {l:OpenLaw} {n:Nat} (hn:l.most=some n) {P:Params} {h:Heap} {args:List WData} {vals:List Value}
  (hpre:l.row.toRowW.claim.pre args=true) (hwl:WellAll P h vals args):
  ∃a vs ns,vals=[Value.ref a]/\args=[WData.list (ns.map WData.int)]/\h.get? a=some {cls:= .type "list",data:= .seq vs.toArray}/\IntsAre vs ns/\ns.length<=n:=by
 have hsh:WShape.hasAll [] args [.list .int]=true:=(pre_splitW hpre).1;have hc:l.pre.holds [] {args:=args}=true:=(pre_splitW hpre).2;obtain⟨d,r,rfl,h1,h2⟩:=hasAllW_cons hsh;obtain rfl:=hasAllW_nil h2;obtain⟨xs,rfl,h3⟩:=hasW_list h1;obtain⟨ns,rfl⟩:=items_int h3;have hlen:ns.length<=n:=by
  unfold OpenLaw.pre at hc;have h4:(WTm.not (.lt (.lit (.int (n:Int))) (.len (.arg 0)))).holds [] {args:=[.list (ns.map .int)]}=true:=by
   have h4:=(holds_andW hc).1;rw[hn] at h4;exact h4
  have h5:=condW_of h4 (w_not (w_lt w_lit (w_len_list (w_arg rfl))));rw[List.length_map] at h5;refine Nat.le_of_not_lt λ q=>?_;have q':(n:Int) < ((ns.length:Nat):Int):=by omega
  first
   |(rw[decide_eq_true q'] at h5;exact absurd h5 (by decide))
   |(simp at h5;omega)
 cases hwl with
 | cons w1 w2=>
  cases w2;cases w1 with
  |list ho hall=>exact⟨_,_,ns,rfl,rfl,ho,ints_of_wellAll ns _ hall,hlen⟩
theorem post_true (l:OpenLaw) (args:List WData):l.row.toRowW.claim.post args (.bool true) args=true:=
 postW_of (r:=l.row.toRowW) (X:=(true ==true))
  (show WShape.has [] (.bool true) .bool=true by first |rfl |decide |simp [WShape.has,WShape.arms,WShape.armsAll])
  (show (WTm.eq .res (.lit (.bool true))).value [] {args:=args,res:=some (.bool true),after:=args}=some (.bool (true ==true)) from w_eq_bool (w_res rfl) w_lit) rfl
theorem attach_call {l:OpenLaw} {n:Nat} {q:Program} {loose:List Str} {XP:(Str->Option Value)->Heap->Prop} {YP:World->Heap->Prop} {d:DefRec}
  (hn:l.most=some n) (hdf:d.params.defaults=[])
  (call:∀(w:World) (s₀ s₁:Shared) (mg mb:Str->Option Value) (fa:Addr) (o:Obj) (pm cd doc:Value) (a:Addr) (vs:List Value) (ns:List Int),
   Ground q loose [] XP w s₀ mg mb s₁.heap->YP w s₁.heap->
   s₁.heap.get? fa=some o->o.data= .func (docDef d.name d.params d.body d.scope pm cd doc)->s₁.heap.CodeRec cd d.name->mg d.name=some (.ref fa)->
   s₁.heap.get? a=some {cls:= .type "list",data:= .seq vs.toArray}->IntsAre vs ns->ns.length<=n->s₁.gens= #[]->
   codeAny (model l.prog w) callerA (.call (.ref fa) ⟨[.ref a],[]⟩) (λ r s'=>r= .ok (.ret (.bool true))/\OldK s₁.heap s'.heap/\s'.os=s₁.os/\AllBare s'.gens) s₁):
  WalkO q loose XP YP l.row.toRowW d [] (λ f vs=>PySem.call f vs):=by
 intro w s₀ s₁ mg mb G Y fa o pm cd doc dV kV ho hd hcd hD hmg hg args vals as hpre hlay hrd hwl hlo;obtain rfl:dV= .none:=Dflts.none hD hdf;obtain rfl:kV= .none:=Dflts.noKw hD;obtain⟨a,vs,ns,rfl,rfl,hobj,hints,hlen⟩:=script_of hn hpre hwl;refine enter_call (codeAny_mono (call w s₀ s₁ mg mb fa o pm cd doc a vs ns G Y ho (fd_plain hd) hcd hmg hobj hints hlen hg) λ r s' hq=>?_);obtain⟨rfl,h2,h3,h4⟩:=hq;exact⟨.inl ⟨.bool true,.bool true,[],rfl,λ _=>rfl,.bool true,post_true l _,λ _=>⟨List.Pairwise.nil,λ _ hm=>(nomatch hm)⟩⟩,h2,h3,h4⟩
section
variable {prog:Program} {w:World} {A:Around} {E:Value->Shared->Prop} {s:Shared} {K:Frag}
end
end Att
namespace L2
open PySem PySem.Spec PyProof.Rows
theorem vals_ints:∀{vs:List Value} {ns:List Int},IntsAre vs ns->Vals (ns.map V.int) vs
 :=by
 intro vs ns h
 induction h with
 |nil=>exact .nil
 |cons n t h ih=>exact .cons ⟨t,rfl⟩ ih
noncomputable def Only (H:Hp):Prop:=∀b,H b=none\/∃o xs,H b=some (.frz o (.lst xs))
theorem law_call {P:Program} {w:World} {K:PySem.W.Frag} {mg mb:Str→Option Value} {CX:CXT} {k:Nat} {fa a:Addr} {fd:FuncData} {x:Str} {sp:Sp} {s₁:Shared} {vs:List Value} {ns:List Int}
    (KX:K.In s₁.heap) (hns:s₁.heap.Ns mainGlobals mg) (hb:s₁.heap.Ns builtinsNs mb) (hbb:∀x:Str,x≠"__name__"→mb x=bootBuiltins x) (hlim:s₁.heap.NoLimit) (hg:s₁.gens= #[])
    (ha:s₁.heap.get? a=some {cls:= .type "list",data:= .seq vs.toArray}) (hi:IntsAre vs ns) (hl:ns.length≤sizeLine) (hr:Room k callerA)
    (F:∀base:Heap,K.In base→base.Ns mainGlobals mg→FnOk P w K mg base CX k fa fd [x] sp) (hbind:∀(s:Shared) (u:Value),BindsTo s fd ⟨[u],[]⟩ [(x,u)])
    (hsp:∀H:Hp,Only H→SqL K H a (ns.map V.int)→sp [.ref a] H (fun v _=>v= .bl true) fun _ _ _=>False)
    (hCX:∀H e s',CX [] H s₁ (fun _ _ _=>False) e s'→False):
    codeAny (model P w) callerA (.call (.ref fa) ⟨[.ref a],[]⟩) (fun r s'=>r= .ok (.ret (.bool true))∧OldK s₁.heap s'.heap∧s'.os=s₁.os∧AllBare s'.gens) s₁:=by
  have rv:=vals_ints hi
  have lenV:=hi.length
  have core :∀H:Hp,Only H→SqL K H a (ns.map V.int)→HOk P w H s₁.heap→(∀b,H b≠none→b=a)→(H a≠none→K.lookup a=none)→
      codeAny (model P w) callerA (.call (.ref fa) ⟨[.ref a],[]⟩) (fun r s'=>r= .ok (.ret (.bool true))∧OldK s₁.heap s'.heap∧s'.os=s₁.os∧AllBare s'.gens) s₁:=by
    intro H hO hS hok hA hK
    have base_of:∀{b:Addr} {o:Obj},s₁.heap.get? b=some o→H b=none→(hidT s₁.heap H).get? b=some o:=fun e n=>hidT_get e n
    have noA:∀{b:Addr} {o:Obj} {es:Array DictEntry} {ep:Nat},s₁.heap.get? b=some o→o.data= .dict es ep→H b=none:=fun {b o es ep} e d=>by
      cases q:H b with
      |none=>rfl
      | some u=>
        have e':b=a:=hA b (by rw[q];simp)
        subst e'
        rw[ha] at e;cases e
        have d':Data.seq vs.toArray _=Data.dict es ep:=d
        cases d'
    have nsK:∀{b:Addr} {m:Str→Option Value},s₁.heap.Ns b m→(hidT s₁.heap H).Ns b m:=fun {b m} ⟨o,es,ep,e,d,r⟩=>⟨o,es,ep,base_of e (noA e d),d,r⟩
    have hKb:K.In (hidT s₁.heap H):=fun b o e=>base_of (KX b o e) (by
      cases q:H b with
      |none=>rfl
      | some u=>
        have e':b=a:=hA b (by rw[q];simp)
        subst e'
        rw[hK (by rw[q];simp)] at e;cases e)
    have hM:Mod K mg (hidT s₁.heap H):=⟨hKb,nsK hns,⟨mb,nsK hb,hbb⟩,let ⟨mc,h1,h2⟩:=hlim;⟨mc,nsK h1,h2⟩⟩
    have e0:Env0 P w K mg (hidT s₁.heap H) callerA [] s₁ H:=⟨rfl,hM,fun b o e=>of_hidT e,Nat.le_of_eq (hidT_size _ _),trivial,fun b hb=>absurd (show b∈([]:List Addr) from hb) (by simp),hok,.of_eq hg⟩
    refine codeAny_mono ((F _ hKb (nsK hns)).run callerA [] s₁ H ⟨[.ref a],[]⟩ [.ref a] [.ref a] _ _ hr e0 (hbind s₁ (.ref a)) (.cons rfl .nil) (hsp H hO hS)) fun r s' h=>?_
    cases r with
    |error e=>exact (hCX H e s' h).elim
    | ok fl =>
      cases fl with
      |next=>exact False.elim h
      |brk=>exact False.elim h
      |cont=>exact False.elim h
      | ret u=>
        obtain⟨v,H',os,bare,un,hok',r',q⟩:=h
        have q':v= .bl true:=q
        subst q'
        obtain rfl:u=Value.bool true:=r'
        refine⟨rfl,OldK.of_keep fun b o e=>?_,os,bare⟩
        cases q:H b with
        |none=>exact un.keep b o e q (by intro z;exact absurd (show b∈([]:List Addr) from z) (by simp)) (by simp)
        | some u=>
          rcases hO b with z |⟨ob,xs,z⟩
          · rw[q] at z;cases z
          · have z2:=un.frzs b ob _ z
            obtain⟨e1,_⟩:=hok b _ z
            obtain⟨e2,_⟩:=hok' b _ z2
            rw[e] at e1;cases e1
            exact e2
  cases hk:K.lookup a with
  | some o=>
    have e:=KX a o hk
    rw[ha] at e
    cases e
    refine core (fun _=>none) (fun _=> .inl rfl) (.inr ⟨_,vs.toArray,_,hk,rfl,rfl,rfl,by rw[List.size_toArray,lenV];exact hl,by simpa using rv⟩) (fun b u z=>by have z':(none:Option HO)=some u:=z;cases z') (fun b z=>absurd rfl z) fun z=>absurd rfl z
  | none=>
    refine core (fun b=>if b=a then some (.frz {cls:= .type "list",data:= .seq vs.toArray} (.lst (ns.map V.int))) else none) (fun b=>?_) (.inl (.inr ⟨{cls:= .type "list",data:= .seq vs.toArray},if_pos rfl⟩)) (fun b u z=>?_) (fun b z=>?_) fun _=>hk
    · by_cases hb:b=a
      · exact .inr ⟨_,_,if_pos hb⟩
      · exact .inl (if_neg hb)
    · by_cases hb:b=a
      · have z':=(if_pos hb).symm.trans z
        cases z'
        subst hb
        exact⟨ha,by rw[List.length_map];exact hl,vs,_,rv,ha⟩
      · have z':=(if_neg hb).symm.trans z
        cases z'
    · by_cases hb:b=a
      · exact hb
      · exact absurd (if_neg hb) z
theorem walk_of {l:PySem.W.OpenLaw} {n k:Nat} {q:Program} {loose:List Str} {XP:(Str->Option Value)->Heap->Prop} {YP:World->Heap->Prop} {d:DefRec} {K:Params->PySem.W.Frag} {CX:World->CXT} {sp:World->Sp} {x:Str}
  (hn:l.most=some n) (hn2:n<=sizeLine) (hdf:d.params.defaults=[]) (hr:Room k callerA)
  (hY:∀(w:World) (h:Heap),YP w h->(K w.params).In h)
  (F:∀(w:World) (mg:Str->Option Value) (fa:Addr) (h:Heap),(K w.params).In h->h.Ns mainGlobals mg->mg d.name=some (.ref fa)->
   ∃ fd:FuncData,(∀(s:Shared) (u:Value),BindsTo s fd ⟨[u],[]⟩ [(x,u)])/\
    ∀base:Heap,(K w.params).In base->base.Ns mainGlobals mg->FnOk l.prog w (K w.params) mg base (CX w) k fa fd [x] (sp w))
  (hsp:∀(w:World) (H:Hp) (a:Addr) (ns:List Int),ns.length<=n->Only H->SqL (K w.params) H a (ns.map V.int)->sp w [.ref a] H (λ v _=>v= .bl true) λ _ _ _=>False)
  (hCX:∀(w:World) (H:Hp) (s:Shared) (e:Value) (s':Shared),CX w [] H s (λ _ _ _=>False) e s'->False):
  PySem.W.WalkO q loose XP YP l.row.toRowW d [] (λ f vs=>PySem.call f vs):=by
 refine Att.attach_call hn hdf λ w s₀ s₁ mg mb fa o pm cd doc a vs ns G Y ho hd hcd hmg hobj hints hlen hg=>?_;have KX:=hY w _ Y;obtain⟨fd,hb,hF⟩:=F w mg fa _ KX G.T.g hmg;exact law_call KX G.T.g G.T.b G.T.builtins G.T.nolimit hg hobj hints (Nat.le_trans hlen hn2) hr hF hb (λ H hO hS=>hsp w H a ns hlen hO hS) λ H e s'=>hCX w H s₁ e s'
noncomputable def defArgs (s:Stmt):Arguments:=match s with
 | .FunctionDef _ a _ _ _ _ _ _ _ _=>a
 |_=>{posonlyargs:=[],args:=[],vararg:=none,kwonlyargs:=[],kw_defaults:=[],kwarg:=none,defaults:=[]}
noncomputable def defBody (s:Stmt):List Stmt:=match s with
 | .FunctionDef _ _ b _ _ _ _ _ _ _=>b
 |_=>[]
noncomputable def defScope (s:Stmt):Scope:=match s with
 | .FunctionDef _ _ _ _ _ _ sc _ _ _=>sc
 |_=>{kind:= .function,names:=[],isGenerator:=false,isCoroutine:=false}
noncomputable abbrev CX0:CXT:=λ _ _ _ _ _ _=>False
noncomputable abbrev E0:XK:=λ _ _ _=>False
theorem pass0 {X:Cx}:Passes CX0 X E0:=λ _ _ _ _ _ _ _ h=>h.elim
inductive abz (K:PySem.W.Frag) (x qual:Str) (st:Stmt) (f:Addr) (fd:FuncData):Prop
 |mk (oc:Value) (od:Option Addr) (kV doc pm:Value) (an:Option Addr) (cdv ct:Value) (osl:Array (Option Value)) (e:fd=PySem.W.fnOf x qual (defArgs st) (defBody st) (defScope st) .none kV doc pm an cdv ct) (lk:K.lookup f=some ⟨oc,od,.func fd,osl⟩) (hcd:PySem.W.codeIn K cdv qual=true):abz K x qual st f fd
structure Fun (K:PySem.W.Frag) (x qual:Str) (st:Stmt) (f:Addr) (fd:FuncData):Prop where
 ex:abz K x qual st f fd
 kp:PySem.W.keepIn K (.ref f)=true
section
variable {P:Program} {w:World} {K:PySem.W.Frag} {mg:Str->Option Value} {base:Heap}
theorem Fun.ok {x qual:Str} {st:Stmt} {f:Addr} {fd:FuncData} {N ps:List Str} {k:Nat} {sp:Sp} (F:Fun K x qual st f fd) (S:FnScope N ps (defScope st)) (len:∀vs H Q E,sp vs H Q E->vs.length=ps.length)
  (hbody:∀(cdv:Value) (A:Around) (outer:List Env) (s:Shared) (H:Hp) (vs:List V) (Q:VK) (E:XK),Room k (A.deeper (envOfC qual (defScope st) s.heap.objs.size f cdv))->sp vs H Q E->
   ∃t,PSs (cxOf CX0 P w K mg base N qual (defScope st) f cdv A outer s H E).nox (defBody st) t/\t {nx:=λ _ H'=>Q .non H',rt:=Q} (start N vs) H):FnOk P w K mg base CX0 (k+1) f fd ps sp:=by
 obtain⟨oc,od,kV,doc,pm,an,cdv,ct,osl,rfl,lk,hcd⟩:=F.ex;refine fn_of lk hcd S len λ A outer s H vs Q E hr hsp=>?_;obtain⟨t,h,q⟩:=hbody cdv A outer s H vs Q E hr hsp;exact⟨t,h.nox,q⟩
theorem Fun.binds {x qual:Str} {st:Stmt} {f:Addr} {fd:FuncData} {ps:List Str} (F:Fun K x qual st f fd)
  (h:∀(kV doc pm:Value) (an:Option Addr) (cdv ct:Value) (us:List Value),us.length=ps.length->bindArgs (PySem.W.fnOf x qual (defArgs st) (defBody st) (defScope st) .none kV doc pm an cdv ct) ⟨us,[]⟩=pure (ps.zip us)):Binds K fd ps []:=by
 obtain⟨oc,od,kV,doc,pm,an,cdv,ct,osl,rfl,lk,hcd⟩:=F.ex;exact .all (h kV doc pm an cdv ct)
theorem fun_mk {x qual:Str} {st:Stmt} {f:Addr} {oc:Value} {od an:Option Addr} {osl:Array (Option Value)} {kV doc pm cdv ct:Value} (l:K.lookup f=some ⟨oc,od,.func (PySem.W.fnOf x qual (defArgs st) (defBody st) (defScope st) .none kV doc pm an cdv ct),osl⟩)
  (c:PySem.W.codeIn K cdv qual=true) (k:PySem.W.keepIn K (.ref f)=true):Fun K x qual st f (PySem.W.fnOf x qual (defArgs st) (defBody st) (defScope st) .none kV doc pm an cdv ct):=⟨⟨oc,od,kV,doc,pm,an,cdv,ct,osl,rfl,l,c⟩,k⟩
end
section
variable {X:Cx}
end
noncomputable def Same (H H':Hp):Prop:=∀b o,H b=some o->H' b=some o
theorem Same.refl (H:Hp):Same H H:=λ _ _ h=>h
theorem Same.trans {H H1 H2:Hp} (a:Same H H1) (b:Same H1 H2):Same H H2:=λ c o h=>b c o (a c o h)
theorem Same.free {H H':Hp} (e:Same H H') {l:Addr} (h:H' l=Option.none):H l=Option.none:=by
 cases q:H l with
 |none=>rfl
 | some o=>
  rw[e l o q] at h;cases h
section
variable {κ:Type} [DecidableEq κ]
end
end L2
namespace Pu
open PySem PySem.Spec L2
open PyProof.Rows hiding St
inductive D where
 |non |bl (b:Bool) |int (i:Int) |str (x:Str) |tup (xs:List D) |lst (xs:List D)
inductive R (α:Type) where
 |bad |ok (a:α) |err (c:Str)
namespace R
noncomputable def bind {α β:Type} (r:R α) (k:α->R β):R β:=match r with
 | .ok a=>k a
 | .err c=> .err c
 | .bad=> .bad
@[simp] theorem bh {α β:Type} (a:α) (k:α->R β):(R.ok a).bind k=k a:=rfl
end R
mutual
noncomputable def Rep (K:PySem.W.Frag) (O:Addr->Prop) (H:Hp):D->V->Prop
 | .non,v=>v= .non
 | .bl b,v=>v= .bl b
 | .int i,v=>v= .int i
 | .str x,v=>v= .str x
 | .tup ds,v=>∃a xs,v= .ref a/\SqT K H a xs/\aU K O H ds xs
 | .lst ds,v=>∃a xs,v= .ref a/\SqL K H a xs/\¬O a/\aU K O H ds xs
noncomputable def aU (K:PySem.W.Frag) (O:Addr->Prop) (H:Hp):List D->List V->Prop
 |[],xs=>xs=[]
 |d::ds,xs=>∃x r,xs=x::r/\Rep K O H d x/\aU K O H ds r
end
structure Ext (O:Addr->Prop) (H H':Hp):Prop where
 tup:∀b xs,Rd H b (.tup xs)->Rd H' b (.tup xs)
 lst:∀b xs,¬O b->Rd H b (.lst xs)->Rd H' b (.lst xs)
section
variable {K:PySem.W.Frag} {O O':Addr->Prop} {H H':Hp}
theorem SqL.ext (e:Ext O H H') {a:Addr} {xs:List V} (n:¬O a) (h:SqL K H a xs):SqL K H' a xs:=by
 rcases h with h |h
 ·exact .inl (e.lst _ _ n h)
 ·exact .inr h
theorem SqT.ext (e:Ext O H H') {a:Addr} {xs:List V} (h:SqT K H a xs):SqT K H' a xs:=by
 rcases h with h |h
 ·exact .inl (e.tup _ _ h)
 ·exact .inr h
mutual
theorem Rep.ext (e:Ext O H H') (o:∀b xs,¬O b->SqL K H b xs->¬O' b):∀(d:D) (v:V),Rep K O H d v->Rep K O' H' d v
 | .non,_,h=>by simpa only[Rep] using h
 | .bl _,_,h=>by simpa only[Rep] using h
 | .int _,_,h=>by simpa only[Rep] using h
 | .str _,_,h=>by simpa only[Rep] using h
 | .tup ds,v,h=>by
  simp only[Rep] at h |-;obtain⟨a,xs,e1,h1,h2⟩:=h;exact⟨a,xs,e1,SqT.ext e h1,aU.ext e o ds xs h2⟩
 | .lst ds,v,h=>by
  simp only[Rep] at h |-;obtain⟨a,xs,e1,h1,h2,h3⟩:=h;exact⟨a,xs,e1,SqL.ext e h2 h1,o _ _ h2 h1,aU.ext e o ds xs h3⟩
theorem aU.ext (e:Ext O H H') (o:∀b xs,¬O b->SqL K H b xs->¬O' b):∀(ds:List D) (xs:List V),aU K O H ds xs->aU K O' H' ds xs
 |[],xs,h=>by simpa only[aU] using h
 | d::ds,xs,h=>by
  simp only[aU] at h |-;obtain⟨x,r,e1,h1,h2⟩:=h;exact⟨x,r,e1,Rep.ext e o d x h1,aU.ext e o ds r h2⟩
end
end
structure fU (K:PySem.W.Frag) (O:Addr->Prop) (H:Hp) (O':Addr->Prop) (H':Hp):Prop where
 ext:Ext O H H'
 new:∀a,O' a->O a\/(H a=none/\K.lookup a=none)
 dom:∀a,H' a=none->H a=none
section
variable {K:PySem.W.Frag} {O O1 O2:Addr->Prop} {H H1 H2:Hp}
theorem Rd.some {a:Addr} {u:HO} (h:Rd H a u):H a≠none:=by
 rcases h with h |⟨o,h⟩ <;> rw[h] <;> simp
theorem fU.out (r:fU K O H O1 H1) (b:Addr) (xs:List V) (n:¬O b) (h:SqL K H b xs):¬O1 b:=λ z=>by
 rcases r.new b z with z |⟨z1,z2⟩
 ·exact n z
 ·rcases h with h |⟨o,_,_,h,_⟩
  ·exact Rd.some h z1
  ·rw[z2] at h;cases h
theorem fU.refl:fU K O H O H:=⟨⟨λ _ _ h=>h,λ _ _ _ h=>h⟩,λ _ h=> .inl h,λ _ h=>h⟩
theorem fU.trans (r:fU K O H O1 H1) (q:fU K O1 H1 O2 H2):fU K O H O2 H2 where
 ext:=⟨λ b xs h=>q.ext.tup b xs (r.ext.tup b xs h),λ b xs n h=>q.ext.lst b xs (r.out b xs n (.inl h)) (r.ext.lst b xs n h)⟩
 new:=λ a z=>(q.new a z).elim (r.new a) λ w=> .inr ⟨r.dom a w.1,w.2⟩
 dom:=λ a z=>r.dom a (q.dom a z)
theorem Same.rd (s:Same H H1) {a:Addr} {u:HO} (h:Rd H a u):Rd H1 a u:=by
 rcases h with h |⟨o,h⟩
 ·exact .inl (s _ _ h)
 ·exact .inr ⟨o,s _ _ h⟩
theorem Same.fD (s:Same H H1):fU K O H O H1:=⟨⟨λ _ _ h=>Same.rd s h,λ _ _ _ h=>Same.rd s h⟩,λ _ h=> .inl h,λ _ h=>s.free h⟩
theorem Rep.go (r:fU K O H O1 H1) {d:D} {v:V} (h:Rep K O H d v):Rep K O1 H1 d v:=Rep.ext r.ext r.out d v h
theorem aU.go (r:fU K O H O1 H1) {d:List D} {v:List V} (h:aU K O H d v):aU K O1 H1 d v:=aU.ext r.ext r.out d v h
theorem Rep.same (s:Same H H1) {d:D} {v:V} (h:Rep K O H d v):Rep K O H1 d v:=h.go (Same.fD s)
theorem aU.same (s:Same H H1) {d:List D} {v:List V} (h:aU K O H d v):aU K O H1 d v:=h.go (Same.fD s)
theorem Rep.fewer (w:∀a,O1 a->O a) {d:D} {v:V} (h:Rep K O H d v):Rep K O1 H d v:=Rep.ext ⟨λ _ _ h=>h,λ _ _ _ h=>h⟩ (λ b _ n _ z=>n (w b z)) d v h
theorem aU.fewer (w:∀a,O1 a->O a) {d:List D} {v:List V} (h:aU K O H d v):aU K O1 H d v:=aU.ext ⟨λ _ _ h=>h,λ _ _ _ h=>h⟩ (λ b _ n _ z=>n (w b z)) d v h
theorem aU.nil:aU K O H [] []:=by simp only[aU]
theorem aU.cons {d:D} {v:V} {ds:List D} {vs:List V} (h:Rep K O H d v) (t:aU K O H ds vs):aU K O H (d::ds) (v::vs):=by simp only[aU];exact⟨v,vs,rfl,h,t⟩
theorem aU.cons_inv {d:D} {ds:List D} {vs:List V} (h:aU K O H (d::ds) vs):∃x r,vs=x::r/\Rep K O H d x/\aU K O H ds r:=by simpa only[aU] using h
theorem aU.nil_inv {vs:List V} (h:aU K O H [] vs):vs=[]:=by simpa only[aU] using h
theorem aU.length:∀{ds:List D} {vs:List V},aU K O H ds vs->ds.length=vs.length
 |[],vs,h=>by rw[h.nil_inv];rfl
 | d::ds,vs,h=>by
  obtain⟨x,r,rfl,_,t⟩:=h.cons_inv;simp[aU.length t]
theorem aU.get:∀{ds:List D} {vs:List V} {i:Nat} {d:D},aU K O H ds vs->ds[i]?=some d->∃v,vs[i]?=some v/\Rep K O H d v
 |[],_,_,_,_,e=>by simp at e
 | d::ds,vs,i,d',h,e=>by
  obtain⟨x,r,rfl,h1,t⟩:=h.cons_inv;cases i with
  |zero=>simp at e;subst e;exact⟨x,rfl,h1⟩
  |succ i=>simpa using aU.get t (i:=i) (by simpa using e)
theorem aU.ao {ds:List D} {vs:List V} {i:Nat} {v:V} (h:aU K O H ds vs) (e:vs[i]?=some v):∃d,ds[i]?=some d/\Rep K O H d v:=by
 have hl:=h.length;have hi:i < ds.length:=by rw[hl];exact (List.getElem?_eq_some_iff.mp e).1
 obtain⟨v',e',r⟩:=h.get (i:=i) (d:=ds[i]) (by simp[hi]);rw[e] at e';cases e';exact⟨_,by simp[hi],r⟩
theorem aU.append:∀{ds es:List D} {vs ws:List V},aU K O H ds vs->aU K O H es ws->aU K O H (ds++es) (vs++ws)
 |[],_,vs,_,h,t=>by rw[h.nil_inv];exact t
 | d::ds,es,vs,ws,h,t=>by
  obtain⟨x,r,rfl,h1,h2⟩:=h.cons_inv;exact .cons h1 (aU.append h2 t)
theorem aU.reverse:∀{ds:List D} {vs:List V},aU K O H ds vs->aU K O H ds.reverse vs.reverse
 |[],vs,h=>by rw[h.nil_inv];exact .nil
 | d::ds,vs,h=>by
  obtain⟨x,r,rfl,h1,h2⟩:=h.cons_inv;simp only[List.reverse_cons];exact h2.reverse.append (.cons h1 .nil)
theorem aU.drop:∀{ds:List D} {vs:List V} (n:Nat),aU K O H ds vs->aU K O H (ds.drop n) (vs.drop n)
 |_,_,0,h=>h
 |[],vs,n+1,h=>by rw[h.nil_inv];exact .nil
 | d::ds,vs,n+1,h=>by
  obtain⟨x,r,rfl,h1,h2⟩:=h.cons_inv;exact h2.drop n
theorem aU.take:∀{ds:List D} {vs:List V} (n:Nat),aU K O H ds vs->aU K O H (ds.take n) (vs.take n)
 |_,_,0,_=>by simpa using aU.nil
 |[],vs,n+1,h=>by rw[h.nil_inv];exact .nil
 | d::ds,vs,n+1,h=>by
  obtain⟨x,r,rfl,h1,h2⟩:=h.cons_inv;exact .cons h1 (h2.take n)
theorem Rep.int {i:Int} {v:V} (h:Rep K O H (.int i) v):v= .int i:=by simpa only[Rep] using h
theorem Rep.bl {b:Bool} {v:V} (h:Rep K O H (.bl b) v):v= .bl b:=by simpa only[Rep] using h
theorem Rep.non {v:V} (h:Rep K O H .non v):v= .non:=by simpa only[Rep] using h
theorem Rep.str {x:Str} {v:V} (h:Rep K O H (.str x) v):v= .str x:=by simpa only[Rep] using h
theorem Rep.tup {ds:List D} {v:V} (h:Rep K O H (.tup ds) v):∃a xs,v= .ref a/\SqT K H a xs/\aU K O H ds xs:=by simpa only[Rep] using h
theorem Rep.lst {ds:List D} {v:V} (h:Rep K O H (.lst ds) v):∃a xs,v= .ref a/\SqL K H a xs/\¬O a/\aU K O H ds xs:=by simpa only[Rep] using h
theorem cJ (i:Int):Rep K O H (.int i) (.int i):=by simp only[Rep]
theorem fG (b:Bool):Rep K O H (.bl b) (.bl b):=by simp only[Rep]
theorem pF:Rep K O H .non .non:=by simp only[Rep]
theorem Cj (x:Str):Rep K O H (.str x) (.str x):=by simp only[Rep]
theorem gU {ds:List D} {a:Addr} {xs:List V} (h:SqT K H a xs) (r:aU K O H ds xs):Rep K O H (.tup ds) (.ref a):=by simp only[Rep];exact⟨a,xs,rfl,h,r⟩
theorem sY {ds:List D} {a:Addr} {xs:List V} (h:SqL K H a xs) (n:¬O a) (r:aU K O H ds xs):Rep K O H (.lst ds) (.ref a):=by simp only[Rep];exact⟨a,xs,rfl,h,n,r⟩
end
inductive Ob where
 |exc (c:Str) |fn (a:Addr)
inductive Ent where
 |val (d:D) |lst (ds:List D) |zm (kvs:List (Key×D)) |obj (t:Ob)
noncomputable def Ent.own:Ent->Bool
 | .val _=>false
 | .obj _=>false
 |_=>true
noncomputable def Ent.Tr:Ent->Bool
 | .val _=>true
 |_=>false
theorem abU {e:Ent} (h:e.Tr=true):e.own=false:=by cases e <;> first |rfl |cases h
noncomputable abbrev aA:=List (Option Ent)
noncomputable def afv (K:PySem.W.Frag) (O:Addr->Prop) (H:Hp) (kvs:List (Key×D)) (ys:List (Key×V)):Prop:=kvs.map (·.1)=ys.map (·.1)/\aU K O H (kvs.map (·.2)) (ys.map (·.2))
noncomputable def pG (K:PySem.W.Frag) (H:Hp):Ob->V->Prop
 | .exc c,v=>∃a o C,v= .ref a/\H a=some (.frz o (.own a))/\o.cls= .ref C/\o.dict=none/\(∃vs,o.data= .fields vs)/\PySem.W.nsIn K mainGlobals c=some (some (.ref C))
 | .fn a,v=>v= .ref a/\∃o fd,H a=some (.frz o (.own a))/\o.data= .func fd
noncomputable def rK (K:PySem.W.Frag) (O:Addr->Prop) (H:Hp):Ent->V->Prop
 | .val d,v=>Rep K O H d v
 | .lst ds,v=>∃a xs,v= .ref a/\O a/\H a=some (.lst xs)/\aU K O H ds xs
 | .zm kvs,v=>∃a ys,v= .ref a/\O a/\H a=some (.dK ys)/\afv K O H kvs ys
 | .obj t,v=>pG K H t v
structure Env (K:PySem.W.Frag) (O:Addr->Prop) (H:Hp) (ρ:aA) (σ:St):Prop where
 get:∀(i:Nat) e,ρ[i]?=some (some e)->∃v,σ[i]?=some (some v)/\rK K O H e v
 sep:∀(i j:Nat) e e' v,i≠j->ρ[i]?=some (some e)->ρ[j]?=some (some e')->e.own=true->e'.own=true->σ[i]?=some (some v)->σ[j]?=some (some v)->False
structure In (X:Cx) (O:Addr->Prop) (H:Hp) (ρ:aA) (σ:St):Prop where
 env:Env X.K O H ρ σ
 al:∀a,O a->∃o,H a=some o
 len:σ.length=X.N.length
 nF:ρ.length=X.N.length
section
variable {X:Cx} {O:Addr->Prop} {H H1:Hp} {ρ:aA} {σ:St} {K:PySem.W.Frag}
theorem pG.fz (s:∀b o u,H b=some (.frz o u)->H1 b=some (.frz o u)):∀{t:Ob} {v:V},pG K H t v->pG K H1 t v
 | .exc _,_,z=>by
  obtain⟨a,o,C,e,h,q,n⟩:=z;exact⟨a,o,C,e,s _ _ _ h,q,n⟩
 | .fn _,_,z=>by
  obtain⟨e,o,fd,h,q⟩:=z;exact⟨e,o,fd,s _ _ _ h,q⟩
theorem pG.same (s:Same H H1) {t:Ob} {v:V} (h:pG K H t v):pG K H1 t v:=h.fz λ _ _ _ q=>s _ _ q
theorem rK.same (s:Same H H1):∀{e:Ent} {v:V},rK K O H e v->rK K O H1 e v
 | .val d,v,h=>Rep.same s h
 | .lst ds,v,z=>by
  obtain⟨a,xs,e,o,h,r⟩:=z;exact⟨a,xs,e,o,s _ _ h,r.same s⟩
 | .zm kvs,v,z=>by
  obtain⟨a,xs,e,o,h,k,r⟩:=z;exact⟨a,xs,e,o,s _ _ h,k,r.same s⟩
 | .obj t,v,h=>pG.same s h
theorem In.same (i:In X O H ρ σ) (s:Same H H1):In X O H1 ρ σ:=
 ⟨⟨λ j e h=>let ⟨v,h1,h2⟩:=i.env.get j e h;⟨v,h1,h2.same s⟩,i.env.sep⟩,λ a h=>let ⟨o,q⟩:=i.al a h;⟨o,s _ _ q⟩,i.len,i.nF⟩
end
noncomputable def Exc (h:Heap) (e C:Addr) (T:Option Addr):Prop:=∃(oe:Obj) (vs:Array Value),h.get? e=some oe/\oe.cls= .ref C/\oe.dict=none/\oe.data= .fields vs/\match T with
 |none=>vs[1]?=some Value.none
 |some t=>vs[1]?=some (.ref t)/\t≠e/\∃(ot:Obj) (ts:Array Value),h.get? t=some ot/\ot.data= .fields ts/\ts[3]?=some Value.none
structure zp (P:Program) (w:World) (fs:List Addr) (H:Hp) (s:Shared) (a C:Addr) (T:Option Addr) (s':Shared) (H':Hp):Prop where
 same:Same H H'
 un:Un fs [] H H' s.heap s'.heap
 hok:HOk P w H' s'.heap
 os:s'.os=s.os
 bare:AllBare s'.gens
 exc:Exc s'.heap a C T
 na:s.heap.get? a=none
 ha:H' a=none
 nt:∀t,T=some t->s.heap.get? t=none/\H' t=none
noncomputable def JK (X:Cx) (c:Str) (σ:St) (H:Hp):Prop:=∀(H1:Hp) (pins:List (Addr×Obj)) (s:Shared) (a C:Addr) (T:Option Addr) (s':Shared) (H':Hp),Same H H1->Inv X pins σ H1 s->
 PySem.W.nsIn X.K mainGlobals c=some (some (.ref C))->zp X.prog X.w (frs X.stack) H1 s a C T s' H'->X.xe (.ref a) s'
theorem JK.same {X:Cx} {c:Str} {σ:St} {H H1:Hp} (h:JK X c σ H) (s:Same H H1):JK X c σ H1:=λ H2 pins s0 a C T s' H' s2=>h H2 pins s0 a C T s' H' (s.trans s2)
noncomputable def good {α β:Type} (X:Cx) (Rl:(Addr->Prop)->Hp->α->β->Prop) (O:Addr->Prop) (r:R α) (σ:St) (H:Hp) (Q:β->Hp->Prop):Prop:=match r with
 | .ok a=>∀b H',Same H H'->Rl O H' a b->Q b H'
 | .err c=>JK X c σ H
 | .bad=>False
theorem good.same {α β:Type} {X:Cx} {Rl:(Addr->Prop)->Hp->α->β->Prop} {O:Addr->Prop} {r:R α} {σ:St} {H H1:Hp} {Q:β->Hp->Prop} (h:good X Rl O r σ H Q) (s:Same H H1):good X Rl O r σ H1 Q:=by
 cases r with
 |ok a=>exact λ b H' s' q=>h b H' (s.trans s') q
 |err c=>exact JK.same (show JK X c σ H from h) s
 |bad=>exact h
inductive TGd {α β:Type} (X:Cx) (Rl:(Addr->Prop)->Hp->α->β->Prop) (f:aA->R α) (σ:St) (H:Hp) (Q:β->Hp->Prop):Prop
 |mk (ρ:aA) (O:Addr->Prop) (j:In X O H ρ σ) (g:good X Rl O (f ρ) σ H Q):TGd X Rl f σ H Q
noncomputable def tG {α β:Type} (X:Cx) (Rl:(Addr->Prop)->Hp->α->β->Prop) (f:aA->R α):St->Hp->(β->Hp->Prop)->Prop:=λ σ H Q=>TGd X Rl f σ H Q
noncomputable abbrev rB:(Addr->Prop)->Hp->Bool->Bool->Prop:=λ _ _ a b=>a=b
noncomputable abbrev rD (X:Cx):(Addr->Prop)->Hp->D->V->Prop:=λ O H d v=>Rep X.K O H d v
noncomputable abbrev JL (X:Cx):(Addr->Prop)->Hp->List D->List V->Prop:=λ O H d v=>aU X.K O H d v
noncomputable def DE (X:Cx) (e:Expr) (f:aA->R D):Prop:=PE X e (tG X (rD X) f)
noncomputable def DT (X:Cx) (e:Expr) (f:aA->R Bool):Prop:=PT X e (tG X rB f)
noncomputable def DW (X:Cx) (e:Expr) (f:aA->R Bool):Prop:=PW X e (tG X rB f)
noncomputable def DA (X:Cx) (es:List Expr) (f:aA->R (List D)):Prop:=PA X es (tG X (JL X) f)
theorem PE.imp {X:Cx} {e:Expr} {t t':TE} (h:PE X e t) (w:∀σ H Q,t' σ H Q->t σ H Q):PE X e t':=λ pins s σ H Q I q=>h pins s σ H Q I (w σ H Q q)
theorem PT.imp {X:Cx} {e:Expr} {t t':TT} (h:PT X e t) (w:∀σ H Q,t' σ H Q->t σ H Q):PT X e t':=λ pins s σ H Q I q=>h pins s σ H Q I (w σ H Q q)
theorem PW.imp {X:Cx} {e:Expr} {t t':TT} (h:PW X e t) (w:∀σ H Q,t' σ H Q->t σ H Q):PW X e t':=λ wh pins s σ H Q I q=>h wh pins s σ H Q I (w σ H Q q)
theorem PA.imp {X:Cx} {e:List Expr} {t t':TA} (h:PA X e t) (w:∀σ H Q,t' σ H Q->t σ H Q):PA X e t':=λ pos pins s σ H Q I q=>h pos pins s σ H Q I (w σ H Q q)
section
variable {X:Cx} {O:Addr->Prop} {H:Hp} {ρ:aA} {σ:St}
theorem go {α β γ δ:Type} {Rl:(Addr->Prop)->Hp->α->β->Prop} {Rm:(Addr->Prop)->Hp->γ->δ->Prop} {f:aA->R α} {g:α->R γ} {Q:δ->Hp->Prop} {Q':β->Hp->Prop}
  (i:In X O H ρ σ) (h:good X Rm O ((f ρ).bind g) σ H Q)
  (k:∀a b H1,f ρ= .ok a->Same H H1->Rl O H1 a b->In X O H1 ρ σ->good X Rm O (g a) σ H1 Q->Q' b H1):tG X Rl f σ H Q':=by
 refine⟨ρ,O,i,?_⟩;cases e:f ρ with
 |ok a=>rw[e] at h;exact λ b H1 s r=>k a b H1 e s r (i.same s) (good.same h s)
 |err c=>rw[e] at h;exact h
 |bad=>rw[e] at h;exact h
theorem fin {α β:Type} {Rl:(Addr->Prop)->Hp->α->β->Prop} {a:α} {b:β} {Q:β->Hp->Prop} (h:good X Rl O (.ok a) σ H Q) (r:Rl O H a b):Q b H:=h b H (Same.refl H) r
end
end Pu
namespace Pu
open PySem PySem.Spec L2
open PyProof.Rows hiding St
theorem Same.upd {H:Hp} {p:Addr} {o:HO} (h:H p=none):Same H (L2.upd H p o):=λ b u e=>by
 rw[upd_ne (ne_of_none e h)];exact e
theorem Rep.sZ {X:Cx} {O:Addr->Prop} {H:Hp} {p:Addr} {ds:List D} {xs:List V} (h:H p=none) (r:aU X.K O H ds xs):Rep X.K O (upd H p (.tup xs)) (.tup ds) (.ref p):=
 gU (SqT.of upd_same) (r.same (Same.upd h))
theorem In.zO {X:Cx} {O:Addr->Prop} {H:Hp} {ρ:aA} {σ:St} (i:In X O H ρ σ) {p:Addr} (h:H p=none):¬O p:=λ z=>by
 obtain⟨o,e⟩:=i.al p z;rw[h] at e;cases e
theorem Rep.tu {X:Cx} {O:Addr->Prop} {H:Hp} {p:Addr} {ds:List D} {xs:List V} (h:H p=none) (n:¬O p) (r:aU X.K O H ds xs):Rep X.K O (upd H p (.lst xs)) (.lst ds) (.ref p):=
 sY (SqL.of upd_same) n (r.same (Same.upd h))
section
variable {X:Cx} {a b c:Expr} {f g h:aA->R D} {pos:Pos}
noncomputable def ao (ρ:aA) (i:Nat):R D:=match ρ[i]? with
 |some (some (.val d))=> .ok d
 |_=> .bad
theorem dv (i:Nat) {x:Str} {pos:Pos} (hN:X.N[i]?=some x:=by rfl) (hv:Vis X.env.scope x:=by first |exact Or.inl rfl |exact Or.inr (Or.inl rfl) |exact Or.inr (Or.inr rfl)) (hd:(x ==("__debug__" :Str))=false:=by decide) (hcd:(x ==("__classdict__" :Str))=false:=by decide):
  DE X (.Name x pos) (λ ρ=>ao ρ i):=by
 refine PE.imp (pe_var hN hv hd hcd) λ σ H Q h=>?_;obtain⟨ρ,O,j,h⟩:=h;have h:good X (rD X) O (ao ρ i) σ H Q:=h;unfold ao at h;split at h
 ·rename_i d e;obtain⟨v,e1,r⟩:=j.env.get i _ e;exact⟨v,e1,fin h r⟩
 ·exact h.elim
theorem HS {e:Expr} {d:D} {v:V} (h:PE X e (tC v)) (r:∀O H,Rep X.K O H d v):DE X e (λ _=> .ok d):=PE.imp h λ σ H Q h=>by
 obtain⟨ρ,O,j,h⟩:=h;exact fin h (r O H)
theorem aK {i:Int} {j pos}:DE X (.Constant (.int i) j pos) (λ _=> .ok (.int i)):=HS pe_int λ _ _=>cJ i
theorem nq {i:Bool} {j pos}:DE X (.Constant (.bool i) j pos) (λ _=> .ok (.bl i)):=HS pe_bl λ _ _=>fG i
theorem dN {j pos}:DE X (.Constant .none j pos) (λ _=> .ok .non):=HS pe_non λ _ _=>pF
theorem wX {x:Str} {j pos}:DE X (.Constant (.str x) j pos) (λ _=> .ok (.str x)):=HS pe_str λ _ _=>Cj x
theorem nR {x:Str} {i:Int} {t:Tok} {pos:Pos} (hg:Gl X x) (hm:X.mg x=some (.int i t)) (hd:(x ==("__debug__" :Str))=false:=by decide):DE X (.Name x pos) (λ _=> .ok (.int i)):=
 HS (pe_glob (v:= .int i) hg hm ⟨t,rfl⟩ hd) λ _ _=>cJ i
noncomputable def jf (X:Cx) (o:Value->Value->Sem Value) (k:D->D->R D):Prop:=∃r:R2,OpR X o r/\
 ∀(ρ:aA) (O:Addr->Prop) (σ:St) (H:Hp) (Q:VK) (x y:V) (dx dy:D),In X O H ρ σ->Rep X.K O H dx x->Rep X.K O H dy y->good X (rD X) O (k dx dy) σ H Q->r x y H Q
noncomputable def bin (f g:aA->R D) (k:D->D->R D):aA->R D:=λ ρ=>(f ρ).bind λ x=>(g ρ).bind λ y=>k x y
theorem Fx {r:R2} {k:D->D->R D} {σ:St} {H:Hp} {Q:VK}
  (hr:∀(ρ:aA) (O:Addr->Prop) (σ:St) (H:Hp) (Q:VK) (x y:V) (dx dy:D),In X O H ρ σ->Rep X.K O H dx x->Rep X.K O H dy y->good X (rD X) O (k dx dy) σ H Q->r x y H Q)
  (h:tG X (rD X) (bin f g k) σ H Q):tOp r (tG X (rD X) f) (tG X (rD X) g) σ H Q:=by
 obtain⟨ρ,O,j,h⟩:=h;refine go j h λ dx x H1 e1 s1 r1 j1 h1=>?_;exact go j1 h1 λ dy y H2 e2 s2 r2 j2 h2=>hr ρ O σ H2 Q x y dx dy j2 (r1.same s2) r2 h2
theorem aN {op:Operator} {k:D->D->R D} (ho:jf X (binaryOp op) k) (ha:DE X a f) (hb:DE X b g):DE X (.BinOp a op b pos) (bin f g k):=by
 obtain⟨r,ho,hr⟩:=ho;exact PE.imp (pe_op ho ha hb) λ σ H Q h=>Fx hr h
theorem zP {op:CmpOp} {k:D->D->R D} (ho:jf X (compareOp op) k) (ha:DE X a f) (hb:DE X b g) (hm:behindInMarks op b=false:=by exact nomark _):DE X (.Compare a [op] [b] pos) (bin f g k):=by
 obtain⟨r,ho,hr⟩:=ho;exact PE.imp (pe_cmpR ho ha hb hm) λ σ H Q h=>Fx hr h
noncomputable def asB:D->R Bool
 | .bl b=> .ok b
 |_=> .bad
noncomputable def bZ (f:aA->R D):aA->R Bool:=λ ρ=>(f ρ).bind asB
theorem Em {t:TE} {k:aA->R D} {σ:St} {H:Hp} {Q:Bool->Hp->Prop} (w:∀Q,tG X (rD X) k σ H Q->t σ H Q) (h:tG X rB (bZ k) σ H Q):tTest t σ H Q:=by
 refine w _ ?_;obtain⟨ρ,O,j,h⟩:=h;refine go j h λ d x H1 e1 s1 r1 j1 h1=>?_;cases d with
 |bl b=>exact⟨b,r1.bl,fin h1 rfl⟩
 |_=>exact h1.elim
theorem bO {op:CmpOp} {k:D->D->R D} (ho:jf X (compareOp op) k) (ha:DE X a f) (hb:DE X b g) (hm:behindInMarks op b=false:=by exact nomark _):DT X (.Compare a [op] [b] pos) (bZ (bin f g k)):=by
 obtain⟨r,ho,hr⟩:=ho;exact PT.imp (pt_cmpR ho ha hb hm) λ σ H Q h=>Em (λ Q h=>Fx hr h) h
theorem jE {e:Expr} (h:DE X e f) (he:∀whole,isTrue e X.env whole=(do let v <-whole;standAt e.pos;holding [v] (truthy v)):=by intro _;rfl):DT X e (bZ f):=
 PT.imp (pt_val h he) λ σ H Q h=>Em (t:=tG X (rD X) f) (λ Q h=>h) h
noncomputable def iD (k:Int->Int->R D):D->D->R D
 | .int i,.int j=>k i j
 |_,_=> .bad
theorem Ck {o:Value->Value->Sem Value} {C:Int->Int->Prop} {g:Int->Int->V} {k:Int->Int->R D} (ho:OpR X o (rI C g)) (hk:∀i j,k i j= .bad\/∃d,k i j= .ok d/\C i j/\∀K O H,Rep K O H d (g i j)):jf X o (iD k):=by
 refine⟨_,ho,λ ρ O σ H Q x y dx dy j0 rx ry h=>?_⟩;cases dx <;> cases dy <;> first
  |exact h.elim
  |skip
 rename_i i j;rcases hk i j with e |⟨d,e,c,r⟩
 ·have h':good X (rD X) O (k i j) σ H Q:=h;rw[e] at h';exact h'.elim
 ·have h':good X (rD X) O (k i j) σ H Q:=h;rw[e] at h';exact⟨i,j,rx.int,ry.int,c,fin h' (r _ _ _)⟩
theorem tV {o:Value->Value->Sem Value} {g:Int->Int->V} {k:Int->Int->R D} (ho:OpR X o (rI0 g)) (hk:∀i j,∃d,k i j= .ok d/\∀K O H,Rep K O H d (g i j)):jf X o (iD k):=by
 refine⟨_,ho,λ ρ O σ H Q x y dx dy j0 rx ry h=>?_⟩;cases dx <;> cases dy <;> first
  |exact h.elim
  |skip
 rename_i i j;obtain⟨d,e,r⟩:=hk i j;have h':good X (rD X) O (k i j) σ H Q:=h;rw[e] at h';exact⟨i,j,rx.int,ry.int,fin h' (r _ _ _)⟩
noncomputable def dh:D->D->R D:=iD λ i j=> .ok (.int (i - j))
noncomputable def ig:D->D->R D:=iD λ i j=>if (-(2 ^ 64) < i/\i < 2 ^ 64)\/(-(2 ^ 64) < j/\j < 2 ^ 64) then .ok (.int (i*j)) else .bad
noncomputable def iJ:D->D->R D:=iD λ i j=>if 0 < j/\j < 2 ^ 64 then .ok (.int (i / j)) else .bad
noncomputable def f9:D->D->R D:=iD λ i j=>if 0 < j then .ok (.int (i % j)) else .bad
noncomputable def vV:D->D->R D:=iD λ i j=>if 0<=j/\j<=1000000/\i.natAbs < 2 ^ 64 then .ok (.int (i ^ j.toNat)) else .bad
noncomputable def ltI:D->D->R D:=iD λ i j=> .ok (.bl (decide (i < j)))
noncomputable def sG:D->D->R D:=iD λ i j=> .ok (.bl (decide (i<=j)))
noncomputable def sH:D->D->R D:=iD λ i j=> .ok (.bl (decide (j < i)))
noncomputable def Xb:D->D->R D:=iD λ i j=> .ok (.bl (decide (j<=i)))
theorem cV:jf X (binaryOp .Sub) dh:=tV op_sub λ i j=>⟨_,rfl,λ _ _ _=>cJ _⟩
theorem Fy:jf X (compareOp .Lt) ltI:=tV op_lt λ i j=>⟨_,rfl,λ _ _ _=>fG _⟩
theorem oM:jf X (compareOp .LtE) sG:=tV op_le λ i j=>⟨_,rfl,λ _ _ _=>fG _⟩
theorem Cm:jf X (compareOp .Gt) sH:=tV op_gt λ i j=>⟨_,rfl,λ _ _ _=>fG _⟩
theorem afw:jf X (compareOp .GtE) Xb:=tV op_ge λ i j=>⟨_,rfl,λ _ _ _=>fG _⟩
theorem Cp {c:Prop} [Decidable c] (d:D) {P:D->Prop} (hP:c->P d):(if c then R.ok d else R.bad)=R.bad\/∃d',(if c then R.ok d else R.bad)=R.ok d'/\c/\P d':=by
 by_cases h:c
 ·exact .inr ⟨d,by rw[if_pos h],h,hP h⟩
 ·exact .inl (by rw[if_neg h])
theorem qT:jf X (binaryOp .Mult) ig:=Ck op_mul λ i j=>Cp (.int (i*j)) (P:=λ d=>∀K O H,Rep K O H d (.int (i*j))) λ _ _ _ _=>cJ _
theorem Xc {j:Int} (h0:0 < j) (h:j < 2 ^ 64):j.natAbs.log2 < 9000:=by
 have h1:j.natAbs≠0:=by omega
 have h2:j.natAbs < 2 ^ 64:=by omega
 have h3:j.natAbs.log2 < 64:=(Nat.log2_lt h1).mpr h2;omega
theorem aao:OpR X (binaryOp .FloorDiv) (rI (λ _ j=>0 < j/\j < 2 ^ 64) λ i j=> .int (i / j)):=opI λ i j _ _ _ _ _ hc q=>by
 refine floordiv_int (by have:=hc.1;omega) ?_ (.inl (PyProof.noPylong_of_log2 (Xc hc.1 hc.2)));rw[Int.fdiv_eq_ediv_of_nonneg _ (by have:=hc.1;omega)];exact q
theorem tW:jf X (binaryOp .FloorDiv) iJ:=Ck aao λ i j=>Cp (.int (i / j)) (P:=λ d=>∀K O H,Rep K O H d (.int (i / j))) λ _ _ _ _=>cJ _
theorem qU:jf X (binaryOp .Mod) f9:=Ck op_mod λ i j=>Cp (.int (i % j)) (P:=λ d=>∀K O H,Rep K O H d (.int (i % j))) λ _ _ _ _=>cJ _
theorem Xd:jf X (binaryOp .Pow) vV:=Ck op_pow λ i j=>Cp (.int (i ^ j.toNat)) (P:=λ d=>∀K O H,Rep K O H d (.int (i ^ j.toNat))) λ _ _ _ _=>cJ _
noncomputable def zq (f g h:aA->R D) (k l:D->D->R D):aA->R D:=λ ρ=>(f ρ).bind λ x=>(g ρ).bind λ y=>(k x y).bind λ z=>match z with
 | .bl true=>(h ρ).bind λ w=>l y w
 | .bl false=> .ok (.bl false)
 |_=> .bad
noncomputable def mL (f g:aA->R D):aA->R D:=λ ρ=>(f ρ).bind λ x=>match x with
 | .bl true=>g ρ
 | .bl false=> .ok (.bl false)
 |_=> .bad
noncomputable def MK (f:aA->R D):aA->R D:=λ ρ=>(f ρ).bind λ x=>match x with
 | .bl b=> .ok (.bl (!b))
 |_=> .bad
variable {rest:List Expr}
theorem mR {op} (h:DE X a f):DE X (.BoolOp op [a] pos) f:=pe_one h
theorem jF (ha:DE X a f) (hb:DE X (.BoolOp .And (b::rest) pos) g):DE X (.BoolOp .And (a::b::rest) pos) (mL f g):=by
 refine PE.imp (pe_and ha hb) λ σ H Q h=>?_;obtain⟨ρ,O,j,h⟩:=h;refine go j h λ d x H1 e1 s1 r1 j1 h1=>?_;cases d with
 | bl k=>
  cases k with
  |true=>exact⟨true,r1.bl,by rw[if_pos rfl];exact⟨ρ,O,j1,h1⟩⟩
  |false=>exact⟨false,r1.bl,by rw[if_neg Bool.false_ne_true];exact fin h1 (fG _)⟩
 |_=>exact h1.elim
theorem Xe (ha:DE X a f):DE X (.UnaryOp .Not a pos) (MK f):=by
 refine PE.imp (pe_not ha) λ σ H Q h=>?_;obtain⟨ρ,O,j,h⟩:=h;refine go j h λ d x H1 e1 s1 r1 j1 h1=>?_;cases d with
 |bl k=>exact⟨k,r1.bl,fin h1 (fG _)⟩
 |_=>exact h1.elim
noncomputable def nG (f g:aA->R Bool):aA->R Bool:=λ ρ=>(f ρ).bind λ x=>if x=true then g ρ else .ok false
noncomputable def tX (f g:aA->R Bool):aA->R Bool:=λ ρ=>(f ρ).bind λ x=>if x=true then .ok true else g ρ
noncomputable def jr (f:aA->R Bool):aA->R Bool:=λ ρ=>(f ρ).bind λ x=> .ok (!x)
variable {p q:aA->R Bool}
theorem Cq (ha:DT X a p):DW X (.BoolOp .And [a] pos) p:=pw_and1 ha
theorem qW (ha:DT X a p):DW X (.BoolOp .Or [a] pos) p:=pw_or1 ha
theorem Fz (ha:DT X a p) (hb:DW X (.BoolOp .And (b::rest) pos) q):DW X (.BoolOp .And (a::b::rest) pos) (nG p q):=by
 refine PW.imp (pw_and ha hb) λ σ H Q h=>?_;obtain⟨ρ,O,j,h⟩:=h;refine go j h λ d x H1 e1 s1 r1 j1 h1=>?_;subst r1;cases d with
 |true=>rw[if_pos rfl] at h1 |-;exact⟨ρ,O,j1,h1⟩
 |false=>rw[if_neg Bool.false_ne_true] at h1 |-;exact fin h1 rfl
theorem vB (ha:DT X a p) (hb:DW X (.BoolOp .Or (b::rest) pos) q):DW X (.BoolOp .Or (a::b::rest) pos) (tX p q):=by
 refine PW.imp (pw_or ha hb) λ σ H Q h=>?_;obtain⟨ρ,O,j,h⟩:=h;refine go j h λ d x H1 e1 s1 r1 j1 h1=>?_;subst r1;cases d with
 |true=>rw[if_pos rfl] at h1 |-;exact fin h1 rfl
 |false=>rw[if_neg Bool.false_ne_true] at h1 |-;exact⟨ρ,O,j1,h1⟩
theorem DW.dt {e:Expr} (h:DW X e p):DT X e p:=h _
theorem gb (ha:DT X a p):DT X (.UnaryOp .Not a pos) (jr p):=by
 refine PT.imp (pt_not ha) λ σ H Q h=>?_;obtain⟨ρ,O,j,h⟩:=h;refine go j h λ d x H1 e1 s1 r1 j1 h1=>?_;subst r1;exact fin h1 rfl
noncomputable def zu (c:aA->R Bool) (f g:aA->R D):aA->R D:=λ ρ=>(c ρ).bind λ x=>if x=true then f ρ else g ρ
theorem FJ (hc:DT X c p) (ha:DE X a f) (hb:DE X b g):DE X (.IfExp c a b pos) (zu p f g):=by
 refine PE.imp (pe_ifExp hc ha hb) λ σ H Q h=>?_;obtain⟨ρ,O,j,h⟩:=h;refine go j h λ d x H1 e1 s1 r1 j1 h1=>?_;subst r1;cases d with
 |true=>rw[if_pos rfl] at h1 |-;exact⟨ρ,O,j1,h1⟩
 |false=>rw[if_neg Bool.false_ne_true] at h1 |-;exact⟨ρ,O,j1,h1⟩
noncomputable def ak (f:aA->R D) (g:aA->R (List D)):aA->R (List D):=λ ρ=>(f ρ).bind λ x=>(g ρ).bind λ xs=> .ok (x::xs)
variable {es:List Expr} {fa:aA->R (List D)}
theorem aq:DA X [] (λ _=> .ok []):=PA.imp pa_nil λ σ H Q h=>by
 obtain⟨ρ,O,j,h⟩:=h;exact fin h .nil
theorem aj (ha:DE X a f) (hr:DA X es fa) (hs:starEach (a::es) X.env=(false,eval a X.env)::starEach es X.env:=by rfl):DA X (a::es) (ak f fa):=by
 refine PA.imp (pa_cons ha hr hs) λ σ H Q h=>?_;obtain⟨ρ,O,j,h⟩:=h;refine go j h λ d x H1 e1 s1 r1 j1 h1=>?_;exact go j1 h1 λ ds xs H2 e2 s2 r2 j2 h2=>fin h2 (.cons (r1.same s2) r2)
noncomputable def cap (k:List D->D) (ds:List D):R D:=if ds.length<=1000000 then .ok (k ds) else .bad
theorem fL:1000000<=sizeLine:=by rw[sizeLine_eq];decide
noncomputable def dI (fa:aA->R (List D)):aA->R D:=λ ρ=>(fa ρ).bind (cap .tup)
noncomputable def jt (fa:aA->R (List D)):aA->R D:=λ ρ=>(fa ρ).bind (cap .lst)
theorem cW {x1} (h:DA X es fa):DE X (.Tuple es x1 pos) (dI fa):=by
 refine PE.imp (pe_tup h) λ σ H Q h=>?_;obtain⟨ρ,O,j,h⟩:=h;refine go j h λ ds xs H1 e1 s1 r1 j1 h1=>?_;unfold cap at h1;split at h1
 ·rename_i hl;exact⟨by rw[<-r1.length];exact Nat.le_trans hl fL,λ p hp=>h1 _ _ (Same.upd hp) (Rep.sZ hp r1)⟩
 ·exact h1.elim
theorem kO (h:DA X es fa):DE X (.List es pos) (jt fa):=by
 refine PE.imp (pe_lst h) λ σ H Q h=>?_;obtain⟨ρ,O,j,h⟩:=h;refine go j h λ ds xs H1 e1 s1 r1 j1 h1=>?_;unfold cap at h1;split at h1
 ·rename_i hl;exact⟨by rw[<-r1.length];exact Nat.le_trans hl fL,λ p hp=>h1 _ _ (Same.upd hp) (Rep.tu hp (j1.zO hp) r1)⟩
 ·exact h1.elim
noncomputable def bN:D->D->R D
 | .tup ds,.int i=>match atI ds i with |some d=> .ok d |none=> .bad
 | .lst ds,.int i=>match atI ds i with |some d=> .ok d |none=> .bad
 |_,_=> .bad
theorem aU.atI {K:PySem.W.Frag} {O:Addr->Prop} {H:Hp} {ds:List D} {vs:List V} {i:Int} {d:D} (r:aU K O H ds vs) (e:atI ds i=some d):∃v,atI vs i=some v/\Rep K O H d v:=by
 unfold L2.atI at e |-;rw[r.length] at e;cases q:ixN vs.length i with
 |none=>rw[q] at e;cases e
 | some k=>
  rw[q] at e;obtain⟨v,h1,h2⟩:=r.get (i:=k) (d:=d) e;exact⟨v,h1,h2⟩
theorem bH (ha:DE X a f) (hb:DE X b g) (hs:PlainIx b:=by exact λ _ _=>rfl):DE X (.Subscript a b pos) (bin f g bN):=by
 refine PE.imp (pe_ix ix_seq ha hb hs) λ σ H Q h=>Fx (λ ρ O σ H Q x y dx dy j0 rx ry h=>?_) h;cases dx <;> cases dy <;> first
  |exact h.elim
  |skip
 ·rename_i ds i;obtain⟨p,xs,rfl,hq,r⟩:=rx.tup;have h':good X (rD X) O (match L2.atI ds i with |some d=>R.ok d |none=>R.bad) σ H Q:=h;cases e:L2.atI ds i with
  |none=>rw[e] at h';exact h'.elim
  | some d=>
   rw[e] at h';obtain⟨v,e1,rv⟩:=r.atI e;exact .inr (.inl ⟨p,xs,i,v,rfl,ry.int,hq,e1,fin h' rv⟩)
 ·rename_i ds i;obtain⟨p,xs,rfl,hq,_,r⟩:=rx.lst;have h':good X (rD X) O (match L2.atI ds i with |some d=>R.ok d |none=>R.bad) σ H Q:=h;cases e:L2.atI ds i with
  |none=>rw[e] at h';exact h'.elim
  | some d=>
   rw[e] at h';obtain⟨v,e1,rv⟩:=r.atI e;exact .inl ⟨p,xs,i,v,rfl,ry.int,hq,e1,fin h' rv⟩
noncomputable def CallD (X:Cx) (u:Value) (k:List D->R D):Prop:=∃r:List V->Hp->VK->Prop,CallR X u r/\
 ∀(ρ:aA) (O:Addr->Prop) (σ:St) (H:Hp) (Q:VK) (xs:List V) (ds:List D),In X O H ρ σ->aU X.K O H ds xs->good X (rD X) O (k ds) σ H Q->r xs H Q
noncomputable def aF (k:List D->R D) (fa:aA->R (List D)):aA->R D:=λ ρ=>(fa ρ).bind k
variable {x:Str} {pp:Pos} {k:List D->R D} {id T:String}
theorem aP (hc:CallD X (.builtin id) k) (hg:Gl X x) (hm:X.mg x=none) (hv:bootBuiltins x=some (.builtin id)) (ha:DA X (a::es) fa) (hn:x≠"__name__" :=by decide) (hdb:(x ==("__debug__" :Str))=false:=by decide)
  (he:starEach (a::es) X.env=(false,eval a X.env)::starEach es X.env:=by rfl) (hpl:(backTo pos (starEach es X.env)).any (·.1)=false:=by rfl):DE X (.Call (.Name x pp) (a::es) [] pos) (aF k fa):=by
 obtain⟨r,hc,hr⟩:=hc;refine PE.imp (pe_callB hc hg hm hv ha hn hdb he hpl) λ σ H Q h=>?_;obtain⟨ρ,O,j,h⟩:=h;exact go j h λ ds xs H1 e1 s1 r1 j1 h1=>hr ρ O σ H1 Q xs ds j1 r1 h1
theorem d7 (hc:CallD X (.type T) k) (hg:Gl X x) (hm:X.mg x=none) (hv:bootBuiltins x=some (.type T)) (ha:DA X (a::es) fa) (hn:x≠"__name__" :=by decide) (hdb:(x ==("__debug__" :Str))=false:=by decide)
  (he:starEach (a::es) X.env=(false,eval a X.env)::starEach es X.env:=by rfl) (hpl:(backTo pos (starEach es X.env)).any (·.1)=false:=by rfl):DE X (.Call (.Name x pp) (a::es) [] pos) (aF k fa):=by
 obtain⟨r,hc,hr⟩:=hc;refine PE.imp (pe_callTy hc hg hm hv ha hn hdb he hpl) λ σ H Q h=>?_;obtain⟨ρ,O,j,h⟩:=h;exact go j h λ ds xs H1 e1 s1 r1 j1 h1=>hr ρ O σ H1 Q xs ds j1 r1 h1
end
section
variable {X:Cx} {a b c:Expr} {f g h:aA->R D} {pos:Pos}
theorem JM {r r':R2} {k l:D->D->R D} {σ:St} {H:Hp} {Q:VK}
  (hr:∀(ρ:aA) (O:Addr->Prop) (σ:St) (H:Hp) (Q:VK) (x y:V) (dx dy:D),In X O H ρ σ->Rep X.K O H dx x->Rep X.K O H dy y->good X (rD X) O (k dx dy) σ H Q->r x y H Q)
  (hl:∀(ρ:aA) (O:Addr->Prop) (σ:St) (H:Hp) (Q:VK) (x y:V) (dx dy:D),In X O H ρ σ->Rep X.K O H dx x->Rep X.K O H dy y->good X (rD X) O (l dx dy) σ H Q->r' x y H Q)
  (q:tG X (rD X) (zq f g h k l) σ H Q):tChain r r' (tG X (rD X) f) (tG X (rD X) g) (tG X (rD X) h) σ H Q:=by
 obtain⟨ρ,O,j,q⟩:=q;refine go j q λ dx x H1 e1 s1 r1 j1 h1=>?_;refine go j1 h1 λ dy y H2 e2 s2 r2 j2 h2=>?_;have r1':=r1.same s2;cases e3:k dx dy with
 |bad=>rw[e3] at h2;exact h2.elim
 |err n=>rw[e3] at h2;exact hr ρ O σ H2 _ x y dx dy j2 r1' r2 (by rw[e3];exact h2)
 | ok z=>
  rw[e3] at h2;refine hr ρ O σ H2 _ x y dx dy j2 r1' r2 ?_;rw[e3];intro v H3 s3 r3;have j3:=j2.same s3;cases z with
  | bl t=>
   refine⟨t,r3.bl,?_⟩;cases t with
   | true=>
    rw[if_pos rfl];exact go j3 (good.same h2 s3) λ dw w H4 e4 s4 r4 j4 h4=>hl ρ O σ H4 Q y w dy dw j4 (r2.same (s3.trans s4)) r4 h4
   | false=>
    rw[if_neg Bool.false_ne_true];exact fin (good.same h2 s3) (fG _)
  |_=>exact h2.elim
theorem yh {op op':CmpOp} {k l:D->D->R D} (ho:jf X (compareOp op) k) (ho':jf X (compareOp op') l) (ha:DE X a f) (hb:DE X b g) (hc:DE X c h)
  (hm:lastMarks [op,op'] [b,c]=false:=by with_unfolding_all rfl):DE X (.Compare a [op,op'] [b,c] pos) (zq f g h k l):=by
 obtain⟨r,ho,hr⟩:=ho;obtain⟨r',ho',hr'⟩:=ho';exact PE.imp (pe_chain ho ho' ha hb hc hm) λ σ H Q q=>JM hr hr' q
theorem aap {op op':CmpOp} {k l:D->D->R D} (ho:jf X (compareOp op) k) (ho':jf X (compareOp op') l) (ha:DE X a f) (hb:DE X b g) (hc:DE X c h)
  (hm:lastMarks [op,op'] [b,c]=false:=by with_unfolding_all rfl):DT X (.Compare a [op,op'] [b,c] pos) (bZ (zq f g h k l)):=by
 obtain⟨r,ho,hr⟩:=ho;obtain⟨r',ho',hr'⟩:=ho';exact PT.imp (pt_chain ho ho' ha hb hc hm) λ σ H Q q=>Em (λ Q q=>JM hr hr' q) q
end
noncomputable def YAt (K:PySem.W.Frag) (O:Addr->Prop) (J:It) (xs:List D) (H:Hp):Prop:=
 ∀i:Nat,(∀d,xs[i]?=some d->J.go i H/\∀x H',J.yld i H x H'->Same H H'/\Rep K O H' d x)/\(xs.length<=i->J.stop i H)
noncomputable def YR (K:PySem.W.Frag) (O:Addr->Prop) (H:Hp) (J:It) (xs:List D):Prop:=∀O' H',fU K O H O' H'->YAt K O' J xs H'
noncomputable abbrev rIt (X:Cx):(Addr->Prop)->Hp->List D->It->Prop:=λ O H xs J=>YR X.K O H J xs
noncomputable def DI (X:Cx) (tg iter:Expr) (fi:aA->R (List D)):Prop:=PI X tg iter (tG X (rIt X) fi)
theorem PI.imp {X:Cx} {tg e:Expr} {t t':TI} (h:PI X tg e t) (w:∀σ H Q,t' σ H Q->t σ H Q):PI X tg e t':=λ pins s σ H Q I q=>h pins s σ H Q I (w σ H Q q)
section
variable {X:Cx} {tg:Expr}
noncomputable def agq (K:PySem.W.Frag) (tl:TE):TI:=λ σ H R=>tl σ H λ x H1=>∃a,x= .ref a/\(((∃xs,SqL K H1 a xs)/\R (Itl K a) H1)\/((∃xs,SqT K H1 a xs)/\R (Itt K a) H1))
theorem adH {l:Expr} {tl:TE} (hl:PE X l tl):PI X tg l (agq X.K tl):=by
 intro pins s σ H R I h;refine thn (hl pins s σ H _ I h) λ v s1 bM=>?_;obtain⟨x,H1,I1,r1,q1⟩:=bM;obtain⟨a,e,q⟩:=q1;subst e;cases r1;have fp:∀b∈[s1.heap.objs.size],FpOk X pins H1 b:=λ b hb=>by
  have e:b=s1.heap.objs.size:=by simpa using hb
  subst e;exact I1.fpOk (Nat.le_refl _) (I1.hok.fresh (Nat.le_refl _))
 rcases q with⟨⟨xs,hq⟩,q⟩ |⟨⟨xs,hq⟩,q⟩
 ·obtain⟨its,rv,p,hz⟩:=I1.list hq;refine wpAny_pyIter_list p.isList ?_;exact⟨s1.heap.objs.size,[s1.heap.objs.size],_,_,H1,rfl,I1.kept (t':=s1.toks) λ b o e=>Heap.get?_push_of_some _ e,turn_list a _,⟨_,Heap.get?_push_size _ rfl,rfl,rfl⟩,fp,q⟩
 ·obtain⟨its,rv,p,hz⟩:=I1.tuple hq;refine wpAny_pyIter_tuple (show s1.heap.IsTuple a its.toArray from p) ?_;exact⟨s1.heap.objs.size,[s1.heap.objs.size],_,_,H1,rfl,I1.kept (t':=s1.toks) λ b o e=>Heap.get?_push_of_some _ e,turn_tuple a _,⟨_,Heap.get?_push_size _ rfl,rfl,rfl⟩,fp,q⟩
noncomputable def dD:D->R (List D)
 | .tup ds=> .ok ds
 | .lst ds=> .ok ds
 |_=> .bad
theorem YR.lst {K:PySem.W.Frag} {O:Addr->Prop} {H:Hp} {a:Addr} {ds:List D} {xs:List V} (h:SqL K H a xs) (n:¬O a) (r:aU K O H ds xs):YR K O H (Itl K a) ds:=by
 intro O' H' q;have h':SqL K H' a xs:=SqL.ext q.ext n h;have r':=r.go q;intro i;refine⟨λ d e=>?_,λ e=>⟨xs,h',by rw[<-r.length];exact e⟩⟩;obtain⟨v,e1,rv⟩:=r'.get e;refine⟨⟨xs,v,h',e1⟩,λ x H2 y=>?_⟩;obtain⟨eH,y⟩:=y;subst eH;have:=y xs h';rw[e1] at this;cases this;exact⟨Same.refl _,rv⟩
theorem YR.tup {K:PySem.W.Frag} {O:Addr->Prop} {H:Hp} {a:Addr} {ds:List D} {xs:List V} (h:SqT K H a xs) (r:aU K O H ds xs):YR K O H (Itt K a) ds:=by
 intro O' H' q;have h':SqT K H' a xs:=SqT.ext q.ext h;have r':=r.go q;intro i;refine⟨λ d e=>?_,λ e=>⟨xs,h',by rw[<-r.length];exact e⟩⟩;obtain⟨v,e1,rv⟩:=r'.get e;refine⟨⟨xs,v,h',e1⟩,λ x H2 y=>?_⟩;obtain⟨eH,y⟩:=y;subst eH;have:=y xs h';rw[e1] at this;cases this;exact⟨Same.refl _,rv⟩
noncomputable def fV (f:aA->R D):aA->R (List D):=λ ρ=>(f ρ).bind dD
theorem eE {l:Expr} {f:aA->R D} (h:DE X l f):DI X tg l (fV f):=by
 refine PI.imp (adH h) λ σ H Q q=>?_;obtain⟨ρ,O,j,q⟩:=q;refine go j q λ d x H1 e1 s1 r1 j1 h1=>?_;cases d with
 | tup ds=>
  obtain⟨a,xs,rfl,hq,r⟩:=r1.tup;exact⟨a,rfl,.inr ⟨⟨xs,hq⟩,fin h1 (YR.tup hq r)⟩⟩
 | lst ds=>
  obtain⟨a,xs,rfl,hq,n,r⟩:=r1.lst;exact⟨a,rfl,.inl ⟨⟨xs,hq⟩,fin h1 (YR.lst hq n r)⟩⟩
 |_=>exact h1.elim
noncomputable def upto (lo:Int) (n:Nat):List D:=(List.range n).map λ (i:Nat)=>D.int (lo+(i:Int))
theorem YR.rng {K:PySem.W.Frag} {O:Addr->Prop} {H:Hp} (lo:Int) (n:Nat):YR K O H (Itr lo n) (upto lo n):=by
 intro O' H' q i;have hl:(upto lo n).length=n:=by simp[upto]
 refine⟨λ d e=>?_,λ e=>by rw[hl] at e;exact e⟩;have hi:i < n:=by rw[<-hl];exact (List.getElem?_eq_some_iff.mp e).1
 have e2:d=D.int (lo+(i:Int)):=by
  simp only[upto,List.getElem?_map,List.getElem?_range hi] at e;exact (Option.some.inj e).symm
 subst e2;refine⟨hi,λ x H2 y=>?_⟩;obtain⟨eH,y⟩:=y;subst eH;subst y;exact⟨Same.refl _,cJ _⟩
noncomputable def ju:List D->R (List D)
 |[.int j]=>if -(2 ^ 62)<=j/\j < 2 ^ 62 then .ok (upto 0 j.toNat) else .bad
 |_=> .bad
noncomputable def HW:List D->R (List D)
 |[.int i,.int j]=>if -(2 ^ 62)<=i/\i < 2 ^ 62/\-(2 ^ 62)<=j/\j < 2 ^ 62 then .ok (upto i (j - i).toNat) else .bad
 |_=> .bad
theorem aU.one {K:PySem.W.Frag} {O:Addr->Prop} {H:Hp} {d:D} {xs:List V} (r:aU K O H [d] xs):∃x,xs=[x]/\Rep K O H d x:=by
 obtain⟨x,t,rfl,h1,h2⟩:=r.cons_inv;rw[h2.nil_inv];exact⟨x,rfl,h1⟩
theorem aU.two {K:PySem.W.Frag} {O:Addr->Prop} {H:Hp} {d e:D} {xs:List V} (r:aU K O H [d,e] xs):∃x y,xs=[x,y]/\Rep K O H d x/\Rep K O H e y:=by
 obtain⟨x,t,rfl,h1,h2⟩:=r.cons_inv;obtain⟨y,rfl,h3⟩:=h2.one;exact⟨x,y,rfl,h1,h3⟩
variable {a b:Expr} {fa:aA->R (List D)} {p pos:Pos}
theorem eU (hg:Gl X "range") (hm:X.mg "range" =none) (ha:DA X [a] fa) (hs:starEach [a] X.env=[(false,eval a X.env)]:=by rfl):DI X tg (.Call (.Name "range" p) [a] [] pos) (λ ρ=>(fa ρ).bind ju):=by
 refine PI.imp (pi_range1 hg hm ha hs) λ σ H Q q=>?_;obtain⟨ρ,O,j,q⟩:=q;refine go j q λ ds xs H1 e1 s1 r1 j1 h1=>?_;unfold ju at h1;split at h1
 ·obtain⟨x,rfl,rx⟩:=r1.one;split at h1
  ·rename_i i hi;exact⟨i,by rw[rx.int],hi.1,hi.2,fin h1 (YR.rng 0 i.toNat)⟩
  ·exact h1.elim
 ·exact h1.elim
theorem Xf (hg:Gl X "range") (hm:X.mg "range" =none) (ha:DA X [a,b] fa) (hs:starEach [a,b] X.env=[(false,eval a X.env),(false,eval b X.env)]:=by rfl) (hs2:starEach [b] X.env=[(false,eval b X.env)]:=by rfl):
  DI X tg (.Call (.Name "range" p) [a,b] [] pos) (λ ρ=>(fa ρ).bind HW):=by
 refine PI.imp (pi_range2 hg hm ha hs hs2) λ σ H Q q=>?_;obtain⟨ρ,O,j,q⟩:=q;refine go j q λ ds xs H1 e1 s1 r1 j1 h1=>?_;unfold HW at h1;split at h1
 ·obtain⟨x,y,rfl,rx,ry⟩:=r1.two;split at h1
  ·rename_i i k hi;exact⟨i,k,by rw[rx.int,ry.int],hi,fin h1 (YR.rng i (k - i).toNat)⟩
  ·exact h1.elim
 ·exact h1.elim
end
inductive DGp (X:Cx) (gt:D->aA->R aA) (v:V) (σ:St) (H:Hp) (Q:St->Hp->Prop):Prop
 |mk (ρ:aA) (O:Addr->Prop) (d:D) (ρ':aA) (j:In X O H ρ σ) (r:Rep X.K O H d v) (e:gt d ρ= .ok ρ') (q:∀σ',In X O H ρ' σ'->Q σ' H):DGp X gt v σ H Q
noncomputable def DG (X:Cx) (tg:Expr) (gt:D->aA->R aA):Prop:=PG X tg λ v σ H Q=>DGp X gt v σ H Q
inductive adI (X:Cx) (gt:List D->aA->R aA) (vs:List V) (σ:St) (H:Hp) (Q:St->Hp->Prop):Prop
 |mk (ρ:aA) (O:Addr->Prop) (ds:List D) (ρ':aA) (j:In X O H ρ σ) (r:aU X.K O H ds vs) (e:gt ds ρ= .ok ρ') (q:∀σ',In X O H ρ' σ'->Q σ' H):adI X gt vs σ H Q
noncomputable def DGs (X:Cx) (ts:List Expr) (gt:List D->aA->R aA):Prop:=PGs X ts λ vs σ H Q=>adI X gt vs σ H Q
section
variable {X:Cx} {pos:Pos}
theorem In.set {O:Addr->Prop} {H:Hp} {ρ:aA} {σ:St} (j:In X O H ρ σ) {i:Nat} (hi:i < X.N.length) {d:D} {v:V} (r:Rep X.K O H d v):In X O H (ρ.set i (some (.val d))) (σ.set i (some v)):=by
 have h1:i < ρ.length:=by rw[j.nF];exact hi
 have h2:i < σ.length:=by rw[j.len];exact hi
 refine⟨⟨λ k e q=>?_,λ k l e e' u hkl qk ql ok ol sk sl=>?_⟩,j.al,by rw[List.length_set];exact j.len,by rw[List.length_set];exact j.nF⟩
 ·by_cases hk:k=i
  ·subst hk;rw[List.getElem?_set_self h1] at q;cases q;exact⟨v,List.getElem?_set_self h2,r⟩
  ·rw[List.getElem?_set_ne (Ne.symm hk)] at q;obtain⟨u,q1,q2⟩:=j.env.get k e q;exact⟨u,by rw[List.getElem?_set_ne (Ne.symm hk)];exact q1,q2⟩
 ·have hk:k≠i:=λ z=>by subst z;rw[List.getElem?_set_self h1] at qk;cases qk;cases ok
  have hl:l≠i:=λ z=>by subst z;rw[List.getElem?_set_self h1] at ql;cases ql;cases ol
  rw[List.getElem?_set_ne (Ne.symm hk)] at qk sk;rw[List.getElem?_set_ne (Ne.symm hl)] at ql sl;exact j.env.sep k l e e' u hkl qk ql ok ol sk sl
noncomputable def aM (i:Nat) (d:D) (ρ:aA):R aA:= .ok (ρ.set i (some (.val d)))
theorem bA (i:Nat) {x:Str} (hN:X.N.Nodup) (hi:X.N[i]?=some x:=by rfl) (hx:Loc X.env.scope x:=by first |exact Or.inl rfl |exact Or.inr rfl) (hf:X.fn x=true\/X.env.scope.names.lookup x=some .local:=by first |exact .inl rfl |exact .inr rfl):DG X (.Name x pos) (aM i):=by
 intro pins s σ H v u Q I r h;obtain⟨ρ,O,d,ρ',j,rd,e,q⟩:=h;cases e;exact pg_name hN hi hx hf pins s σ H v u Q I r (q _ (j.set (List.getElem?_eq_some_iff.mp hi).1 rd))
noncomputable def nilG:List D->aA->R aA
 |[],ρ=> .ok ρ
 |_,_=> .bad
noncomputable def bC (t:D->aA->R aA) (u:List D->aA->R aA):List D->aA->R aA
 |d::ds,ρ=>(t d ρ).bind λ ρ'=>u ds ρ'
 |_,_=> .bad
theorem iK:DGs X [] nilG:=by
 intro pins s σ H vs us Q I r h;obtain⟨ρ,O,ds,ρ',j,rd,e,q⟩:=h;cases ds with
 |nil=>cases e;exact pgs_nil pins s σ H vs us Q I r ⟨rd.nil_inv,q _ j⟩
 |cons d ds=>cases e
theorem cg {e:Expr} {es:List Expr} {t:D->aA->R aA} {u:List D->aA->R aA} (h1:DG X e t) (h2:DGs X es u)
  (hs:(assignEach (e::es) X.env).map (·.2)=assign e X.env::(assignEach es X.env).map (·.2):=by rfl):DGs X (e::es) (bC t u):=by
 intro pins s σ H vs us Q I r h;obtain⟨ρ,O,ds,ρ',j,rd,e,q⟩:=h;cases ds with
 |nil=>cases e
 | cons d ds=>
  obtain⟨x,xs,rfl,rx,rxs⟩:=rd.cons_inv;have e':(t d ρ).bind (λ ρ'=>u ds ρ')= .ok ρ':=e;cases q1:t d ρ with
  |bad=>rw[q1] at e';cases e'
  |err c=>rw[q1] at e';cases e'
  | ok ρ1=>
   rw[q1] at e';refine pgs_cons h1 h2 hs pins s σ H _ us Q I r ⟨x,xs,rfl,ρ,O,d,ρ1,j,rx,q1,λ σ1 j1=>?_⟩;exact⟨ρ1,O,ds,ρ',j1,rxs,e',q⟩
noncomputable def dj (u:List D->aA->R aA):D->aA->R aA
 | .tup ds,ρ=>u ds ρ
 |_,_=> .bad
noncomputable def dB (n:Nat) (u:List D->aA->R aA):List D->aA->R aA:=λ ds ρ=>if ds.length=n then u ds ρ else .bad
theorem jG {es:List Expr} {k:Nat} {u:List D->aA->R aA} {n:Nat} (hc:X.calm=true) (h:DGs X es u)
  (hn:(assignEach es X.env).length=n:=by rfl) (hst:(assignEach es X.env).findIdx? (·.1)=none:=by rfl):DG X (.Tuple es k pos) (dj (dB n u)):=by
 intro pins s σ H v w Q I r q;obtain⟨ρ,O,d,ρ',j,rd,e,q⟩:=q;cases d with
 | tup ds=>
  obtain⟨a,xs,rfl,hq,rs⟩:=rd.tup;have e':(if ds.length=n then u ds ρ else .bad)= .ok ρ':=e;by_cases hl:ds.length=n
  ·rw[if_pos hl] at e';exact pg_tup hc h hn hst pins s σ H _ w Q I r ⟨a,xs,rfl,hq,by rw[<-rs.length];exact hl,ρ,O,ds,ρ',j,rs,e',q⟩
  ·rw[if_neg hl] at e';cases e'
 |_=>cases e
end
noncomputable def nH (x:Str):List Str->Nat
 |[]=>0
 |y::r=>if x=y then 0 else nH x r+1
theorem yj {x:Str}:∀{N:List Str},x∈N->N[nH x N]?=some x
 |[],h=>by simp at h
 | y ::r,h=>by
  unfold nH;by_cases e:x=y
  ·rw[if_pos e,e];rfl
  ·rw[if_neg e];rcases List.mem_cons.mp h with z |z
   ·exact absurd z e
   ·simpa using yj z
noncomputable def pull {α:Type} (N caps:List Str) (n:Nat) (l:List (Option α)):List (Option α):=List.replicate n none++caps.map λ x=>(l[nH x N]?).join
theorem yp {α:Type} (N caps:List Str) (n:Nat) (l:List (Option α)):(pull N caps n l).length=n+caps.length:=by simp[pull]
theorem join_some {α:Type} {o:Option (Option α)} {a:α} (h:o.join=some a):o=some (some a):=by
 cases o with
 |none=>cases h
 |some o=>exact congrArg some h
theorem tY {α:Type} {N caps:List Str} {n:Nat} {l:List (Option α)} {i:Nat} {a:α} (h:(pull N caps n l)[i]?=some (some a)):∃j x,i=n+j/\caps[j]?=some x/\l[nH x N]?=some (some a):=by
 unfold pull at h;by_cases hi:i < n
 ·rw[List.getElem?_append_left (by simpa using hi),List.getElem?_replicate,if_pos hi] at h;cases h
 ·rw[List.getElem?_append_right (by simpa using hi),List.length_replicate,List.getElem?_map] at h;cases e:caps[i - n]? with
  |none=>rw[e] at h;cases h
  | some x=>
   rw[e] at h;exact⟨i - n,x,by omega,e,join_some (Option.some.inj h)⟩
theorem HX {α:Type} {N caps:List Str} {n:Nat} {l:List (Option α)} {j:Nat} {x:Str} (h:caps[j]?=some x):(pull N caps n l)[n+j]?=some (l[nH x N]?).join:=by
 unfold pull;rw[List.getElem?_append_right (by simp),List.length_replicate,List.getElem?_map,show n+j - n=j by omega,h];rfl
noncomputable def d8 (sc:Scope):List Str:=(sc.names.filter λ x=>decide (x.2= .free)).map (·.1)
noncomputable def En (outer sc:Scope) (ts N:List Str):Bool:=
 decide (sc.kind= .function) && sc.names.all (λ x=>(!decide (x.2= .local)) || decide (sc.names.lookup x.1=some .local)) && sc.names.all (λ x=>(!decide (x.2= .cell)) || decide (sc.names.lookup x.1=some .cell)) &&
  (d8 sc).all (λ x=>(decide (outer.names.lookup x=some .cell) || decide (outer.names.lookup x=some .free)) && decide (x∈N) && decide (sc.names.lookup x=some .free)) && decide (ts++d8 sc).Nodup
structure Cr (outer sc:Scope) (ts N:List Str):Prop where
 kind:sc.kind= .function
 loc:∀x∈sc.names,x.2= .local->sc.names.lookup x.1=some .local
 cel:∀x∈sc.names,x.2= .cell->sc.names.lookup x.1=some .cell
 out:∀x∈d8 sc,outer.names.lookup x=some .cell\/outer.names.lookup x=some .free
 mem:∀x∈d8 sc,x∈N
 JN:∀x∈d8 sc,sc.names.lookup x=some .free
 nd:(ts++d8 sc).Nodup
theorem afx {outer sc:Scope} {ts N:List Str} (h:En outer sc ts N=true):Cr outer sc ts N:=by
 unfold En at h;simp only[Bool.and_eq_true,List.all_eq_true,decide_eq_true_eq,Bool.or_eq_true,Bool.not_eq_true',decide_eq_false_iff_not] at h;obtain⟨⟨⟨⟨h1,h2⟩,h3⟩,h4⟩,h5⟩:=h;exact⟨h1,λ x hx e=>(h2 x hx).resolve_left λ n=>n e,λ x hx e=>(h3 x hx).resolve_left λ n=>n e,λ x hx=>(h4 x hx).1.1,λ x hx=>(h4 x hx).1.2,λ x hx=>(h4 x hx).2,h5⟩
noncomputable def iu (cs:List (Str×Addr)):List (Str×NameKind)->List (Str×Addr)->List (Str×Addr)
 |[],acc=>acc
 |(n,k)::r,acc=>if k= .free then iu cs r ((n,(cs.lookup n).getD 0)::acc) else iu cs r acc
theorem Vb {scope:Scope} {env:PySem.Env} (h:∀x∈scope.names,x.2= .free->∃c,env.cells.lookup x.1=some c):closureFor scope env=pure (iu env.cells scope.names []):=by
 unfold closureFor;have all:∀(l:List (Str×NameKind)) (acc:List (Str×Addr)),(∀x∈l,x.2= .free->∃c,env.cells.lookup x.1=some c)->
   (forIn l acc λ x r=>match x with |(name,kind)=>if (kind ==NameKind.free)=true then do let a <-cellOf env name;pure (ForInStep.yield ((name,a)::r)) else pure (ForInStep.yield r):Sem (List (Str×Addr)))=pure (iu env.cells l acc):=by
  intro l
  induction l with
  |nil=>intro acc _;rfl
  | cons x r ih=>
   intro acc hx;obtain⟨n,k⟩:=x;rw[List.forIn_cons];unfold iu;by_cases hk:k= .free
   ·obtain⟨c,hc⟩:=hx (n,k) List.mem_cons_self hk;have hc:env.cells.lookup n=some c:=hc;have e1:cellOf env n=pure c:=by unfold cellOf;rw[hc]
    subst hk;simp only[e1,hc,Option.getD_some,beq_self_eq_true,if_true,pure_bind];exact ih _ λ y hy=>hx y (List.mem_cons_of_mem _ hy)
   ·have e2:(k ==NameKind.free)=false:=by simpa using hk
    simp only[e2,Bool.false_eq_true,if_false,pure_bind,hk];exact ih _ λ y hy=>hx y (List.mem_cons_of_mem _ hy)
 simpa using all scope.names [] h
theorem mU (cs:List (Str×Addr)):∀(l:List (Str×NameKind)) (acc:List (Str×Addr)),iu cs l acc=iu cs l []++acc
 |[],acc=>rfl
 | (n,k)::r,acc=>by
  unfold iu;split
  ·rw[mU cs r (_::acc),mU cs r [_]];simp
  ·exact mU cs r acc
theorem tZ (cs:List (Str×Addr)):∀(l:List (Str×NameKind)) {n:Str} {c:Addr},(n,c)∈iu cs l []->(n,NameKind.free)∈l/\c=(cs.lookup n).getD 0
 |[],_,_,h=>by simp[iu] at h
 | (m, k)::r,n,c,h=>by
  unfold iu at h;split at h
  ·rename_i hk;rw[mU] at h;rcases List.mem_append.mp h with h |h
   ·obtain⟨h1,h2⟩:=tZ cs r h;exact⟨List.mem_cons_of_mem _ h1,h2⟩
   ·have e:=List.mem_singleton.mp h;cases e;subst hk;exact⟨List.mem_cons_self,rfl⟩
  ·obtain⟨h1,h2⟩:=tZ cs r h;exact⟨List.mem_cons_of_mem _ h1,h2⟩
theorem Eo (cs:List (Str×Addr)):∀(l:List (Str×NameKind)) {n:Str},(n,NameKind.free)∈l->((iu cs l []).lookup n).isSome=true
 |[],_,h=>by simp at h
 | (m, k)::r,n,h=>by
  unfold iu;split
  ·rename_i hk;rw[mU,List.lookup_append];rcases List.mem_cons.mp h with e |h
   ·cases e;simp[List.lookup_cons]
   ·simp[Eo cs r h]
  ·rename_i hk;rcases List.mem_cons.mp h with e |h
   ·cases e;exact absurd rfl hk
   ·exact Eo cs r h
theorem dW:∀(l:List (Str×NameKind)) (n:Nat) (acc:List (Str×Addr)),cellsFrom n l acc=cellsFrom n l []++acc
 |[],_,_=>rfl
 | (m,k)::r,n,acc=>by
  unfold cellsFrom;split
  ·rw[dW r _ (_::acc),dW r _ [_]];simp
  ·exact dW r n acc
theorem jH:∀(l:List (Str×NameKind)) (n:Nat) {x:Str} {c:Addr},(x,c)∈cellsFrom n l []->(x,NameKind.cell)∈l/\n<=c
 |[],_,_,_,h=>by simp[cellsFrom] at h
 | (m, k)::r,n,x,c,h=>by
  unfold cellsFrom at h;split at h
  ·rename_i hk;rw[dW] at h;rcases List.mem_append.mp h with h |h
   ·obtain⟨h1,h2⟩:=jH r _ h;exact⟨List.mem_cons_of_mem _ h1,by omega⟩
   ·have e:=List.mem_singleton.mp h;cases e;have:k= .cell:=by simpa using hk
    subst this;exact⟨List.mem_cons_self,Nat.le_refl _⟩
  ·obtain⟨h1,h2⟩:=jH r _ h;exact⟨List.mem_cons_of_mem _ h1,h2⟩
section
variable {M:Model} {A:Around} {E:Value->Shared->Prop} {s:Shared}
theorem Xg {scope:Scope} {globals:Addr} {cl:List (Str×Addr)} {qual:Str} {env:PySem.Env} {Q:PySem.Env->Shared->Prop}
  (hQ:Q (newEnv scope s.heap.objs.size globals (cellsFrom (s.heap.objs.size+1) scope.names cl) qual none .none (some env) builtinsNs) {s with heap:=pushCells (s.heap.push {cls:= .type "dict",data:= .dict #[]}) scope.names}):
  wpAny M A (newFunctionEnv scope globals cl [] qual none .none (some env)) Q E s:=by
 simp only[newFunctionEnv,Option.isSome_some,if_true];refine wpAny_bind (wpAny_alloc ?_);refine wpAny_bind (wpAny_layCells _ (λ name kind cells=>by cases hkc:kind ==NameKind.cell <;> simp[hkc]) _ _ _ _ ?_);rw[show ({s with heap:=s.heap.push {cls:= .type "dict",data:= .dict #[]}}:Shared).heap.objs.size=s.heap.objs.size+1 from Heap.size_push ..];exact wpAny_bind (wpAny_pure (wpAny_pure hQ))
end
noncomputable def gj (scope:Scope) (env:PySem.Env) (C:Addr):PySem.Env:=
 {scope:=relabel scope env,locals:=C,globals:=env.globals,cells:=cellsFrom (C+1) scope.names (iu env.cells scope.names []),qual:=env.qual,func:=none,code:=env.code,frame:=env.frame,builtins:=env.builtins}
noncomputable def cM (X:Cx) (scope:Scope) (ts:List Str) (C:Addr) (s:Shared) (H:Hp) (ex:List Addr):Cx where
 prog:=X.prog
 w:=X.w
 K:=X.K
 mg:=X.mg
 base:=X.base
 A:=X.A
 N:=ts++d8 scope
 s₀:=s
 H₀:=H
 env:=gj scope X.env C
 outer:=X.stack
 stack:=X.stack
 ex:=ex
 fn:=λ x=>decide (scope.names.lookup x=some .cell)
 calm:=X.calm
 pn:=[]
 xe:=λ _ _=>False
theorem pH {scope:Scope} {env:PySem.Env} {x:Str}:∀{names:List (Str×NameKind)},
  (names.map λ (n,k)=>if (k ==NameKind.free && env.scope.kind == .function && env.kindOf n ==some .cell) then (n,NameKind.cell) else (n,k)).lookup x =
   (names.lookup x).map λ k=>if (k ==NameKind.free && env.scope.kind == .function && env.kindOf x ==some .cell) then .cell else k
 |[]=>rfl
 | (n, k)::r=>by
  have ih:= @pH scope env x r;rw[List.map_cons];show List.lookup x ((if (k ==NameKind.free && env.scope.kind == .function && env.kindOf n ==some .cell)=true then (n,NameKind.cell) else (n,k))::_)=_;cases hx:x ==n with
  | true=>
   have e:x=n:=by simpa using hx
   subst e;by_cases hc:(k ==NameKind.free && env.scope.kind == .function && env.kindOf x ==some .cell)=true
   ·rw[if_pos hc];simp only[List.lookup_cons,beq_self_eq_true,Option.map_some,hc,if_true]
   ·rw[if_neg hc];simp only[List.lookup_cons,beq_self_eq_true,Option.map_some,hc,if_false] <;> rfl
  | false=>
   by_cases hc:(k ==NameKind.free && env.scope.kind == .function && env.kindOf n ==some .cell)=true
   ·rw[if_pos hc];simp only[List.lookup_cons,hx];exact ih
   ·rw[if_neg hc];simp only[List.lookup_cons,hx];exact ih
theorem uc {sc:Scope} {x:Str} (h:(x,NameKind.free)∈sc.names):x∈d8 sc:=List.mem_map.mpr ⟨(x,.free),List.mem_filter.mpr ⟨h,by simp⟩,rfl⟩
theorem abV {sc:Scope} {x:Str} (h:x∈d8 sc):(x,NameKind.free)∈sc.names:=by
 obtain⟨⟨n,k⟩,h1,h2⟩:=List.mem_map.mp h;obtain⟨h3,h4⟩:=List.mem_filter.mp h1;have h4:k=NameKind.free:=by simpa using h4
 subst h4;have h2:n=x:=h2;subst h2;exact h3
section
variable {X:Cx} {scope:Scope} {ts:List Str} {C:Addr}
theorem kW (B:Cr X.env.scope scope ts X.N) (has:∀x,(X.env.kindOf x=some .cell\/X.env.kindOf x=some .free)->∃c,X.env.cells.lookup x=some c) {x:Str} {c:Addr} (h:(gj scope X.env C).cells.lookup x=some c):
  (scope.names.lookup x=some .cell/\@LE.le Nat _ (C+1) c)\/(x∈d8 scope/\X.env.cells.lookup x=some c):=by
 have h:(cellsFrom (C+1) scope.names (iu X.env.cells scope.names [])).lookup x=some c:=h;rw[dW,List.lookup_append] at h;cases e:(cellsFrom (C+1) scope.names []).lookup x with
 | some c'=>
  rw[e] at h;have e2:c'=c:=by simpa using h
  subst e2;obtain⟨h1,h2⟩:=jH _ _ (PySem.mem_of_lookup e);exact .inl ⟨B.cel _ h1 rfl,h2⟩
 | none=>
  rw[e] at h;have h:(iu X.env.cells scope.names []).lookup x=some c:=by simpa using h
  obtain⟨h1,h2⟩:=tZ _ _ (PySem.mem_of_lookup h);have hx:=uc h1;obtain⟨c',hc'⟩:=has x (B.out x hx);rw[hc'] at h2;have h2:c=c':=h2;subst h2;exact .inr ⟨hx,hc'⟩
theorem MN (B:Cr X.env.scope scope ts X.N) {x:Str} {c:Addr} (hx:x∈d8 scope) (hc:X.env.cells.lookup x=some c) (has:∀x,(X.env.kindOf x=some .cell\/X.env.kindOf x=some .free)->∃c,X.env.cells.lookup x=some c):(gj scope X.env C).cells.lookup x=some c:=by
 have hs:=Eo X.env.cells scope.names (abV hx);obtain⟨c',e⟩:=Option.isSome_iff_exists.mp hs;have hl:∃d,(gj scope X.env C).cells.lookup x=some d:=by
  show ∃d,(cellsFrom (C+1) scope.names (iu X.env.cells scope.names [])).lookup x=some d;rw[dW,List.lookup_append,e];cases (cellsFrom (C+1) scope.names []).lookup x with
  |none=>exact⟨c',rfl⟩
  |some d=>exact⟨d,rfl⟩
 obtain⟨d,hd⟩:=hl;rcases kW B has hd with⟨h1,_⟩ |⟨_,h2⟩
 ·rw[B.JN x hx] at h1;cases h1
 ·rw[hc] at h2;cases h2;exact hd
theorem aaq (B:Cr X.env.scope scope ts X.N) {x:Str} (hx:x∈d8 scope):(gj scope X.env C).kindOf x=some .cell\/(gj scope X.env C).kindOf x=some .free:=by
 show (relabel scope X.env).names.lookup x=some .cell\/(relabel scope X.env).names.lookup x=some .free;have e:(relabel scope X.env).names.lookup x=(scope.names.lookup x).map λ k=>if (k ==NameKind.free && X.env.scope.kind == .function && X.env.kindOf x ==some .cell) then .cell else k:=pH (scope:=scope);rw[e,B.JN x hx];simp only[Option.map_some];split
 ·exact .inl rfl
 ·exact .inr rfl
end
noncomputable def MP {α:Type}:R α->R α
 | .err _=> .bad
 | .ok a=> .ok a
 | .bad=> .bad
@[simp] theorem FN {α:Type} (a:α):MP (R.ok a)= .ok a:=rfl
noncomputable def kj (k:D->R (Option D)):List D->R (List D)
 |[]=> .ok []
 |x::xs=>(MP (k x)).bind λ o=>(kj k xs).bind λ ds=> .ok (o.toList++ds)
noncomputable def pI (gt:D->aA->R aA) (ft:aA->R Bool) (fe:aA->R D) (ρ:aA) (x:D):R (Option D):=
 (gt x ρ).bind λ ρ1=>(ft ρ1).bind λ b=>if b=true then (fe ρ1).bind λ d=> .ok (some d) else .ok none
noncomputable def yq:Option Ent->Option Ent
 |some (.val d)=>some (.val d)
 |_=>none
noncomputable def Cu (n:Nat) (caps:List Nat) (ρ:aA):aA:=List.replicate n none++caps.map λ k=>((ρ.map yq)[k]?).join
noncomputable def bU (n:Nat) (caps:List Nat) (fi:aA->R (List D)) (gt:D->aA->R aA) (ft:aA->R Bool) (fe:aA->R D):aA->R D:=
 λ ρ=>(fi ρ).bind λ xs=>(kj (pI gt ft fe (Cu n caps ρ)) xs).bind (cap .lst)
noncomputable def qX (n:Nat) (gt:D->aA->R aA):Prop:=∀d ρ ρ',gt d ρ= .ok ρ'->∀i,n<=i->ρ'[i]?=ρ[i]?
noncomputable def Cv (n:Nat) (gt:List D->aA->R aA):Prop:=∀d ρ ρ',gt d ρ= .ok ρ'->∀i,n<=i->ρ'[i]?=ρ[i]?
theorem aV {n i:Nat} (h:i < n):qX n (aM i):=λ d ρ ρ' e j hj=>by
 cases e;rw[List.getElem?_set_ne (by omega)]
theorem eV {n:Nat}:Cv n nilG:=λ d ρ ρ' e j hj=>by
 cases d with
 |nil=>cases e;rfl
 |cons _ _=>cases e
theorem bK {n:Nat} {t:D->aA->R aA} {u:List D->aA->R aA} (h1:qX n t) (h2:Cv n u):Cv n (bC t u):=λ d ρ ρ' e j hj=>by
 cases d with
 |nil=>cases e
 | cons d ds=>
  have e':(t d ρ).bind (λ ρ'=>u ds ρ')= .ok ρ':=e;cases q:t d ρ with
  |ok ρ1=>rw[q] at e';rw[h2 ds ρ1 ρ' e' j hj,h1 d ρ ρ1 q j hj]
  |err c=>rw[q] at e';cases e'
  |bad=>rw[q] at e';cases e'
theorem eX {n m:Nat} {u:List D->aA->R aA} (h:Cv n u):qX n (dj (dB m u)):=λ d ρ ρ' e j hj=>by
 cases d with
 | tup ds=>
  have e':(if ds.length=m then u ds ρ else .bad)= .ok ρ':=e;by_cases hl:ds.length=m
  ·rw[if_pos hl] at e';exact h ds ρ ρ' e' j hj
  ·rw[if_neg hl] at e';cases e'
 |_=>cases e
noncomputable def M4 (Y:Cx) (ifs:List Expr) (ft:aA->R Bool):Prop:=∀(pins:List (Addr×Obj)) (s:Shared) (σ:St) (H:Hp) (Q:Bool->Hp->Prop),Inv Y pins σ H s->tG Y rB ft σ H Q->
 wpAny (model Y.prog Y.w) Y.A (forIn ifs true λ c r=>if r=true then do let ok <-isTrue c Y.env (eval c Y.env);pure (ForInStep.yield ok) else pure (ForInStep.yield r)) (TP Y pins σ Q) Y.xe s
theorem cA {Y:Cx}:M4 Y [] (λ _=> .ok true):=λ pins s σ H Q I h=>by
 obtain⟨ρ,O,j,h⟩:=h;exact wpAny_tests_nil ⟨H,I,fin h rfl⟩
theorem Cw {Y:Cx} {c:Expr} {p:aA->R Bool} (hc:DT Y c p):M4 Y [c] p:=λ pins s σ H Q I h=>wpAny_tests_one (hc pins s σ H Q I h)
theorem Xh {k:D->R (Option D)} {x:D} {xs:List D} {all:List D} (h:kj k (x::xs)= .ok all):∃o rest,k x= .ok o/\kj k xs= .ok rest/\all=o.toList++rest:=by
 have h:(MP (k x)).bind (λ o=>(kj k xs).bind λ ds=> .ok (o.toList++ds))= .ok all:=h;cases e:k x with
 |bad=>rw[e] at h;cases h
 |err c=>rw[e] at h;cases h
 | ok o=>
  rw[e] at h;cases e2:kj k xs with
  |bad=>rw[e2] at h;cases h
  |err c=>rw[e2] at h;cases h
  | ok rest=>
   rw[e2] at h;cases h;exact⟨o,rest,rfl,rfl,rfl⟩
theorem FQ {k:D->R (Option D)}:∀{xs:List D} {c:Str},kj k xs≠.err c
 |[],c=>λ h=>by cases h
 | x ::xs,c=>λ h=>by
  have h:(MP (k x)).bind (λ o=>(kj k xs).bind λ ds=> .ok (o.toList++ds))= .err c:=h;cases e:k x with
  |bad=>rw[e] at h;cases h
  |err c=>rw[e] at h;cases h
  | ok o=>
   rw[e] at h;cases e2:kj k xs with
   |bad=>rw[e2] at h;cases h
   |err c'=>exact FQ e2
   |ok rest=>rw[e2] at h;cases h
section
variable {X:Cx}
theorem Vc {o:Option Ent} {e:Ent} (h:yq o=some e):o=some e/\e.Tr=true:=by
 cases o with
 |none=>cases h
 | some e'=>
  cases e' with
  |val d=>cases h;exact⟨rfl,rfl⟩
  |lst _=>cases h
  |zm _=>cases h
  |obj _=>cases h
theorem yt {ρ:aA} {i:Nat} {e:Ent} (h:(ρ.map yq)[i]?=some (some e)):ρ[i]?=some (some e)/\e.Tr=true:=by
 rw[List.getElem?_map] at h;cases q:ρ[i]? with
 |none=>rw[q] at h;cases h
 | some o=>
  rw[q] at h;obtain⟨h1,h2⟩:=Vc (Option.some.inj h);rw[h1];exact⟨rfl,h2⟩
theorem In.vals {O:Addr->Prop} {H:Hp} {ρ:aA} {σ:St} (j:In X O H ρ σ):In X O H (ρ.map yq) σ:=
 ⟨⟨λ i e h=>j.env.get i e (yt h).1,λ i k e e' v hik hi hk=>j.env.sep i k e e' v hik (yt hi).1 (yt hk).1⟩,j.al,j.len,by rw[List.length_map];exact j.nF⟩
theorem Vd {N caps:List Str} {ks:List Nat} {n:Nat} {ρ:aA} (h:caps.map (λ x=>nH x N)=ks):pull N caps n (ρ.map yq)=Cu n ks ρ:=by
 unfold pull Cu;rw[<-h,List.map_map];rfl
theorem abW {scope:Scope} {ts:List Str} {pins:List (Addr×Obj)} {σ:St} {H:Hp} {s:Shared} {fp:List Addr} (I:Inv X pins σ H s) (B:Cr X.env.scope scope ts X.N)
  (hf:∀b∈fp,FpOk X pins H b) (ho:∀b∈fp,b < s.heap.objs.size) {h4:Heap} {C:Nat} (hC:C=s.heap.objs.size+1)
  (e4:h4=pushCells ((s.heap.push {cls:= .type "list",dict:=none,data:= .seq ([]:List Value).toArray}).push {cls:= .type "dict",data:= .dict #[]}) scope.names):
  Inv (cM X scope ts C s H fp) [] (pull X.N (d8 scope) ts.length σ) (upd H s.heap.objs.size (.lst [])) {s with heap:=h4}:=by
 have hD:H s.heap.objs.size=none:=I.hok.fresh (Nat.le_refl _);have abA:∀b o,(s.heap.push {cls:= .type "list",dict:=none,data:= .seq ([]:List Value).toArray}).get? b=some o->h4.get? b=some o:=λ b o e=>by
  rw[e4];exact pushCells_keeps _ _ b o (Heap.get?_push_of_some _ e)
 have keep:∀b o,s.heap.get? b=some o->h4.get? b=some o:=λ b o e=>abA b o (Heap.get?_push_of_some _ e);have sz3:(s.heap.push {cls:= .type "list",dict:=none,data:= .seq ([]:List Value).toArray}).objs.size=s.heap.objs.size+1:=Heap.size_push ..;have hns:h4.Ns C λ _=>none:=by
  rw[e4,hC,<-sz3];exact (Heap.Ns.new _ (.type "dict")).keeps (pushCells_keeps _ _)
 have ok:=cellsFrom_ok scope.names ((s.heap.push {cls:= .type "list",dict:=none,data:= .seq ([]:List Value).toArray}).push {cls:= .type "dict",data:= .dict #[]}) (C+1) [] ⟨λ _ _ hm=>(nomatch hm),List.Pairwise.nil⟩ (by rw[Heap.size_push,sz3,hC];exact Nat.le_refl _);rw[Heap.size_push,sz3,<-hC,<-e4] at ok;have abX:∀x c,(gj scope X.env C).cells.lookup x=some c->scope.names.lookup x=some .cell->h4.IsCell c none:=λ x c h hk=>by
  have h:(cellsFrom (C+1) scope.names (iu X.env.cells scope.names [])).lookup x=some c:=h;rw[dW,List.lookup_append] at h;cases e:(cellsFrom (C+1) scope.names []).lookup x with
  | some c'=>
   rw[e] at h;have e2:c'=c:=by simpa using h
   subst e2;exact (ok.empty x c' (PySem.mem_of_lookup e)).1
  | none=>
   rw[e] at h;have h:(iu X.env.cells scope.names []).lookup x=some c:=by simpa using h
   have:=B.JN x (uc (tZ _ _ (PySem.mem_of_lookup h)).1);rw[hk] at this;cases this
 have Ve:∀x (c:Nat),X.env.cells.lookup x=some c->c < s.heap.objs.size:=λ x c e=>by
  obtain⟨v,q⟩:=I.cell x c e;exact q.lt
 have adJ:∀x c,(gj scope X.env C).cells.lookup x=some c->∃v,h4.IsCell c v:=λ x c h=>by
  rcases kW B I.ok.has h with⟨h1,_⟩ |⟨_,h2⟩
  ·exact⟨_,abX x c h h1⟩
  ·obtain⟨v,q⟩:=I.cell x c h2;exact⟨v,q.keeps keep⟩
 refine⟨⟨I.ok.mod,B.kind,I.ok.glob,I.ok.blt,by show @LE.le Nat _ s.heap.objs.size C;omega,?inj,?has,?cab,I.ok.hd,I.ok.frames,.inl rfl,?exf,I.bs,Nat.le_trans I.ok.bsz I.sz,?noex,?exfs,I.stack,I.stkFree⟩,
  rfl,I.bare,Un.laid keep (Nat.le_refl _) hD,⟨_,hns,?loc⟩,adJ,?free,?freeC,λ p hp=>absurd (show p∈([]:List (Addr×Obj)) from hp) (by simp),I.hok.laid keep (Nat.le_refl _) ?new,?len⟩
 case inj=>
  intro x y c h1 h2;have h1:(gj scope X.env C).cells.lookup x=some c:=h1;have h2:(gj scope X.env C).cells.lookup y=some c:=h2;rcases kW B I.ok.has h1 with⟨a1,a2⟩ |⟨a1,a2⟩ <;> rcases kW B I.ok.has h2 with⟨b1,b2⟩ |⟨b1,b2⟩
  ·-- both its own
   have look:∀z,(gj scope X.env C).cells.lookup z=some c->scope.names.lookup z=some .cell->(z,c)∈cellsFrom (C+1) scope.names []:=λ z h hk=>by
    have h:(cellsFrom (C+1) scope.names (iu X.env.cells scope.names [])).lookup z=some c:=h;rw[dW,List.lookup_append] at h;cases e:(cellsFrom (C+1) scope.names []).lookup z with
    | some c'=>
     rw[e] at h;have e2:c'=c:=by simpa using h
     subst e2;exact PySem.mem_of_lookup e
    | none=>
     rw[e] at h;have h:(iu X.env.cells scope.names []).lookup z=some c:=by simpa using h
     have:=B.JN z (uc (tZ _ _ (PySem.mem_of_lookup h)).1);rw[hk] at this;cases this
   exact name_of_addr ok.apart (look x h1 a1) (look y h2 b1)
  ·have:=Ve y c b2;omega
  ·have:=Ve x c a2;omega
  ·exact I.ok.inj x y c a2 b2
 case has=>
  intro x hx;have hx:(relabel scope X.env).names.lookup x=some .cell\/(relabel scope X.env).names.lookup x=some .free:=hx;have hx:(scope.names.map λ (n,k)=>if (k ==NameKind.free && X.env.scope.kind == .function && X.env.kindOf n ==some .cell) then (n,NameKind.cell) else (n,k)).lookup x=some .cell\/(scope.names.map λ (n,k)=>if (k ==NameKind.free && X.env.scope.kind == .function && X.env.kindOf n ==some .cell) then (n,NameKind.cell) else (n,k)).lookup x=some .free:=hx;rw[pH (scope:=scope)] at hx;cases e:scope.names.lookup x with
  |none=>rw[e] at hx;rcases hx with z |z <;> cases z
  | some k=>
   rw[e] at hx;by_cases hk:k= .free
   ·subst hk;have hm:=uc (PySem.mem_of_lookup e);obtain⟨c,hc⟩:=I.ok.has x (B.out x hm);exact⟨c,MN B hm hc I.ok.has⟩
   ·have hk':(k ==NameKind.free)=false:=by simpa using hk
    simp only[Option.map_some,hk',Bool.false_and,Bool.false_eq_true,if_false] at hx;have hc:k= .cell:=by
     rcases hx with z |z
     ·exact Option.some.inj z
     ·exact absurd (Option.some.inj z) hk
    subst hc;have q:=PySem.W.cellsFrom_some scope.names (C+1) (iu X.env.cells scope.names []) (.inl e);exact Option.isSome_iff_exists.mp q
 case cab=>
  intro x c hfn h;have h:(gj scope X.env C).cells.lookup x=some c:=h;have hfn:scope.names.lookup x=some .cell:=of_decide_eq_true hfn;rcases kW B I.ok.has h with⟨_,a2⟩ |⟨a1,_⟩
  ·show @LE.le Nat _ s.heap.objs.size c;omega
  ·rw[B.JN x a1] at hfn;cases hfn
 case exf=>
  intro b hb;have hb:b∈fp:=hb;have hl: @LT.lt Nat _ b s.heap.objs.size:=ho b hb;refine⟨by show @Ne Nat b C;omega,λ x c h=>?_⟩;rcases kW B I.ok.has h with⟨_,a2⟩ |⟨_,a2⟩
  ·show @Ne Nat c b;omega
  ·exact (hf b hb).2.2.2.2.1 x c a2
 case noex=>
  intro b o e hb;have hb:b∈fp:=hb;rcases (hf b hb).2.2.2.1 with z |z
  ·exact I.ok.noex b o e z
  ·exact absurd (Nat.lt_of_lt_of_le (Heap.lt_size e) (Nat.le_trans I.ok.bsz z)) (Nat.lt_irrefl _)
 case exfs=>
  intro b hb hz;have hb:b∈fp:=hb;have hz:b∈frs X.stack:=hz;rcases List.mem_cons.mp (I.stkSub b hz) with z |z
  ·exact (hf b hb).2.1 z
  ·exact (hf b hb).2.2.1 z
 case loc=>
  intro i x v h1 h2 h3;have h1:(ts++d8 scope)[i]?=some x:=h1;obtain⟨k,y,e1,e2,e3⟩:=tY h2;have hy:x=y:=by
   rw[e1,List.getElem?_append_right (by omega),show ts.length+k - ts.length=k by omega,e2] at h1;exact (Option.some.inj h1).symm
  subst hy;have hm:x∈d8 scope:=List.mem_of_getElem? e2;obtain⟨m,_,hl⟩:=I.loc;have vis:Vis X.env.scope x:=by
   rcases B.out x hm with z |z
   ·exact .inr (.inl z)
   ·exact .inr (.inr z)
  obtain⟨u,ru,lk⟩:=hl (nH x X.N) x v (yj (B.mem x hm)) e3 vis;refine⟨u,ru,.inr ⟨aaq B hm,?_⟩⟩;rcases lk with⟨z,_⟩ |⟨_,c,hc,q⟩
  ·have z:X.env.scope.names.lookup x=some .local:=z;rcases B.out x hm with z' |z' <;> rw[z] at z' <;> cases z'
  ·exact⟨c,MN B hm hc I.ok.has,q.keeps keep⟩
 case free=>
  show upd H s.heap.objs.size (.lst []) C=none;rw[upd_ne (show @Ne Nat C s.heap.objs.size by omega)];exact I.hok.fresh (show @LE.le Nat _ s.heap.objs.size C by omega)
 case freeC=>
  intro x c h;rcases kW B I.ok.has h with⟨_,a2⟩ |⟨_,a2⟩
  ·rw[upd_ne (show @Ne Nat c s.heap.objs.size by omega)];exact I.hok.fresh (show @LE.le Nat _ s.heap.objs.size c by omega)
  ·have:=Ve x c a2;rw[upd_ne (show @Ne Nat c s.heap.objs.size by omega)];exact I.freeC x c a2
 case new=>
  exact⟨Nat.zero_le _,[],0,.nil,abA _ _ (Heap.get?_push_size _ rfl)⟩
 case len=>
  show (pull X.N (d8 scope) ts.length σ).length=(ts++d8 scope).length;rw[yp,List.length_append]
theorem adK {scope:Scope} {ts:List Str} {σ:St} {ρ:aA} {H:Hp} {s:Shared} {fp:List Addr} {O:Addr->Prop} {C:Addr} (B:Cr X.env.scope scope ts X.N) (j:In X O H ρ σ):In (cM X scope ts C s H fp) O H (pull X.N (d8 scope) ts.length ρ) (pull X.N (d8 scope) ts.length σ):=by
 refine⟨⟨λ i e h=>?_,λ i k e e' v hik hi hk oi ok si sk=>?_⟩,j.al,?_,?_⟩
 ·obtain⟨m,x,rfl,e1,e2⟩:=tY h;obtain⟨v,e3,r⟩:=j.env.get _ e e2;exact⟨v,by rw[HX e1,e3];rfl,r⟩
 ·obtain⟨m,x,rfl,e1,e2⟩:=tY hi;obtain⟨m',x',rfl,e1',e2'⟩:=tY hk;have hx:x≠x':=λ z=>by
   subst z;have nd:=(List.nodup_append.mp B.nd).2.1;exact hik (by rw[nodup_ix nd e1 e1'])
  have hm:=B.mem x (List.mem_of_getElem? e1);have hm':=B.mem x' (List.mem_of_getElem? e1');have hne:nH x X.N≠nH x' X.N:=λ z=>by
   have q1:=yj hm;have q2:=yj hm';rw[z,q2] at q1;exact hx (Option.some.inj q1).symm
  rw[HX e1] at si;rw[HX e1'] at sk;exact j.env.sep _ _ e e' v hne e2 e2' oi ok (join_some (Option.some.inj si)) (join_some (Option.some.inj sk))
 ·show (pull X.N (d8 scope) ts.length σ).length=(ts++d8 scope).length;rw[yp,List.length_append]
 ·show (pull X.N (d8 scope) ts.length ρ).length=(ts++d8 scope).length;rw[yp,List.length_append]
end
theorem gH:1000000 < sizeLine:=by rw[sizeLine_eq];decide
section
variable {X:Cx}
theorem In.back {Y:Cx} {O:Addr->Prop} {H:Hp} {ρ ρ1:aA} {σ:St} {n:Nat} (j:In Y O H ρ1 σ) (h0:∀i,i < n->ρ[i]?=some none) (h1:∀i,n<=i->ρ1[i]?=ρ[i]?) (hl:ρ.length=Y.N.length):In Y O H ρ σ:=by
 have sub:∀(i:Nat) e,ρ[i]?=some (some e)->ρ1[i]?=some (some e):=λ i e h=>by
  by_cases hi:i < n
  ·rw[h0 i hi] at h;cases h
  ·rw[h1 i (by omega)];exact h
 exact⟨⟨λ i e h=>j.env.get i e (sub i e h),λ i k e e' v hik hi hk=>j.env.sep i k e e' v hik (sub i e hi) (sub k e' hk)⟩,j.al,j.len,hl⟩
theorem Xi {α:Type} {N caps:List Str} {n:Nat} {l:List (Option α)} {i:Nat} (h:i < n):(pull N caps n l)[i]?=some none:=by
 unfold pull;rw[List.getElem?_append_left (by simpa using h),List.getElem?_replicate,if_pos h]
theorem In.go {Y:Cx} {O O':Addr->Prop} {H H':Hp} {ρ:aA} {σ:St} (j:In Y O H ρ σ) (hv:∀(i:Nat) e,ρ[i]?=some (some e)->e.Tr=true) (r:fU Y.K O H O' H') (al:∀a,O' a->∃o,H' a=some o):In Y O' H' ρ σ:=by
 refine⟨⟨λ i e h=>?_,λ i k e e' v _ hi _ oi=>?_⟩,al,j.len,j.nF⟩
 ·obtain⟨v,h1,h2⟩:=j.env.get i e h;refine⟨v,h1,?_⟩;cases e with
  |val d=>exact Rep.go r h2
  |lst _=>cases hv i _ h
  |zm _=>cases hv i _ h
  |obj _=>cases hv i _ h
 ·rw[abU (hv i e hi)] at oi;cases oi
theorem JQ {N caps:List Str} {n:Nat} {ρ:aA}:∀(i:Nat) e,(pull N caps n (ρ.map yq))[i]?=some (some e)->e.Tr=true:=λ i e h=>by
 obtain⟨_,_,_,_,q⟩:=tY h;exact (yt q).2
end
inductive So where
 |bad |nx (ρ:aA) |rt (d:D) |bk (ρ:aA) |ct (ρ:aA) |ex (c:Str) (ρ:aA)
structure At (X:Cx) (H0:Hp) (O0 O:Addr->Prop) (H:Hp) (ρ:aA) (σ:St):Prop where
 same:Same H0 H
 fD:fU X.K O0 H0 O H
 sub:∀a,O0 a->O a
 inn:In X O H ρ σ
 mine:∀(i:Nat) e a,ρ[i]?=some (some e)->e.own=true->σ[i]?=some (some (.ref a))->H0 a=none/\¬O0 a
noncomputable def wY (X:Cx) (H0:Hp) (O0 O:Addr->Prop) (H:Hp) (E:Ends) (o:So):Prop:=match o with
 | .nx ρ'=>∀σ' H' O',At X H0 O0 O' H' ρ' σ'->fU X.K O H O' H'->E.nx σ' H'
 | .bk ρ'=>∀σ' H' O',At X H0 O0 O' H' ρ' σ'->fU X.K O H O' H'->E.bk σ' H'
 | .ct ρ'=>∀σ' H' O',At X H0 O0 O' H' ρ' σ'->fU X.K O H O' H'->E.ct σ' H'
 | .rt d=>∀v H',Same H0 H'->Rep X.K O0 H' d v->E.rt v H'
 | .ex c ρ'=>∀σ' H' O',At X H0 O0 O' H' ρ' σ'->JK X c σ' H'
 | .bad=>False
theorem wY.go {X:Cx} {H0 H H1:Hp} {O0 O O1:Addr->Prop} {E:Ends} {o:So} (h:wY X H0 O0 O H E o) (r:fU X.K O H O1 H1):wY X H0 O0 O1 H1 E o:=by
 cases o with
 |bad=>exact h
 |rt d=>exact h
 |bk ρ2=>exact λ σ2 H2 O2 j2 r2=>h σ2 H2 O2 j2 (r.trans r2)
 |ct ρ2=>exact λ σ2 H2 O2 j2 r2=>h σ2 H2 O2 j2 (r.trans r2)
 |nx ρ2=>exact λ σ2 H2 O2 j2 r2=>h σ2 H2 O2 j2 (r.trans r2)
 |ex c ρ2=>exact h
noncomputable def tS (X:Cx) (g:aA->So):TS:=λ E σ H=>∃H0 O0 O ρ,At X H0 O0 O H ρ σ/\wY X H0 O0 O H E (g ρ)
noncomputable def DS (X:Cx) (st:Stmt) (g:aA->So):Prop:=PS X st (tS X g)
noncomputable def nU (X:Cx) (st:List Stmt) (g:aA->So):Prop:=PSs X st (tS X g)
theorem PS.imp {X:Cx} {e:Stmt} {t t':TS} (h:PS X e t) (w:∀σ H Q,t' Q σ H->t Q σ H):PS X e t':=λ pins s σ H Q I q=>h pins s σ H Q I (w σ H Q q)
theorem PSs.imp {X:Cx} {e:List Stmt} {t t':TS} (h:PSs X e t) (w:∀σ H Q,t' Q σ H->t Q σ H):PSs X e t':=λ pins s σ H Q I q=>h pins s σ H Q I (w σ H Q q)
section
variable {X:Cx} {H0 H H1:Hp} {O0 O:Addr->Prop} {ρ:aA} {σ:St}
theorem At.grow (j:At X H0 O0 O H ρ σ) (s:Same H H1):At X H0 O0 O H1 ρ σ:=⟨j.same.trans s,j.fD.trans (Same.fD s),j.sub,j.inn.same s,j.mine⟩
theorem At.set (j:At X H0 O0 O H ρ σ) {i:Nat} (hi:i < X.N.length) {d:D} {v:V} (r:Rep X.K O H d v):At X H0 O0 O H (ρ.set i (some (.val d))) (σ.set i (some v)):=by
 refine⟨j.same,j.fD,j.sub,j.inn.set hi r,λ k e a h ho hs=>?_⟩;have h1:i < ρ.length:=by rw[j.inn.nF];exact hi
 by_cases hk:k=i
 ·subst hk;rw[List.getElem?_set_self h1] at h;cases h;cases ho
 ·rw[List.getElem?_set_ne (Ne.symm hk)] at h hs;exact j.mine k e a h ho hs
noncomputable def Vf:Option Ent->Option Ent
 |some (.lst ds)=>some (.val (.lst ds))
 |o=>o
noncomputable def cR (ρ:aA):aA:=ρ.map Vf
noncomputable def Tt (ρ:aA) (σ:St) (O:Addr->Prop):Addr->Prop:=λ a=>O a/\∀(i:Nat) ds,ρ[i]?=some (some (.lst ds))->σ[i]?≠some (some (.ref a))
theorem M5 {i:Nat} {e:Ent} (h:(cR ρ)[i]?=some (some e)):(ρ[i]?=some (some e)/\∀ds,e≠.lst ds)\/∃ds,ρ[i]?=some (some (.lst ds))/\e= .val (.lst ds):=by
 unfold cR at h;rw[List.getElem?_map] at h;cases q:ρ[i]? with
 |none=>rw[q] at h;cases h
 | some o=>
  rw[q] at h;have h:Vf o=some e:=Option.some.inj h;cases o with
  |none=>cases h
  | some e'=>
   cases e' with
   |val d=>cases h;exact .inl ⟨rfl,λ _ z=>by cases z⟩
   |lst ds=>cases h;exact .inr ⟨ds,rfl,rfl⟩
   |zm kvs=>cases h;exact .inl ⟨rfl,λ _ z=>by cases z⟩
   |obj t=>cases h;exact .inl ⟨rfl,λ _ z=>by cases z⟩
theorem In.cR (j:In X O H ρ σ):In X (Tt ρ σ O) H (Pu.cR ρ) σ:=by
 refine⟨⟨λ i e h=>?_,λ i k e e' v hik hi hk oi ok si sk=>?_⟩,λ a z=>j.al a z.1,j.len,by unfold Pu.cR;rw[List.length_map];exact j.nF⟩
 ·rcases M5 h with⟨h1,h2⟩ |⟨ds,h1,rfl⟩
  ·obtain⟨v,h3,h4⟩:=j.env.get i e h1;refine⟨v,h3,?_⟩;cases e with
   |val d=>exact Rep.fewer (λ a z=>z.1) h4
   |lst ds=>exact absurd rfl (h2 ds)
   |obj t=>exact h4
   | zm kvs=>
    obtain⟨a,ys,e1,o1,e2,k1,r1⟩:=h4;refine⟨a,ys,e1,⟨o1,λ k ds hk hs=>?_⟩,e2,k1,r1.fewer λ a z=>z.1⟩;by_cases hik:i=k
    ·subst hik;rw[h1] at hk;cases hk
    ·exact j.env.sep i k _ _ v hik h1 hk rfl rfl h3 (by rw[e1];exact hs)
  ·obtain⟨v,h3,a,xs,e1,o1,e2,r1⟩:=j.env.get i _ h1;exact⟨v,h3,by rw[e1];exact sY (SqL.of e2) (λ z=>z.2 i ds h1 (by rw[<-e1];exact h3)) (r1.fewer λ a z=>z.1)⟩
 ·have un:∀{m:Nat} {e:Ent},(Pu.cR ρ)[m]?=some (some e)->e.own=true->ρ[m]?=some (some e):=λ {m e} h ho=>by
   rcases M5 h with⟨h1,_⟩ |⟨ds,_,rfl⟩
   ·exact h1
   ·cases ho
  exact j.env.sep i k e e' v hik (un hi oi) (un hk ok) oi ok si sk
theorem At.agr (j:At X H0 O0 O H ρ σ):∀a,O0 a->Tt ρ σ O a:=λ a z=>⟨j.sub a z,λ i ds h hs=>(j.mine i _ a h rfl hs).2 z⟩
end
section
variable {X:Cx} {st:Stmt} {rest:List Stmt} {g k:aA->So} {f:aA->R D} {p:aA->R Bool} {e:Expr} {pos:Pos}
noncomputable def aQ (g k:aA->So):aA->So:=λ ρ=>match g ρ with
 | .nx ρ'=>k ρ'
 |o=>o
theorem cI:nU X [] .nx:=PSs.imp pss_nil λ σ H E h=>by
 obtain⟨H0,O0,O,ρ,j,h⟩:=h;exact h σ H O j .refl
theorem aL (h:DS X st g):nU X [st] g:=pss_one h
theorem aH (h1:DS X st g) (h2:nU X rest k):nU X (st::rest) (aQ g k):=by
 refine PSs.imp (pss_cons h1 h2) λ σ H E h=>?_;obtain⟨H0,O0,O,ρ,j,h⟩:=h;unfold aQ at h;refine⟨H0,O0,O,ρ,j,?_⟩;cases e1:g ρ with
 |bad=>rw[e1] at h;exact h
 |rt d=>rw[e1] at h;exact h
 |bk ρ'=>rw[e1] at h;exact h
 |ct ρ'=>rw[e1] at h;exact h
 |ex c ρ'=>rw[e1] at h;exact h
 | nx ρ'=>
  rw[e1] at h;have h:wY X H0 O0 O H E (k ρ'):=h;exact λ σ' H' O' j' r'=>⟨H0,O0,O',ρ',j',h.go r'⟩
noncomputable def kI (r:R D) (ρ:aA) (k:D->So):So:=match r with
 | .ok d=>k d
 | .err c=> .ex c ρ
 | .bad=> .bad
noncomputable def retS (f:aA->R D):aA->So:=λ ρ=>kI (f (cR ρ)) ρ .rt
theorem bw (he:DE X e f):DS X (.Return (some e) pos) (retS f):=by
 refine PS.imp (ps_ret he) λ σ H E h=>?_;obtain⟨H0,O0,O,ρ,j,h⟩:=h;refine⟨cR ρ,Tt ρ σ O,j.inn.cR,?_⟩;unfold retS kI at h;cases e1:f (cR ρ) with
 |bad=>rw[e1] at h;exact h
 |err c=>rw[e1] at h;exact h σ H O j
 |ok d=>rw[e1] at h;exact λ v H' s r=>h v H' (j.same.trans s) (Rep.fewer j.agr r)
noncomputable def mC (f:aA->R D):aA->So:=λ ρ=>kI (f (cR ρ)) ρ λ _=> .nx ρ
theorem pJ (he:DE X e f) (hs:swapsWith e none pos.line X.env=pure false:=by rfl):DS X (.Expr e pos) (mC f):=by
 refine PS.imp (ps_expr he hs) λ σ H E h=>?_;obtain⟨H0,O0,O,ρ,j,h⟩:=h;refine⟨cR ρ,Tt ρ σ O,j.inn.cR,?_⟩;unfold mC kI at h;cases e1:f (cR ρ) with
 |bad=>rw[e1] at h;exact h
 |err c=>rw[e1] at h;exact h σ H O j
 |ok d=>rw[e1] at h;exact λ v H' s r=>h σ H' O (j.grow s) (Same.fD s)
noncomputable def bF (f:aA->R D) (gt:D->aA->R aA):aA->So:=λ ρ=>kI (f ρ) ρ λ d=>match gt d ρ with
 | .ok ρ'=> .nx ρ'
 |_=> .bad
theorem bJ (i:Nat) {x:Str} {pos':Pos} (hN:X.N.Nodup) (he:DE X e f) (hi:X.N[i]?=some x:=by rfl) (hx:Loc X.env.scope x:=by first |exact Or.inl rfl |exact Or.inr rfl) (hs:swapsWith e (some (.Name x pos')) pos.line X.env=pure false:=by rfl)
  (hf:X.fn x=true\/X.env.scope.names.lookup x=some .local:=by first |exact .inl rfl |exact .inr rfl):DS X (.Assign [.Name x pos'] e pos) (bF f (aM i)):=by
 refine PS.imp (ps_set hN hi hx he hs hf) λ σ H E h=>?_;obtain⟨H0,O0,O,ρ,j,h⟩:=h;refine⟨ρ,O,j.inn,?_⟩;unfold bF kI at h;cases e1:f ρ with
 |bad=>rw[e1] at h;exact h
 |err c=>rw[e1] at h;exact h σ H O j
 |ok d=>rw[e1] at h;exact λ v H' s r=>h _ H' O ((j.grow s).set (List.getElem?_eq_some_iff.mp hi).1 r) (Same.fD s)
theorem tD (i k:Nat) {x y:Str} {px py pt:Pos} {kt} (hc:X.calm=true) (hN:X.N.Nodup) (he:DE X e f) (hi:X.N[i]?=some x:=by rfl) (hk:X.N[k]?=some y:=by rfl)
  (hx:Loc X.env.scope x:=by first |exact Or.inl rfl |exact Or.inr rfl) (hy:Loc X.env.scope y:=by first |exact Or.inl rfl |exact Or.inr rfl)
  (hfx:X.fn x=true\/X.env.scope.names.lookup x=some .local:=by first |exact .inl rfl |exact .inr rfl) (M6:X.fn y=true\/X.env.scope.names.lookup y=some .local:=by first |exact .inl rfl |exact .inr rfl)
  (hs:swapsWithSole [.Tuple [.Name x px,.Name y py] kt pt] e pos.line X.env=pure false:=by rfl) (hw:swappedStores [.Tuple [.Name x px,.Name y py] kt pt] e X.env=pure none:=by rfl):
  DS X (.Assign [.Tuple [.Name x px,.Name y py] kt pt] e pos) (bF f (dj (dB 2 (bC (aM i) (bC (aM k) nilG))))):=by
 refine PS.imp (ps_asg he (pg_tup hc (pgs_cons (pg_name hN hi hx hfx) (pgs_cons (pg_name hN hk hy M6) pgs_nil))) hs hw) λ σ H E h=>?_;obtain⟨H0,O0,O,ρ,j,h⟩:=h;refine⟨ρ,O,j.inn,?_⟩;unfold bF kI at h;cases e1:f ρ with
 |bad=>rw[e1] at h;exact h
 |err c=>rw[e1] at h;exact h σ H O j
 | ok d=>
  rw[e1] at h;intro v H' s r;cases d with
  | tup ds=>
   match ds,h,r with
   |[],h,_=>exact h.elim
   |[_],h,_=>exact h.elim
   |_::_::_::_,h,_=>exact (show False by simpa[dj,dB,wY] using h).elim
   | [d1,d2],h,r=>
    obtain⟨a,xs,rfl,hq,rs⟩:=r.tup;obtain⟨v1,v2,rfl,r1,r2⟩:=rs.two;refine⟨a,[v1,v2],rfl,hq,rfl,v1,[v2],rfl,v2,[],rfl,rfl,?_⟩;exact h _ H' O (((j.grow s).set (List.getElem?_eq_some_iff.mp hi).1 r1).set (List.getElem?_eq_some_iff.mp hk).1 r2) (Same.fD s)
  |_=>exact h.elim
noncomputable def dJ (p:aA->R Bool) (g k:aA->So):aA->So:=λ ρ=>match p (cR ρ) with
 | .ok true=>g ρ
 | .ok false=>k ρ
 | .err c=> .ex c ρ
 | .bad=> .bad
theorem Tv {g:aA->So} {E:Ends} {H0 H H1:Hp} {O0 O:Addr->Prop} {ρ:aA} {σ:St} (j:At X H0 O0 O H ρ σ) (s:Same H H1) (h:wY X H0 O0 O H E (g ρ)):tS X g E σ H1:=
 ⟨H0,O0,O,ρ,j.grow s,h.go (Same.fD s)⟩
theorem cQ {c:Expr} {a b:List Stmt} (hc:DT X c p) (ha:nU X a g) (hb:nU X b k):DS X (.If c a b pos) (dJ p g k):=by
 refine PS.imp (ps_if hc ha hb) λ σ H E h=>?_;obtain⟨H0,O0,O,ρ,j,h⟩:=h;refine⟨cR ρ,Tt ρ σ O,j.inn.cR,?_⟩;unfold dJ at h;cases e1:p (cR ρ) with
 |bad=>rw[e1] at h;exact h
 |err c=>rw[e1] at h;exact h σ H O j
 | ok t=>
  rw[e1] at h;intro b' H' s e;subst e;cases t with
  |true=>rw[if_pos rfl];exact Tv j s h
  |false=>rw[if_neg Bool.false_ne_true];exact Tv j s h
theorem ud:DS X st (λ _=> .bad):=λ pins s σ H E I h=>by
 obtain⟨_,_,_,_,_,h⟩:=h;exact h.elim
noncomputable def forL (gt:D->aA->R aA) (b:aA->So):List D->aA->So
 |[],ρ=> .nx ρ
 | x ::xs,ρ=>match gt x ρ with
  | .ok ρ1=>match b ρ1 with
   | .nx ρ2=>forL gt b xs ρ2
   | .ct ρ2=>forL gt b xs ρ2
   | .bk ρ2=> .nx ρ2
   |o=>o
  |_=> .bad
noncomputable def nJ (fi:aA->R (List D)) (gt:D->aA->R aA) (b:aA->So):aA->So:=λ ρ=>match fi ρ with
 | .ok xs=>forL gt b xs ρ
 | .err c=> .ex c ρ
 | .bad=> .bad
inductive adL (X:Cx) (gt:D->aA->R aA) (v:V) (σ:St) (H:Hp) (Q:St->Hp->Prop):Prop
 |mk (H0:Hp) (O0 O:Addr->Prop) (ρ:aA) (d:D) (ρ':aA) (j:At X H0 O0 O H ρ σ) (r:Rep X.K O H d v) (e:gt d ρ= .ok ρ') (q:∀σ',At X H0 O0 O H ρ' σ'->Q σ' H):adL X gt v σ H Q
noncomputable def DGA (X:Cx) (tg:Expr) (gt:D->aA->R aA):Prop:=PG X tg λ v σ H Q=>adL X gt v σ H Q
theorem nM (i:Nat) {x:Str} (hN:X.N.Nodup) (hi:X.N[i]?=some x:=by rfl) (hx:Loc X.env.scope x:=by first |exact Or.inl rfl |exact Or.inr rfl) (hf:X.fn x=true\/X.env.scope.names.lookup x=some .local:=by first |exact .inl rfl |exact .inr rfl):DGA X (.Name x pos) (aM i):=by
 intro pins s σ H v u Q I r h;obtain⟨H0,O0,O,ρ,d,ρ',j,rd,e,q⟩:=h;cases e;exact pg_name hN hi hx hf pins s σ H v u Q I r (q _ (j.set (List.getElem?_eq_some_iff.mp hi).1 rd))
theorem Cy (i k:Nat) {x y:Str} {px py:Pos} {kt} (hc:X.calm=true) (hN:X.N.Nodup) (hi:X.N[i]?=some x:=by rfl) (hk:X.N[k]?=some y:=by rfl)
  (hx:Loc X.env.scope x:=by first |exact Or.inl rfl |exact Or.inr rfl) (hy:Loc X.env.scope y:=by first |exact Or.inl rfl |exact Or.inr rfl)
  (hfx:X.fn x=true\/X.env.scope.names.lookup x=some .local:=by first |exact .inl rfl |exact .inr rfl) (M6:X.fn y=true\/X.env.scope.names.lookup y=some .local:=by first |exact .inl rfl |exact .inr rfl):
  DGA X (.Tuple [.Name x px,.Name y py] kt pos) (dj (dB 2 (bC (aM i) (bC (aM k) nilG)))):=by
 intro pins s σ H v u Q I r h;obtain⟨H0,O0,O,ρ,d,ρ',j,rd,e,q⟩:=h;cases d with
 | tup ds=>
  match ds,e,rd with
  |[],e,_=>cases e
  |[_],e,_=>cases e
  |_::_::_::_,e,_=>simp[dj,dB] at e
  | [d1,d2],e,rd=>
   obtain⟨a,xs,rfl,hq,rs⟩:=rd.tup;obtain⟨v1,v2,rfl,r1,r2⟩:=rs.two;cases e;refine pg_tup hc (pgs_cons (pg_name hN hi hx hfx) (pgs_cons (pg_name hN hk hy M6) pgs_nil)) rfl rfl pins s σ H _ u Q I r ⟨a,[v1,v2],rfl,hq,rfl,v1,[v2],rfl,v2,[],rfl,rfl,?_⟩;exact q _ ((j.set (List.getElem?_eq_some_iff.mp hi).1 r1).set (List.getElem?_eq_some_iff.mp hk).1 r2)
 |_=>cases e
theorem kY {tg iter:Expr} {body:List Stmt} {fi:aA->R (List D)} {gt:D->aA->R aA} {b:aA->So} (hp:PassesOwn (model X.prog X.w) X.A X.env X.xe) (hc:X.calm=true) (hi:DI X tg iter fi) (hg:DGA X tg gt) (hb:nU X body b)
  (hs:∀x,foldedSetIterable iter X.env x=pure x:=by intro _;rfl):DS X (.For tg iter body [] pos) (nJ fi gt b):=by
 refine PS.imp (ps_for hp hc hi hg hb hs) λ σ H E h=>?_;obtain⟨H0,O0,O,ρ,j,h⟩:=h;refine⟨ρ,O,j.inn,?_⟩;unfold nJ at h;cases e1:fi ρ with
 |bad=>rw[e1] at h;exact h
 |err c=>rw[e1] at h;exact h σ H O j
 | ok xs =>
  rw[e1] at h;have h:wY X H0 O0 O H E (forL gt b xs ρ):=h;intro J H1 s1 yr;have j1:=j.grow s1;have q1:fU X.K O H O H1:=Same.fD s1;refine⟨λ i m σ' H'=>∃O' ρ',At X H0 O0 O' H' ρ' σ'/\fU X.K O H1 O' H'/\i<=xs.length/\m=xs.length - i/\forL gt b (xs.drop i) ρ'=forL gt b xs ρ,⟨_,O,ρ,j1,.refl,Nat.zero_le _,rfl,by simp⟩,?_⟩
  rintro i m σ' H' ⟨O',ρ',j',r',hil,rfl,hf⟩
  have Xj:=yr O' H' r' i;by_cases hlt:i < xs.length
  ·have ed:xs.drop i=xs[i]::xs.drop (i+1):=List.drop_eq_getElem_cons hlt;obtain⟨jgo,jy⟩:=Xj.1 xs[i] (by simp[hlt]);refine .inr ⟨jgo,λ σ2 H2=>∃O2 ρ2,At X H0 O0 O2 H2 ρ2 σ2/\fU X.K O H1 O2 H2/\forL gt b (xs.drop (i+1)) ρ2=forL gt b xs ρ,?_,λ x H2 y=>?_⟩
   ·rintro σ2 H2 ⟨O2,ρ2,j2,r2,hf2⟩
    exact⟨xs.length - (i+1),by omega,O2,ρ2,j2,r2,by omega,rfl,hf2⟩
   ·obtain⟨sm,rep⟩:=jy x H2 y;rw[ed] at hf;have hf:(match gt xs[i] ρ' with
     | .ok ρ1=>match b ρ1 with
      | .nx ρ2=>forL gt b (xs.drop (i+1)) ρ2
      | .ct ρ2=>forL gt b (xs.drop (i+1)) ρ2
      | .bk ρ2=> .nx ρ2
      |o=>o
     |_=> .bad)=forL gt b xs ρ:=hf
    cases e2:gt xs[i] ρ' with
    |bad=>rw[e2] at hf;rw[<-hf] at h;exact h.elim
    |err c=>rw[e2] at hf;rw[<-hf] at h;exact h.elim
    | ok ρ1=>
     rw[e2] at hf;refine⟨H0,O0,O',ρ',xs[i],ρ1,j'.grow sm,rep,e2,λ σ3 j3=>?_⟩;refine⟨H0,O0,O',ρ1,j3,?_⟩;have r3:fU X.K O H1 O' H2:=r'.trans (Same.fD sm);have hf:(match b ρ1 with
      | .nx ρ2=>forL gt b (xs.drop (i+1)) ρ2
      | .ct ρ2=>forL gt b (xs.drop (i+1)) ρ2
      | .bk ρ2=> .nx ρ2
      |o=>o)=forL gt b xs ρ:=hf
     cases e3:b ρ1 with
     |bad=>rw[e3] at hf;rw[<-hf] at h;exact h
     |rt d=>rw[e3] at hf;rw[<-hf] at h;exact h
     |ex c ρ2=>rw[e3] at hf;rw[<-hf] at h;exact h
     |bk ρ2=>rw[e3] at hf;rw[<-hf] at h;exact λ σ4 H4 O4 j4 r4=>h σ4 H4 O4 j4 (q1.trans (r3.trans r4))
     |nx ρ2=>rw[e3] at hf;exact λ σ4 H4 O4 j4 r4=>⟨O4,ρ2,j4,r3.trans r4,hf⟩
     |ct ρ2=>rw[e3] at hf;exact λ σ4 H4 O4 j4 r4=>⟨O4,ρ2,j4,r3.trans r4,hf⟩
  ·have ei:i=xs.length:=by omega
   subst ei;have hf:forL gt b (xs.drop xs.length) ρ'=forL gt b xs ρ:=hf;rw[List.drop_length] at hf;rw[<-hf] at h;exact .inl ⟨Xj.2 (Nat.le_refl _),h σ' H' O' j' (q1.trans r')⟩
noncomputable def fZ (p:aA->R Bool) (b:aA->So):Nat->aA->So
 |0,_=> .bad
 | n +1,ρ=>match p (cR ρ) with
  | .ok true=>match b ρ with
   | .nx ρ'=>fZ p b n ρ'
   | .ct ρ'=>fZ p b n ρ'
   | .bk ρ'=> .nx ρ'
   |o=>o
  | .ok false=> .nx ρ
  | .err c=> .ex c ρ
  | .bad=> .bad
theorem yu (n:Nat) {c:Expr} {body:List Stmt} {b:aA->So} (hp:PassesOwn (model X.prog X.w) X.A X.env X.xe) (hc:DT X c p) (hb:nU X body b):DS X (.While c body [] pos) (fZ p b n):=by
 refine PS.imp (ps_while hp hc hb) λ σ H E h=>?_;obtain⟨H0,O0,O,ρ,j,h⟩:=h;have h:wY X H0 O0 O H E (fZ p b n ρ):=h;refine⟨λ m σ' H'=>∃O' ρ',At X H0 O0 O' H' ρ' σ'/\fU X.K O H O' H'/\fZ p b m ρ'=fZ p b n ρ,⟨n,O,ρ,j,.refl,rfl⟩,?_⟩
 rintro m σ' H' ⟨O',ρ',j',r',hf⟩
 refine⟨cR ρ',Tt ρ' σ' O',j'.inn.cR,?_⟩;cases m with
 |zero=>rw[<-hf] at h;exact h.elim
 | succ m =>
  have hf:(match p (cR ρ') with
   | .ok true=>match b ρ' with
    | .nx ρ'=>fZ p b m ρ'
    | .ct ρ'=>fZ p b m ρ'
    | .bk ρ'=> .nx ρ'
    |o=>o
   | .ok false=> .nx ρ'
   | .err c=> .ex c ρ'
   | .bad=> .bad)=fZ p b n ρ:=hf
  cases e1:p (cR ρ') with
  |bad=>rw[e1] at hf;rw[<-hf] at h;exact h
  |err c=>rw[e1] at hf;rw[<-hf] at h;exact h σ' H' O' j'
  | ok t =>
   rw[e1] at hf;intro t' H1 s1 e;subst e;have j1:=j'.grow s1;have r1:fU X.K O H O' H1:=r'.trans (Same.fD s1);cases t with
   | false=>
    rw[if_neg Bool.false_ne_true];rw[<-hf] at h;exact h σ' H1 O' j1 r1
   | true=>
    rw[if_pos rfl];refine⟨λ σ2 H2=>∃O2 ρ2,At X H0 O0 O2 H2 ρ2 σ2/\fU X.K O H O2 H2/\fZ p b m ρ2=fZ p b n ρ,?_,H0,O0,O',ρ',j1,?_⟩
    ·rintro σ2 H2 ⟨O2,ρ2,j2,r2,hf2⟩
     exact⟨m,by omega,O2,ρ2,j2,r2,hf2⟩
    ·have hf:(match b ρ' with
      | .nx ρ'=>fZ p b m ρ'
      | .ct ρ'=>fZ p b m ρ'
      | .bk ρ'=> .nx ρ'
      |o=>o)=fZ p b n ρ:=hf
     cases e3:b ρ' with
     |bad=>rw[e3] at hf;rw[<-hf] at h;exact h
     |rt d=>rw[e3] at hf;rw[<-hf] at h;exact h
     |ex c ρ2=>rw[e3] at hf;rw[<-hf] at h;exact h
     |bk ρ2=>rw[e3] at hf;rw[<-hf] at h;exact λ σ4 H4 O4 j4 r4=>h σ4 H4 O4 j4 (r1.trans r4)
     |nx ρ2=>rw[e3] at hf;exact λ σ4 H4 O4 j4 r4=>⟨O4,ρ2,j4,r1.trans r4,hf⟩
     |ct ρ2=>rw[e3] at hf;exact λ σ4 H4 O4 j4 r4=>⟨O4,ρ2,j4,r1.trans r4,hf⟩
end
section
variable {X:Cx} {a b e:Expr} {es:List Expr} {f g:aA->R D} {fa:aA->R (List D)} {pos:Pos}
noncomputable def afy (K:PySem.W.Frag) (t:TA):TE:=λ σ H Q=>t σ H λ xs H1=>xs.length<=sizeLine/\∀p,H1 p=none->K.lookup p=none->Q (.ref p) (upd H1 p (.lst xs))
theorem Inv.ags {pins:List (Addr×Obj)} {σ:St} {H:Hp} {s:Shared} (I:Inv X pins σ H s):X.K.lookup s.heap.objs.size=none:=by
 cases q:X.K.lookup s.heap.objs.size with
 |none=>rfl
 |some o=>exact absurd (Heap.lt_size (I.kIn _ _ q)) (Nat.lt_irrefl _)
theorem Tw {t:TA} (h:PA X es t):PE X (.List es pos) (afy X.K t):=by
 intro pins s σ H Q I hq;refine wpAny_List_spliced (thn (h pos pins s σ H _ I hq) λ us s1 ⟨xs,H1,I1,r,z,q⟩=>⟨by rw[<-r.length];exact z,?_⟩);have hf:H1 s1.heap.objs.size=none:=I1.hok.fresh (Nat.le_refl _);refine⟨.ref s1.heap.objs.size,upd H1 s1.heap.objs.size (.lst xs),I1.laid (t':=s1.toks) (λ b u e=>Heap.get?_push_of_some _ e) (Nat.le_refl _) ?_,rfl,q _ hf (Inv.ags I1)⟩;exact⟨z,us,0,r,Heap.get?_push_size _ rfl⟩
noncomputable def newL (fa:aA->R (List D)) (i:Nat):aA->So:=λ ρ=>match fa ρ with
 | .ok ds=>if ds.length<=1000000 then .nx (ρ.set i (some (.lst ds))) else .bad
 | .err c=> .ex c ρ
 | .bad=> .bad
theorem At.own {H0 H:Hp} {O0 O:Addr->Prop} {ρ:aA} {σ:St} (j:At X H0 O0 O H ρ σ) {i:Nat} (hi:i < X.N.length) {p:Addr} {o:HO} {en:Ent} (hp:H p=none) (hk:X.K.lookup p=none) (ho:en.own=true)
  (hr:rK X.K (λ a=>O a\/a=p) (upd H p o) en (.ref p)):
  At X H0 O0 (λ a=>O a\/a=p) (upd H p o) (ρ.set i (some en)) (σ.set i (some (.ref p)))/\fU X.K O H (λ a=>O a\/a=p) (upd H p o):=by
 have s1:Same H (upd H p o):=Same.upd hp;have r1:fU X.K O H (λ a=>O a\/a=p) (upd H p o):=⟨(Same.fD (K:=X.K) (O:=O) s1).ext,λ a z=>z.elim .inl λ e=> .inr (by rw[e];exact⟨hp,hk⟩),(Same.fD (K:=X.K) (O:=O) s1).dom⟩;have h1:i < ρ.length:=by rw[j.inn.nF];exact hi
 have h2:i < σ.length:=by rw[j.inn.len];exact hi
 have nOp:¬O p:=j.inn.zO hp;have old:∀{e:Ent} {v:V},rK X.K O H e v->rK X.K (λ a=>O a\/a=p) (upd H p o) e v/\(e.own=true->v≠.ref p):=λ {e v} h=>by
  cases e with
  |val d=>exact⟨Rep.go r1 h,λ z=>by cases z⟩
  | lst ds=>
   obtain⟨a,xs,e1,o1,e2,r⟩:=h;exact⟨⟨a,xs,e1,.inl o1,s1 _ _ e2,r.go r1⟩,λ _ z=>by rw[e1] at z;cases z;exact nOp o1⟩
  |obj t=>exact⟨pG.same s1 h,λ z=>by cases z⟩
  | zm kvs=>
   obtain⟨a,xs,e1,o1,e2,k,r⟩:=h;exact⟨⟨a,xs,e1,.inl o1,s1 _ _ e2,k,r.go r1⟩,λ _ z=>by rw[e1] at z;cases z;exact nOp o1⟩
 refine⟨⟨j.same.trans s1,j.fD.trans r1,λ a z=> .inl (j.sub a z),⟨⟨λ k e h=>?_,λ k l e e' v hkl hk' hl ok ol sk sl=>?_⟩,λ a z=>?_,by rw[List.length_set];exact j.inn.len,by rw[List.length_set];exact j.inn.nF⟩,λ k e a h hoo hs=>?_⟩,r1⟩
 ·by_cases hki:k=i
  ·subst hki;rw[List.getElem?_set_self h1] at h;cases h;exact⟨.ref p,List.getElem?_set_self h2,hr⟩
  ·rw[List.getElem?_set_ne (Ne.symm hki)] at h;obtain⟨v,q1,q2⟩:=j.inn.env.get k e h;exact⟨v,by rw[List.getElem?_set_ne (Ne.symm hki)];exact q1,(old q2).1⟩
 ·by_cases hki:k=i
  ·subst hki;rw[List.getElem?_set_self h2] at sk;cases sk;rw[List.getElem?_set_ne hkl] at hl sl;obtain⟨v,q1,q2⟩:=j.inn.env.get l e' hl;rw[q1] at sl;cases sl;exact (old q2).2 ol rfl
  ·rw[List.getElem?_set_ne (Ne.symm hki)] at hk' sk;by_cases hli:l=i
   ·subst hli;rw[List.getElem?_set_self h2] at sl;cases sl;obtain⟨v,q1,q2⟩:=j.inn.env.get k e hk';rw[q1] at sk;cases sk;exact (old q2).2 ok rfl
   ·rw[List.getElem?_set_ne (Ne.symm hli)] at hl sl;exact j.inn.env.sep k l e e' v hkl hk' hl ok ol sk sl
 ·rcases z with z |z
  ·obtain⟨u,q⟩:=j.inn.al a z;exact⟨u,s1 _ _ q⟩
  ·rw[z];exact⟨o,upd_same⟩
 ·by_cases hki:k=i
  ·subst hki;rw[List.getElem?_set_self h2] at hs;cases hs;exact⟨j.same.free hp,λ z=>nOp (j.sub _ z)⟩
  ·rw[List.getElem?_set_ne (Ne.symm hki)] at h hs;exact j.mine k e a h hoo hs
theorem nW (i:Nat) {x:Str} {pos' p2:Pos} (hN:X.N.Nodup) (ha:DA X es fa) (hi:X.N[i]?=some x:=by rfl) (hx:Loc X.env.scope x:=by first |exact Or.inl rfl |exact Or.inr rfl) (hs:swapsWith (.List es p2) (some (.Name x pos')) pos.line X.env=pure false:=by rfl)
  (hf:X.fn x=true\/X.env.scope.names.lookup x=some .local:=by first |exact .inl rfl |exact .inr rfl):DS X (.Assign [.Name x pos'] (.List es p2) pos) (newL fa i):=by
 refine PS.imp (ps_set hN hi hx (Tw ha) hs hf) λ σ H E h=>?_;obtain⟨H0,O0,O,ρ,j,h⟩:=h;refine⟨ρ,O,j.inn,?_⟩;unfold newL at h;cases e1:fa ρ with
 |bad=>rw[e1] at h;exact h
 |err c=>rw[e1] at h;exact h σ H O j
 | ok ds=>
  rw[e1] at h;intro vs H1 s1 r1;by_cases hl:ds.length<=1000000
  ·simp only[if_pos hl] at h;refine⟨by rw[<-r1.length];exact Nat.le_trans hl fL,λ p hp hk=>?_⟩;obtain⟨j2,r2⟩:=(j.grow s1).own (List.getElem?_eq_some_iff.mp hi).1 (o:= .lst vs) (en:= .lst ds) hp hk rfl ⟨p,vs,rfl,.inr rfl,upd_same,r1.go ⟨(Same.fD (K:=X.K) (O:=O) (Same.upd hp)).ext,λ a z=>z.elim .inl λ e=> .inr (by rw[e];exact⟨hp,hk⟩),(Same.fD (K:=X.K) (O:=O) (Same.upd hp)).dom⟩⟩;exact h _ _ _ j2 ((Same.fD s1).trans r2)
  ·simp only[if_neg hl] at h;exact h.elim
theorem At.chg {H0 H:Hp} {O0 O:Addr->Prop} {ρ:aA} {σ:St} (j:At X H0 O0 O H ρ σ) {i:Nat} {e0 en:Ent} {p:Addr} {u o:HO} (hi:ρ[i]?=some (some e0)) (h0:e0.own=true) (hp:σ[i]?=some (some (.ref p))) (hO:O p) (hu:H p=some u) (hm:Mut (some u)) (ho:en.own=true)
  (hr:fU X.K O H O (upd H p o)->rK X.K O (upd H p o) en (.ref p)):At X H0 O0 O (upd H p o) (ρ.set i (some en)) σ/\fU X.K O H O (upd H p o):=by
 have nt:∀b xs,Rd H b (.tup xs)->b≠p:=λ b xs h z=>by
  subst z;rcases h with h |⟨_,h⟩ <;> rw[hu] at h <;> cases h <;> exact hm
 have r1:fU X.K O H O (upd H p o):=by
  refine⟨⟨λ b xs h=>?_,λ b xs n h=>?_⟩,λ a z=> .inl z,λ a z=>?_⟩
  ·have nb:=nt b xs h;rcases h with h |⟨q,h⟩
   ·exact .inl (by rw[upd_ne nb];exact h)
   ·exact .inr ⟨q,by rw[upd_ne nb];exact h⟩
  ·have nb:b≠p:=λ z=>n (by rw[z];exact hO);rcases h with h |⟨q,h⟩
   ·exact .inl (by rw[upd_ne nb];exact h)
   ·exact .inr ⟨q,by rw[upd_ne nb];exact h⟩
  ·by_cases ea:a=p
   ·rw[ea,upd_same] at z;cases z
   ·rw[upd_ne ea] at z;exact z
 have h1:i < ρ.length:=(List.getElem?_eq_some_iff.mp hi).1;obtain⟨hH0,hO0⟩:=j.mine i e0 p hi h0 hp;refine⟨⟨λ b q z=>?_,j.fD.trans r1,j.sub,⟨⟨λ k e h=>?_,λ k l e e' v hkl hk' hl ok ol sk sl=>?_⟩,λ a z=>?_,j.inn.len,by rw[List.length_set];exact j.inn.nF⟩,λ k e a h hoo hs=>?_⟩,r1⟩
 ·rw[upd_ne (ne_of_none z hH0)];exact j.same _ _ z
 ·by_cases hki:k=i
  ·subst hki;rw[List.getElem?_set_self h1] at h;cases h;exact⟨_,hp,hr r1⟩
  ·rw [List.getElem?_set_ne (Ne.symm hki)] at h;obtain⟨v,q1,q2⟩:=j.inn.env.get k e h;refine⟨v,q1,?_⟩;have nv:e.own=true->v≠.ref p:=λ z w=>by
    subst w;exact j.inn.env.sep k i e e0 _ hki h hi z h0 q1 hp
   cases e with
   |val d=>exact Rep.go r1 q2
   | obj t=>exact pG.fz (λ b o' u hb=>by
     have nb:b≠p:=λ z=>by rw[z,hu] at hb;cases hb;exact hm
     rw[upd_ne nb];exact hb) q2
   | lst ds=>
    obtain⟨a,xs,e1,o1,e2,r⟩:=q2;have na:a≠p:=λ z=>nv rfl (by rw[e1,z]);exact⟨a,xs,e1,o1,by rw[upd_ne na];exact e2,r.go r1⟩
   | zm kvs=>
    obtain⟨a,xs,e1,o1,e2,kk,r⟩:=q2;have na:a≠p:=λ z=>nv rfl (by rw[e1,z]);exact⟨a,xs,e1,o1,by rw[upd_ne na];exact e2,kk,r.go r1⟩
 ·have un:∀{m:Nat} {x:Ent},(ρ.set i (some en))[m]?=some (some x)->x.own=true->∃y,ρ[m]?=some (some y)/\y.own=true:=λ {m x} h ho'=>by
   by_cases hmi:m=i
   ·rw[hmi];exact⟨e0,hi,h0⟩
   ·rw[List.getElem?_set_ne (Ne.symm hmi)] at h;exact⟨x,h,ho'⟩
  obtain⟨y,hy,oy⟩:=un hk' ok;obtain⟨y',hy',oy'⟩:=un hl ol;exact j.inn.env.sep k l y y' v hkl hy hy' oy oy' sk sl
 ·by_cases ea:a=p
  ·rw[ea];exact⟨o,upd_same⟩
  ·obtain⟨w,q⟩:=j.inn.al a z;exact⟨w,by rw[upd_ne ea];exact q⟩
 ·by_cases hki:k=i
  ·subst hki;rw[hp] at hs;cases hs;exact⟨hH0,hO0⟩
  ·rw[List.getElem?_set_ne (Ne.symm hki)] at h;exact j.mine k e a h hoo hs
noncomputable def pK (i:Nat) (f:aA->R D):aA->So:=λ ρ=>kI (MP (f ρ)) ρ λ d=>match ρ[i]? with
 |some (some (.lst ds))=>if ds.length < 1000000 then .nx (ρ.set i (some (.lst (ds++[d])))) else .bad
 |_=> .bad
theorem wZ (i:Nat) {x:Str} {px apos cpos:Pos} (he:DE X e f) (hN:X.N[i]?=some x:=by rfl) (hv:Vis X.env.scope x:=by first |exact Or.inl rfl |exact Or.inr (Or.inl rfl) |exact Or.inr (Or.inr rfl))
  (hd:(x ==("__debug__" :Str))=false:=by decide) (hcd:(x ==("__classdict__" :Str))=false:=by decide)
  (hbase:attributeBase (.Name x px) "append" X.env (eval (.Name x px) X.env)=eval (.Name x px) X.env:=by rfl)
  (hfew:((backTo cpos (starEach [e] X.env)).all (λ x=> !x.1) && (backToKw cpos (keywordEach [] X.env)).all (λ x=>x.1.isSome)
   && decide ([e].length+([]:List Keyword).length+(if ([]:List Keyword).isEmpty then 0 else 1) < 30))=true:=by rfl)
  (hline:(apos.endLine ==cpos.line)=true:=by rfl) (hs1:starEach [e] X.env=(false,eval e X.env)::starEach [] X.env:=by rfl) (hplain:(backTo cpos (starEach [] X.env)).any (·.1)=false:=by rfl)
  (hs:swapsWith (.Call (.Attribute (.Name x px) "append" apos) [e] [] cpos) none pos.line X.env=pure false:=by rfl):
  DS X (.Expr (.Call (.Attribute (.Name x px) "append" apos) [e] [] cpos) pos) (pK i f):=by
 refine PS.imp (ps_expr (pe_bm PySem.F.plainAttrs_list PySem.F.slot_list_append PySem.F.type_list_append mt_append (pe_var hN hv hd hcd) (pa_cons he pa_nil hs1) hbase hfew hline hs1 hplain) hs) λ σ H E h=>?_;obtain⟨H0,O0,O,ρ,j,h⟩:=h;unfold pK kI at h;cases e1:f ρ with
 |bad=>rw[e1] at h;exact h.elim
 |err c=>rw[e1] at h;exact h.elim
 | ok d =>
  rw[e1] at h;cases e2:ρ[i]? with
  |none=>simp only[e2] at h;exact h.elim
  | some oe=>
   cases oe with
   |none=>simp only[e2] at h;exact h.elim
   | some en=>
    cases en with
    |val _=>simp only[e2] at h;exact h.elim
    |zm _=>simp only[e2] at h;exact h.elim
    |obj _=>simp only[e2] at h;exact h.elim
    | lst ds=>
     simp only[e2] at h;by_cases hl:ds.length < 1000000
     ·simp only[if_pos hl] at h;obtain⟨v,hv1,a,xs,rfl,hO,hH,rs⟩:=j.inn.env.get i _ e2;refine⟨.ref a,hv1,.inl ⟨rfl,xs,SqL.of hH⟩,?_⟩;refine⟨ρ,O,j.inn,?_⟩;rw[e1];intro w H1 s1 rw1;have j1:=j.grow s1;obtain⟨_,hv2,a2,xs2,e3,hO2,hH2,FW⟩:=j1.inn.env.get i _ e2;rw[hv1] at hv2;cases hv2;cases e3;have hlen:=FW.length;refine⟨a,xs2,w,rfl,rfl,hH2,by have:=gH;omega,?_⟩;obtain⟨j2,r2⟩:=j1.chg (o:= .lst (xs2++[w])) (en:= .lst (ds++[d])) e2 rfl hv1 hO2 hH2 trivial rfl λ r=>⟨a,xs2++[w],rfl,hO2,upd_same,(FW.append (.cons rw1 .nil)).go r⟩;exact h _ _ _ j2 ((Same.fD s1).trans r2)
     ·simp only[if_neg hl] at h;exact h.elim
end
inductive SpD (K:PySem.W.Frag) (n:Nat) (F:List D->R D) (vs:List V) (H:Hp) (Q:VK):Prop
 | mk (O:Addr->Prop) (ds:List D) (r:aU K O H ds vs) (hl:ds.length=n) (al:∀a,O a->∃o,H a=some o) (h:match F ds with
  | .ok d=>∀v H',Same H H'->Rep K O H' d v->Q v H'
  |_=>False):SpD K n F vs H Q
noncomputable def M7 (K:PySem.W.Frag) (n:Nat) (F:List D->R D):Sp:=λ vs H Q _=>SpD K n F vs H Q
noncomputable def bV (n:Nat) (g:aA->So) (ds:List D):R D:=match g (ds.map (λ d=>some (.val d))++List.replicate n none) with
 | .rt d=> .ok d
 | .nx _=> .ok .non
 | .ex c _=> .err c
 |_=> .bad
section
variable {P:Program} {w:World} {K:PySem.W.Frag} {mg:Str->Option Value} {base:Heap}
theorem tE {K:PySem.W.Frag} {O:Addr->Prop} {H:Hp} {ds:List D} {vs:List V} (r:aU K O H ds vs) (m:Nat) (i:Nat) (e:Ent) (h:(ds.map (λ d=>some (Ent.val d))++List.replicate m none)[i]?=some (some e)):∃v,(vs.map some++List.replicate m none)[i]?=some (some v)/\rK K O H e v/\e.own=false:=by
 by_cases hi:i < ds.length
 ·rw[List.getElem?_append_left (by simpa using hi),List.getElem?_map] at h;cases q:ds[i]? with
  |none=>rw[q] at h;cases h
  | some d=>
   rw[q] at h;cases h;obtain⟨v,e1,rv⟩:=r.get q;exact⟨v,by rw[List.getElem?_append_left (by rw[List.length_map,<-r.length];exact hi),List.getElem?_map,e1];rfl,rv,rfl⟩
 ·rw[List.getElem?_append_right (by simpa using hi),List.getElem?_replicate] at h;split at h <;> cases h
theorem fnD {x qual:Str} {st:Stmt} {f:Addr} {fd:FuncData} {N ps:List Str} {k n m:Nat} {g:aA->So} {F:List D->R D} (Fn:Fun K x qual st f fd) (S:FnScope N ps (defScope st)) (hn:ps.length=n) (hm:N.length=n+m)
  (hb:∀(cdv:Value) (A:Around) (outer:List PySem.Env) (s:Shared) (H:Hp) (E:XK),Room k (A.deeper (envOfC qual (defScope st) s.heap.objs.size f cdv))->nU (cxOf CX0 P w K mg base N qual (defScope st) f cdv A outer s H E).nox (defBody st) g)
  (hF:∀ds d,ds.length=n->F ds= .ok d->bV m g ds= .ok d):FnOk P w K mg base CX0 (k+1) f fd ps (M7 K n F):=by
 refine Fn.ok S (λ vs H Q E h=>?_) (λ cdv A outer s H vs Q E hr h=>?_)
 ·obtain⟨O,ds,r,hl,_⟩:=h;rw[hn,<-hl,r.length]
 ·obtain⟨O,ds,r,hl,al,h⟩:=h;refine⟨_,hb cdv A outer s H E hr,H,O,O,ds.map (λ d=>some (.val d))++List.replicate m none,?_,?_⟩
  ·have hst:L2.start N vs=vs.map some++List.replicate m none:=by
    unfold L2.start;rw[show N.length - vs.length=m by rw[<-r.length];omega]
   refine⟨Same.refl _,.refl,λ _ z=>z,⟨⟨λ i e q=>?_,λ i k e e' v _ hi _ oi=>?_⟩,al,?_,?_⟩,λ i e a q ho=>?_⟩
   ·obtain⟨v,h1,h2,_⟩:=tE r m i e q;exact⟨v,by rw[hst];exact h1,h2⟩
   ·obtain⟨_,_,_,h3⟩:=tE r m i e hi;rw[h3] at oi;cases oi
   ·show (L2.start N vs).length=N.length;rw[hst,List.length_append,List.length_map,List.length_replicate,<-r.length];omega
   ·show (ds.map (λ d=>some (Ent.val d))++List.replicate m none).length=N.length;rw[List.length_append,List.length_map,List.length_replicate];omega
   ·obtain⟨_,_,_,h3⟩:=tE r m i e q;rw[h3] at ho;cases ho
  ·cases e:F ds with
   |bad=>rw[e] at h;exact h.elim
   |err c=>rw[e] at h;exact h.elim
   | ok d=>
    rw[e] at h;have q:=hF ds d hl e;unfold bV at q;cases e2:g (ds.map (λ d=>some (.val d))++List.replicate m none) with
    | rt d'=>
     rw[e2] at q;cases q;exact λ v H' s' r'=>h v H' s' r'
    | nx ρ'=>
     rw[e2] at q;cases q;exact λ σ' H' O' j' _=>h .non H' j'.same pF
    |bk _=>rw[e2] at q;cases q
    |ct _=>rw[e2] at q;cases q
    |ex _ _=>rw[e2] at q;cases q
    |bad=>rw[e2] at q;cases q
end
section
variable {X:Cx} {k n:Nat} {f:Addr} {fd:FuncData} {ps:List Str} {F:List D->R D} {x:Str} {p pos:Pos} {e:Expr} {es:List Expr} {fa:aA->R (List D)}
noncomputable def aW (F:List D->R D) (n:Nat) (ds:List D):R D:=if ds.length=n then MP (F ds) else .bad
theorem abY (G:FnOk X.prog X.w X.K X.mg X.base CX0 k f fd ps (M7 X.K n F)) (hr:Room k X.A) (hg:Gl X x) (hm:X.mg x=some (.ref f)) (hk:PySem.W.keepIn X.K (.ref f)=true) (hb:Binds X.K fd ps [])
  (ha:DA X (e::es) fa) (hdb:(x ==("__debug__" :Str))=false:=by decide) (he:starEach (e::es) X.env=(false,eval e X.env)::starEach es X.env:=by rfl) (hpl:(backTo pos (starEach es X.env)).any (·.1)=false:=by rfl):
  DE X (.Call (.Name x p) (e::es) [] pos) (aF (aW F n) fa):=by
 refine PE.imp (pe_call (dvs:=[]) G hr hg hm hk hb .nil pass0 ha hdb he hpl) λ σ H Q h=>?_;obtain⟨ρ,O,j,h⟩:=h;refine go j h λ ds vs H1 e1 s1 r1 j1 h1=>?_;unfold aW at h1;by_cases hl:ds.length=n
 ·rw[if_pos hl] at h1;rw[List.append_nil];refine⟨O,ds,r1,hl,j1.al,?_⟩;cases q:F ds with
  |ok d=>rw[q] at h1;exact h1
  |err c=>rw[q] at h1;exact h1
  |bad=>rw[q] at h1;exact h1
 ·rw[if_neg hl] at h1;exact h1.elim
end
section
variable {X:Cx}
noncomputable def bW:List D->R D
 |[.tup ds]=> .ok (.int ds.length)
 |[.lst ds]=> .ok (.int ds.length)
 |_=> .bad
theorem bR:CallD X (.builtin "len") bW:=by
 refine⟨_,call_len_seq,λ ρ O σ H Q xs ds j r h=>?_⟩;unfold bW at h;split at h
 ·obtain⟨x,rfl,rx⟩:=r.one;obtain⟨a,ys,rfl,hq,rs⟩:=rx.tup;exact⟨a,ys,rfl,.inr hq,by rw[<-rs.length];exact fin h (cJ _)⟩
 ·obtain⟨x,rfl,rx⟩:=r.one;obtain⟨a,ys,rfl,hq,_,rs⟩:=rx.lst;exact⟨a,ys,rfl,.inl hq,by rw[<-rs.length];exact fin h (cJ _)⟩
 ·exact h.elim
noncomputable def jw:List D->R D
 |[.tup ds]=> .ok (.tup ds)
 |[.lst ds]=> .ok (.tup ds)
 |_=> .bad
theorem d9:CallD X (.type "tuple") jw:=by
 refine⟨_,call_tuple_of,λ ρ O σ H Q xs ds j r h=>?_⟩;unfold jw at h;split at h
 ·obtain⟨x,rfl,rx⟩:=r.one;obtain⟨a,ys,rfl,hq,rs⟩:=rx.tup;exact⟨a,ys,rfl,.inr ⟨hq,fin h (gU hq rs)⟩⟩
 ·obtain⟨x,rfl,rx⟩:=r.one;obtain⟨a,ys,rfl,hq,_,rs⟩:=rx.lst;exact⟨a,ys,rfl,.inl ⟨hq,λ l hl=>h _ _ (Same.upd hl) (Rep.sZ hl rs)⟩⟩
 ·exact h.elim
noncomputable def boolsOf:List D->Option (List Bool)
 |[]=>some []
 | .bl b::r=>(boolsOf r).map (b:: ·)
 |_=>none
noncomputable def intsOf:List D->Option (List Int)
 |[]=>some []
 | .int i::r=>(intsOf r).map (i:: ·)
 |_=>none
theorem Tz {K:PySem.W.Frag} {O:Addr->Prop} {H:Hp}:∀{ds:List D} {bs:List Bool} {vs:List V},boolsOf ds=some bs->aU K O H ds vs->vs=bs.map V.bl
 |[],bs,vs,e,r=>by cases e;exact r.nil_inv
 | d ::ds,bs,vs,e,r=>by
  cases d with
  | bl b=>
   have e:(boolsOf ds).map (b:: ·)=some bs:=e;cases q:boolsOf ds with
   |none=>rw[q] at e;cases e
   | some l=>
    rw[q] at e;cases e;obtain⟨x,t,rfl,rx,rt⟩:=r.cons_inv;rw[rx.bl,Tz q rt];rfl
  |_=>cases e
theorem M8 {K:PySem.W.Frag} {O:Addr->Prop} {H:Hp}:∀{ds:List D} {bs:List Int} {vs:List V},intsOf ds=some bs->aU K O H ds vs->vs=bs.map V.int
 |[],bs,vs,e,r=>by cases e;exact r.nil_inv
 | d ::ds,bs,vs,e,r=>by
  cases d with
  | int b=>
   have e:(intsOf ds).map (b:: ·)=some bs:=e;cases q:intsOf ds with
   |none=>rw[q] at e;cases e
   | some l=>
    rw[q] at e;cases e;obtain⟨x,t,rfl,rx,rt⟩:=r.cons_inv;rw[rx.int,M8 q rt];rfl
  |_=>cases e
theorem M9:∀{bs:List Bool} {us:List Value},Vals (bs.map V.bl) us->LSm.BoolsAre us bs
 |[],_,.nil=> .nil
 |b::bs,_,.cons r t=>by cases r;exact .cons b (M9 t)
theorem Xk (hc:X.calm=true):CallR X (.builtin "all") (λ xs H Q=>∃p,∃bs:List Bool,xs=[.ref p]/\SqL X.K H p (bs.map V.bl)/\Q (.bl (bs.all id)) H):=by
 intro pins s σ H xs us Q I r h;obtain⟨p,bs,rfl,hq,q⟩:=h;obtain⟨u,rfl,rx⟩:=vals1 r;cases rx;obtain⟨its,r',pl,hz⟩:=I.list hq;have hb:=M9 r';have hl:=pl.isList;have hlt:p < s.heap.objs.size:=by obtain⟨_,e,_⟩:=hl;exact Heap.lt_size e
 refine call_all_walk (wpAny_pyIter_list hl ?_);refine⟨s.heap.objs.size,[s.heap.objs.size,p],[s.heap.objs.size],its.toArray.size,_,_,λ i=>(bs[i]?).getD true,rfl,Walks.list (A:=X.A.in1) (I.ok.hd hc) _ p (Nat.ne_of_lt hlt) its.toArray,
  ⟨⟨_,Heap.get?_push_size _ rfl,rfl,rfl⟩,hl.push _⟩,λ i v s' Q' E' hP hQ=>?_,λ h' tk hk=>?_⟩
 ·obtain⟨b,e,rfl⟩:=hb.get i v (by simpa using hP);simp only[e,Option.getD_some] at hQ;exact wpAny_truthy_bool hQ
 ·have e:((List.range its.toArray.size).all λ i=>(bs[i]?).getD true)=bs.all id:=by
   rw[List.size_toArray,hb.length];exact LSm.range_all bs
  rw[e];exact⟨.bl _,H,I.kept (LSm.kept_iter hk),rfl,q⟩
noncomputable def pL:List D->R D
 | [.lst ds]=>match boolsOf ds with
  |some bs=> .ok (.bl (bs.all id))
  |none=> .bad
 |_=> .bad
theorem qY (hc:X.calm=true):CallD X (.builtin "all") pL:=by
 refine⟨_,Xk hc,λ ρ O σ H Q xs ds j r h=>?_⟩;unfold pL at h;split at h
 ·rename_i ds;obtain⟨x,rfl,rx⟩:=r.one;obtain⟨a,ys,rfl,hq,_,rs⟩:=rx.lst;cases e:boolsOf ds with
  |none=>rw[e] at h;exact h.elim
  | some bs=>
   rw[e] at h;have ey:=Tz e rs;subst ey;exact⟨a,bs,rfl,hq,fin h (fG _)⟩
 ·exact h.elim
theorem Xl (hc:X.calm=true):CallR X (.builtin "sum") (λ xs H Q=>∃p,∃ns:List Int,xs=[.ref p]/\(SqL X.K H p (ns.map V.int)\/SqT X.K H p (ns.map V.int))/\Q (.int ns.sum) H):=by
 intro pins s σ H xs us Q I r h;obtain⟨p,ns,rfl,hq,q⟩:=h;obtain⟨u,rfl,rx⟩:=vals1 r;cases rx;have key:∀(its:List Value),Vals (ns.map V.int) its->∃zs:Array (Int×Tok),its.toArray=intItems zs/\preSum (numAt zs) zs.size=ns.sum:=λ its r'=>by
  have hi:=intsAre_of r';obtain⟨zs,hx⟩:=hi.allInts.items;refine⟨zs,hx,?_⟩;have e1:ns=zs.toList.map (·.1):=by
   rw[<-nums_intItems,<-hx];exact (show numsOf its.toArray.toList=ns from hi.numsOf).symm
  rw[preSum_eq,List.take_of_length_le (by simp),e1]
 rcases hq with hq |hq
 ·obtain⟨its,r',pl,hz⟩:=I.list hq;obtain⟨zs,e1,e2⟩:=key its r';refine sum_intListG (I.ok.hd hc) (e1▸pl.isList) λ h' tk t' hk=>?_;rw[e2];exact⟨.int _,H,I.kept hk,⟨t',rfl⟩,q⟩
 ·obtain⟨its,r',pl,hz⟩:=I.tuple hq;obtain⟨zs,e1,e2⟩:=key its r';refine PySem.W.ktm_sumG (I.ok.hd hc) (show s.heap.IsTuple p (intItems zs) from e1▸pl) λ h' tk t' hk=>?_;rw[e2];exact⟨.int _,H,I.kept hk,⟨t',rfl⟩,q⟩
noncomputable def Nb:List D->R D
 | [.lst ds]=>match intsOf ds with
  |some bs=> .ok (.int bs.sum)
  |none=> .bad
 | [.tup ds]=>match intsOf ds with
  |some bs=> .ok (.int bs.sum)
  |none=> .bad
 |_=> .bad
theorem adM (hc:X.calm=true):CallD X (.builtin "sum") Nb:=by
 refine⟨_,Xl hc,λ ρ O σ H Q xs ds j r h=>?_⟩;unfold Nb at h;split at h
 ·rename_i ds;obtain⟨x,rfl,rx⟩:=r.one;obtain⟨a,ys,rfl,hq,_,rs⟩:=rx.lst;cases e:intsOf ds with
  |none=>rw[e] at h;exact h.elim
  | some bs=>
   rw[e] at h;have ey:=M8 e rs;subst ey;exact⟨a,bs,rfl,.inl hq,fin h (cJ _)⟩
 ·rename_i ds;obtain⟨x,rfl,rx⟩:=r.one;obtain⟨a,ys,rfl,hq,rs⟩:=rx.tup;cases e:intsOf ds with
  |none=>rw[e] at h;exact h.elim
  | some bs=>
   rw[e] at h;have ey:=M8 e rs;subst ey;exact⟨a,bs,rfl,.inr hq,fin h (cJ _)⟩
 ·exact h.elim
noncomputable def kZ:D->String
 | .non=> "NoneType"
 | .bl _=> "bool"
 | .int _=> "int"
 | .str _=> "str"
 | .tup _=> "tuple"
 | .lst _=> "list"
theorem Xm (T:String) (ans:String->Bool) (hk:∀d:D,PySem.W.kitOne X.K (.type (kZ d)) (.type T)=some (ans (kZ d))):
  CallR X (.builtin "isinstance") (λ xs H Q=>∃x O d,xs=[x,.ty T]/\Rep X.K O H d x/\Q (.bl (ans (kZ d))) H):=by
 intro pins s σ H xs us Q I r h;obtain⟨x,O,d,rfl,rd,q⟩:=h;obtain⟨u,u2,rfl,rx,r2⟩:=vals2 r;cases r2;have e:=hk d;have fin':∀tk,EP X pins σ Q (.bool (ans (kZ d))) {s with toks:=tk}:=λ tk=>⟨.bl _,H,I.tok _,rfl,q⟩;cases d with
 | non=>
  cases rd.non;cases (show u=Value.none from rx);exact PySem.W.kia_one PySem.W.kitx_none I.kIn True.intro e (λ z=>nomatch z) fin'
 | bl b=>
  cases rd.bl;cases (show u=Value.bool b from rx);exact PySem.W.kia_one PySem.W.kitx_bool I.kIn True.intro e (λ z=>nomatch z) fin'
 | int i=>
  cases rd.int;obtain⟨t,z⟩:=(show ∃t,u=Value.int i t from rx);cases z;exact PySem.W.kia_one PySem.W.kitx_int I.kIn True.intro e (λ z=>nomatch z) fin'
 | str y=>
  cases rd.str;obtain⟨t,z⟩:=(show ∃t,u=Value.str y t from rx);cases z;exact PySem.W.kia_one PySem.W.kitx_str I.kIn True.intro e (λ z=>nomatch z) fin'
 | tup ds=>
  obtain⟨a,ys,rfl,hq,_⟩:=rd.tup;cases (show u=Value.ref a from rx);obtain⟨its,_,pl,_⟩:=I.tuple hq;obtain⟨o,h1,h2,_⟩:=pl;exact PySem.W.kia_one PySem.W.kitx_tuple I.kIn ⟨o,h1,h2⟩ e (λ z=>nomatch z) fin'
 | lst ds=>
  obtain⟨a,ys,rfl,hq,_,_⟩:=rd.lst;cases (show u=Value.ref a from rx);obtain⟨its,_,pl,_⟩:=I.list hq;obtain⟨o,n,h1,h2,_⟩:=pl;exact PySem.W.kia_one PySem.W.kitx_list I.kIn ⟨o,h1,h2⟩ e (λ z=>nomatch z) fin'
noncomputable def qF (ans:String->Bool) (f:aA->R D):aA->R D:=λ ρ=>(f ρ).bind λ d=> .ok (.bl (ans (kZ d)))
theorem mD {T:String} {ans:String->Bool} {x y:Str} {e:Expr} {f:aA->R D} {p p2 pos:Pos} (hk:∀d:D,PySem.W.kitOne X.K (.type (kZ d)) (.type T)=some (ans (kZ d))) (he:DE X e f)
  (hg:Gl X x) (hm:X.mg x=none) (hv:bootBuiltins x=some (.builtin "isinstance")) (hgy:Gl X y) (hmy:X.mg y=none) (hvy:bootBuiltins y=some (.type T)) (hn:x≠"__name__" :=by decide) (hdb:(x ==("__debug__" :Str))=false:=by decide)
  (hny:y≠"__name__" :=by decide) (hdy:(y ==("__debug__" :Str))=false:=by decide)
  (hs:starEach [e,.Name y p2] X.env=(false,eval e X.env)::starEach [.Name y p2] X.env:=by rfl) (hs2:starEach [.Name y p2] X.env=(false,eval (.Name y p2) X.env)::starEach [] X.env:=by rfl) (hpl:(backTo pos (starEach [.Name y p2] X.env)).any (·.1)=false:=by rfl):
  DE X (.Call (.Name x p) [e,.Name y p2] [] pos) (qF ans f):=by
 refine PE.imp (pe_callB (Xm T ans hk) hg hm hv (pa_cons he (pa_cons (pe_bltn (v:= .ty T) hgy hmy hvy rfl hny hdy) pa_nil hs2) hs) hn hdb hs hpl) λ σ H Q h=>?_;obtain⟨ρ,O,j,h⟩:=h;refine go j h λ d v H1 e1 s1 r1 j1 h1=>?_;exact⟨v,O,d,rfl,r1,fin h1 (fG _)⟩
end
mutual
noncomputable def fK:D->D->Bool
 | .non,.non=>true
 | .bl a,.bl b=>a ==b
 | .bl a,.int b=>(if a then 1 else 0) ==b
 | .int a,.bl b=>a ==(if b then 1 else 0)
 | .int a,.int b=>a ==b
 | .str a,.str b=>a ==b
 | .tup a,.tup b=>rM a b
 | .lst a,.lst b=>rM a b
 |_,_=>false
noncomputable def rM:List D->List D->Bool
 |[],[]=>true
 |x::xs,y::ys=>fK x y && rM xs ys
 |_,_=>false
end
mutual
noncomputable def dep:D->Nat
 | .tup a=>deps a+1
 | .lst a=>deps a+1
 |_=>0
noncomputable def deps:List D->Nat
 |[]=>0
 |x::xs=>max (dep x) (deps xs)
end
theorem pN:∀{ds:List D} {d:D},d∈ds->dep d<=deps ds
 |[],_,h=>by simp at h
 | x::xs,d,h=>by
  rw[deps];rcases List.mem_cons.mp h with e |h
  ·subst e;exact Nat.le_max_left _ _
  ·exact Nat.le_trans (pN h) (Nat.le_max_right _ _)
theorem lg (a b:Bool):fK (.bl a) (.bl b)=(a ==b):=rfl
theorem lq (a:Bool) (b:Int):fK (.bl a) (.int b)=((if a then 1 else 0) ==b):=rfl
theorem lu (a:Int) (b:Bool):fK (.int a) (.bl b)=(a ==(if b then 1 else 0)):=rfl
theorem lA (a b:Int):fK (.int a) (.int b)=(a ==b):=rfl
theorem lB (a b:Str):fK (.str a) (.str b)=(a ==b):=rfl
theorem gk (a b:List D):fK (.tup a) (.tup b)=rM a b:=rfl
theorem eF (a b:List D):fK (.lst a) (.lst b)=rM a b:=rfl
mutual
theorem Ep:∀d:D,fK d d=true
 | .non=>rfl
 | .bl a=>by simp[lg,lq,lu,lA,lB,gk,eF]
 | .int a=>by simp[lg,lq,lu,lA,lB,gk,eF]
 | .str a=>by simp[lg,lq,lu,lA,lB,gk,eF]
 | .tup a=>by rw[gk];exact qZ a
 | .lst a=>by rw[eF];exact qZ a
theorem qZ:∀d:List D,rM d d=true
 |[]=>rfl
 |x::xs=>by rw[rM,Ep x,qZ xs];rfl
end
theorem uf:∀{xs ys:List D},xs.length≠ys.length->rM xs ys=false
 |[],[],h=>absurd rfl h
 |[],_::_,_=>rfl
 |_::_,[],_=>rfl
 | x::xs,y::ys,h=>by
  rw[rM,uf (xs:=xs) (ys:=ys) (λ e=>h (by simp[e])),Bool.and_false]
theorem ug:∀{xs ys:List D},xs.length=ys.length->rM xs ys=(List.range xs.length).all λ i=>fK (xs.getD i .non) (ys.getD i .non)
 |[],[],_=>rfl
 |[],_::_,h=>by simp at h
 |_::_,[],h=>by simp at h
 | x::xs,y::ys,h=>by
  rw[rM,ug (xs:=xs) (ys:=ys) (by simpa using h),List.length_cons,List.range_succ_eq_map,List.all_cons,List.all_map];rfl
end Pu
namespace Pu
open PySem PySem.Spec L2
open PyProof.Rows hiding St
open PySem.SeqAt
inductive LkT (X:Cx) (O:Addr->Prop) (H:Hp) (s:Shared) (ds:List D) (u:Value):Prop
 |mk (a:Addr) (xs:List V) (its:List Value) (e:u=Value.ref a) (q:SqT X.K H a xs) (v:Vals xs its) (p:s.heap.IsTuple a its.toArray) (r:aU X.K O H ds xs):LkT X O H s ds u
inductive LkL (X:Cx) (O:Addr->Prop) (H:Hp) (s:Shared) (ds:List D) (u:Value):Prop
 |mk (a:Addr) (xs:List V) (its:List Value) (e:u=Value.ref a) (q:SqL X.K H a xs) (v:Vals xs its) (p:s.heap.IsList a its.toArray) (r:aU X.K O H ds xs):LkL X O H s ds u
noncomputable def Lk (X:Cx) (O:Addr->Prop) (H:Hp) (s:Shared):D->Value->Prop
 | .non,u=>u=Value.none
 | .bl b,u=>u=Value.bool b
 | .int i,u=>∃t,u=Value.int i t
 | .str x,u=>∃t,u=Value.str x t
 | .tup ds,u=>LkT X O H s ds u
 | .lst ds,u=>LkL X O H s ds u
section
variable {X:Cx} {pins:List (Addr×Obj)} {σ:St} {H:Hp} {s:Shared} {O O':Addr->Prop}
theorem vC (I:Inv X pins σ H s) {d:D} {v:V} {u:Value} (r:Rep X.K O H d v) (q:RelV v u):Lk X O H s d u:=by
 cases d with
 |non=>cases r.non;exact q
 |bl b=>cases r.bl;exact q
 |int i=>cases r.int;exact q
 |str x=>cases r.str;exact q
 | tup ds=>
  obtain⟨a,xs,rfl,hq,rs⟩:=r.tup;cases (show u=Value.ref a from q);obtain⟨its,rv,p,_⟩:=I.tuple hq;exact⟨a,xs,its,rfl,hq,rv,p,rs⟩
 | lst ds=>
  obtain⟨a,xs,rfl,hq,_,rs⟩:=r.lst;cases (show u=Value.ref a from q);obtain⟨its,rv,p,_⟩:=I.list hq;exact⟨a,xs,its,rfl,hq,rv,p.isList,rs⟩
theorem isTuple_list {a:Addr} {p q:Array Value} (h1:s.heap.IsTuple a p) (h2:s.heap.IsList a q):False:=ne_of_list_tuple h2 h1 rfl
mutual
theorem Rep.inj (I:Inv X pins σ H s):∀(d e:D) (v:V),Rep X.K O H d v->Rep X.K O' H e v->d=e
 | .non,e,v,r,q=>by
  cases r.non;cases e with
  |non=>rfl
  |bl _=>cases q.bl
  |int _=>cases q.int
  |str _=>cases q.str
  |tup _=>obtain⟨_,_,z,_⟩:=q.tup;cases z
  |lst _=>obtain⟨_,_,z,_⟩:=q.lst;cases z
 | .bl b,e,v,r,q=>by
  cases r.bl;cases e with
  |non=>cases q.non
  |bl _=>cases q.bl;rfl
  |int _=>cases q.int
  |str _=>cases q.str
  |tup _=>obtain⟨_,_,z,_⟩:=q.tup;cases z
  |lst _=>obtain⟨_,_,z,_⟩:=q.lst;cases z
 | .int b,e,v,r,q=>by
  cases r.int;cases e with
  |non=>cases q.non
  |bl _=>cases q.bl
  |int _=>cases q.int;rfl
  |str _=>cases q.str
  |tup _=>obtain⟨_,_,z,_⟩:=q.tup;cases z
  |lst _=>obtain⟨_,_,z,_⟩:=q.lst;cases z
 | .str b,e,v,r,q=>by
  cases r.str;cases e with
  |non=>cases q.non
  |bl _=>cases q.bl
  |int _=>cases q.int
  |str _=>cases q.str;rfl
  |tup _=>obtain⟨_,_,z,_⟩:=q.tup;cases z
  |lst _=>obtain⟨_,_,z,_⟩:=q.lst;cases z
 | .tup ds,e,v,r,q=>by
  obtain⟨a,xs,rfl,hq,rs⟩:=r.tup;cases e with
  |non=>cases q.non
  |bl _=>cases q.bl
  |int _=>cases q.int
  |str _=>cases q.str
  | tup es=>
   obtain⟨b,ys,z,hq',rs'⟩:=q.tup;cases z;cases I.tuple_inj hq hq';rw[aU.inj I ds es xs rs rs']
  | lst es=>
   obtain⟨b,ys,z,hq',_,rs'⟩:=q.lst;cases z;obtain⟨_,_,p1,_⟩:=I.tuple hq;obtain⟨_,_,p2,_⟩:=I.list hq';exact (isTuple_list p1 p2.isList).elim
 | .lst ds,e,v,r,q=>by
  obtain⟨a,xs,rfl,hq,_,rs⟩:=r.lst;cases e with
  |non=>cases q.non
  |bl _=>cases q.bl
  |int _=>cases q.int
  |str _=>cases q.str
  | tup es=>
   obtain⟨b,ys,z,hq',rs'⟩:=q.tup;cases z;obtain⟨_,_,p1,_⟩:=I.tuple hq';obtain⟨_,_,p2,_⟩:=I.list hq;exact (isTuple_list p1 p2.isList).elim
  | lst es=>
   obtain⟨b,ys,z,hq',_,rs'⟩:=q.lst;cases z;cases I.list_inj hq hq';rw[aU.inj I ds es xs rs rs']
theorem aU.inj (I:Inv X pins σ H s):∀(ds es:List D) (vs:List V),aU X.K O H ds vs->aU X.K O' H es vs->ds=es
 | [],es,vs,r,q=>by
  rw[r.nil_inv] at q;cases es with
  |nil=>rfl
  |cons e es=>obtain⟨_,_,z,_⟩:=q.cons_inv;cases z
 | d ::ds,es,vs,r,q=>by
  obtain⟨x,t,rfl,rx,rt⟩:=r.cons_inv;cases es with
  |nil=>cases q.nil_inv
  | cons e es=>
   obtain⟨_,_,z,qx,qt⟩:=q.cons_inv;cases z;rw[Rep.inj I d e x rx qx,aU.inj I ds es t rt qt]
end
theorem pO {A:Around} {ds es:List D} {xs ys:List V} {its jts:List Value} (r1:aU X.K O H ds xs) (r2:aU X.K O' H es ys) (v1:Vals xs its) (v2:Vals ys jts)
  (ih:∀d∈ds,∀(e:D) (v w:V) (u u':Value),Rep X.K O H d v->Rep X.K O' H e w->RelV v u->RelV w u'->EqAt A s u u' (fK d e)):
  ∀j (h1:j < its.toArray.size) (h2:j < jts.toArray.size),EqAt A s its.toArray[j] jts.toArray[j] (fK (ds.getD j .non) (es.getD j .non)):=by
 intro j h1 h2;have e1:its[j]?=some its.toArray[j]:=by simp
 have e2:jts[j]?=some jts.toArray[j]:=by simp
 have l1:=v1.length;have l2:=v2.length;have k1:=r1.length;have k2:=r2.length;simp only[List.size_toArray] at h1 h2;obtain⟨v,ev,rv⟩:∃v,xs[j]?=some v/\RelV v its.toArray[j]:=by
  have hj:j < xs.length:=by omega
  obtain⟨u,eu,ru⟩:=v1.get (i:=j) (x:=xs[j]) (by simp[hj]);rw[e1] at eu;cases eu;exact⟨_,by simp[hj],ru⟩
 obtain⟨w,ew,rw'⟩:∃v,ys[j]?=some v/\RelV v jts.toArray[j]:=by
  have hj:j < ys.length:=by omega
  obtain⟨u,eu,ru⟩:=v2.get (i:=j) (x:=ys[j]) (by simp[hj]);rw[e2] at eu;cases eu;exact⟨_,by simp[hj],ru⟩
 obtain⟨d,ed,rd⟩:=r1.ao ev;obtain⟨e,ee,re⟩:=r2.ao ew;have g1:ds.getD j .non=d:=by simp[List.getD,ed]
 have g2:es.getD j .non=e:=by simp[List.getD,ee]
 rw[g1,g2];exact ih d (List.mem_of_getElem? ed) e v w _ _ rd re rv rw'
theorem Er {ds es:List D} {n m:Nat} (hn:ds.length=n) (hm:es.length=m):((List.range (min n m)).all (λ j=>fK (ds.getD j .non) (es.getD j .non)) && n ==m)=rM ds es:=by
 by_cases h:n=m
 ·subst h;rw[Nat.min_self,beq_self_eq_true,Bool.and_true,ug (by rw[hn,hm]),hn]
 ·rw[uf (by rw[hn,hm];exact h),show (n ==m)=false by simpa using h,Bool.and_false]
theorem Nf (I:Inv X pins σ H s) {A:Around} (hu:A.units < cLine) {d e:D} {u u':Value} (h1:Lk X O H s d u) (h2:Lk X O' H s e u')
  (ih:∀c∈(match d with | .tup ds=>ds | .lst ds=>ds |_=>[]),∀(e:D) (v w:V) (u u':Value),Rep X.K O H c v->Rep X.K O' H e w->RelV v u->RelV w u'->EqAt A.in1 s u u' (fK c e)):EqAt A s u u' (fK d e):=by
 cases d with
 | non=>
  cases h1;cases e with
  | non=>
   cases h2;exact EqAt.same _
  | bl b=>
   cases h2;exact EqAt.none_bool _
  | int b=>
   obtain⟨t2,rfl⟩:=h2;exact EqAt.none_int _ _
  | str b=>
   obtain⟨t2,rfl⟩:=h2;exact EqAt.none_str _ _
  | tup es=>
   obtain⟨p2,ys,jts,rfl,hq2,v2,hp2,r2⟩:=h2;exact EqAt.none_tuple hp2 hu
  | lst es=>
   obtain⟨p2,ys,jts,rfl,hq2,v2,hp2,r2⟩:=h2;exact EqAt.none_list hp2 hu
 | bl a=>
  cases h1;cases e with
  | non=>
   cases h2;exact EqAt.bool_none _
  | bl b=>
   cases h2;exact EqAt.bool_bool _ _
  | int b=>
   obtain⟨t2,rfl⟩:=h2;exact EqAt.bool_int _ _ _
  | str b=>
   obtain⟨t2,rfl⟩:=h2;exact EqAt.bool_str _ _ _
  | tup es=>
   obtain⟨p2,ys,jts,rfl,hq2,v2,hp2,r2⟩:=h2;exact EqAt.bool_tuple _ hp2 hu
  | lst es=>
   obtain⟨p2,ys,jts,rfl,hq2,v2,hp2,r2⟩:=h2;exact EqAt.bool_list _ hp2 hu
 | int a=>
  obtain⟨t1,rfl⟩:=h1;cases e with
  | non=>
   cases h2;exact EqAt.int_none _ _
  | bl b=>
   cases h2;exact EqAt.int_bool _ _ _
  | int b=>
   obtain⟨t2,rfl⟩:=h2;exact EqAt.int_int _ _ _ _
  | str b=>
   obtain⟨t2,rfl⟩:=h2;exact EqAt.int_str _ _ _ _
  | tup es=>
   obtain⟨p2,ys,jts,rfl,hq2,v2,hp2,r2⟩:=h2;exact EqAt.int_tuple _ _ hp2 hu
  | lst es=>
   obtain⟨p2,ys,jts,rfl,hq2,v2,hp2,r2⟩:=h2;exact EqAt.int_list _ _ hp2 hu
 | str a=>
  obtain⟨t1,rfl⟩:=h1;cases e with
  | non=>
   cases h2;exact EqAt.str_none _ _
  | bl b=>
   cases h2;exact EqAt.str_bool _ _ _
  | int b=>
   obtain⟨t2,rfl⟩:=h2;exact EqAt.str_int _ _ _ _
  | str b=>
   obtain⟨t2,rfl⟩:=h2;exact EqAt.str_str _ _ _ _
  | tup es=>
   obtain⟨p2,ys,jts,rfl,hq2,v2,hp2,r2⟩:=h2;exact EqAt.str_tuple _ _ hp2 hu
  | lst es=>
   obtain⟨p2,ys,jts,rfl,hq2,v2,hp2,r2⟩:=h2;exact EqAt.str_list _ _ hp2 hu
 | tup ds=>
  obtain⟨p1,xs,its,rfl,hq1,v1,hp1,r1⟩:=h1;cases e with
  | non=>
   cases h2;exact EqAt.tuple_none hp1 hu
  | bl b=>
   cases h2;exact EqAt.tuple_bool _ hp1 hu
  | int b=>
   obtain⟨t2,rfl⟩:=h2;exact EqAt.tuple_int _ _ hp1 hu
  | str b=>
   obtain⟨t2,rfl⟩:=h2;exact EqAt.tuple_str _ _ hp1 hu
  | tup es=>
   obtain⟨p2,ys,jts,rfl,hq2,v2,hp2,r2⟩:=h2;by_cases hne:p1=p2
   ·subst hne;cases I.tuple_inj hq1 hq2;rw[gk,aU.inj I ds es xs r1 r2,qZ];exact EqAt.same _
   ·have q:=EqAt.of_refs hne (RcAt.tuples hp1 hp2 hu (pO r1 r2 v1 v2 ih));simp only[List.size_toArray] at q;rw[Er (r1.length.trans v1.length) (r2.length.trans v2.length)] at q;rw[gk];exact q
  | lst es=>
   obtain⟨p2,ys,jts,rfl,hq2,v2,hp2,r2⟩:=h2;exact EqAt.tuple_list hp1 hp2 hu
 | lst ds=>
  obtain⟨p1,xs,its,rfl,hq1,v1,hp1,r1⟩:=h1;cases e with
  | non=>
   cases h2;exact EqAt.list_none hp1 hu
  | bl b=>
   cases h2;exact EqAt.list_bool _ hp1 hu
  | int b=>
   obtain⟨t2,rfl⟩:=h2;exact EqAt.list_int _ _ hp1 hu
  | str b=>
   obtain⟨t2,rfl⟩:=h2;exact EqAt.list_str _ _ hp1 hu
  | tup es=>
   obtain⟨p2,ys,jts,rfl,hq2,v2,hp2,r2⟩:=h2;exact EqAt.list_tuple hp1 hp2 hu
  | lst es=>
   obtain⟨p2,ys,jts,rfl,hq2,v2,hp2,r2⟩:=h2;by_cases hne:p1=p2
   ·subst hne;cases I.list_inj hq1 hq2;rw[eF,aU.inj I ds es xs r1 r2,qZ];exact EqAt.same _
   ·by_cases hz:ds.length=es.length
    ·have q:=EqAt.of_refs hne (RcAt.lists hp1 hp2 (by simp only[List.size_toArray];rw[<-v1.length,<-v2.length,<-r1.length,<-r2.length];exact hz) hu (pO r1 r2 v1 v2 ih));rw[List.size_toArray,<-v1.length,<-r1.length,<-ug hz] at q;rw[eF];exact q
    ·rw[eF,uf hz];exact EqAt.of_refs hne (RcAt.lists_lengths hp1 hp2 (by simp only[List.size_toArray];rw[<-v1.length,<-v2.length,<-r1.length,<-r2.length];simpa using hz) hu)
theorem aar (I:Inv X pins σ H s) {A:Around} (hu:A.units < cLine) {d e:D} {u u':Value} (h1:Lk X O H s d u) (h2:Lk X O' H s e u')
  (ih:∀c∈(match d with | .tup ds=>ds | .lst ds=>ds |_=>[]),∀(e:D) (v w:V) (u u':Value),Rep X.K O H c v->Rep X.K O' H e w->RelV v u->RelV w u'->EqAt A.in1 s u u' (fK c e)):RcAt A s u u' (fK d e):=by
 cases d with
 | non=>
  cases h1;cases e with
  | non=>
   cases h2;exact RcAt.none_none
  | bl b=>
   cases h2;exact RcAt.none_bool _
  | int b=>
   obtain⟨t2,rfl⟩:=h2;exact RcAt.none_int _ _
  | str b=>
   obtain⟨t2,rfl⟩:=h2;exact RcAt.none_str _ _
  | tup es=>
   obtain⟨p2,ys,jts,rfl,hq2,v2,hp2,r2⟩:=h2;exact RcAt.none_tuple hp2 hu
  | lst es=>
   obtain⟨p2,ys,jts,rfl,hq2,v2,hp2,r2⟩:=h2;exact RcAt.none_list hp2 hu
 | bl a=>
  cases h1;cases e with
  | non=>
   cases h2;exact RcAt.bool_none _
  | bl b=>
   cases h2;exact RcAt.bool_bool _ _
  | int b=>
   obtain⟨t2,rfl⟩:=h2;exact RcAt.bool_int _ _ _
  | str b=>
   obtain⟨t2,rfl⟩:=h2;exact RcAt.bool_str _ _ _
  | tup es=>
   obtain⟨p2,ys,jts,rfl,hq2,v2,hp2,r2⟩:=h2;exact RcAt.bool_tuple _ hp2 hu
  | lst es=>
   obtain⟨p2,ys,jts,rfl,hq2,v2,hp2,r2⟩:=h2;exact RcAt.bool_list _ hp2 hu
 | int a=>
  obtain⟨t1,rfl⟩:=h1;cases e with
  | non=>
   cases h2;exact RcAt.int_none _ _
  | bl b=>
   cases h2;exact RcAt.int_bool _ _ _
  | int b=>
   obtain⟨t2,rfl⟩:=h2;exact RcAt.int_int _ _ _ _
  | str b=>
   obtain⟨t2,rfl⟩:=h2;exact RcAt.int_str _ _ _ _
  | tup es=>
   obtain⟨p2,ys,jts,rfl,hq2,v2,hp2,r2⟩:=h2;exact RcAt.int_tuple _ _ hp2 hu
  | lst es=>
   obtain⟨p2,ys,jts,rfl,hq2,v2,hp2,r2⟩:=h2;exact RcAt.int_list _ _ hp2 hu
 | str a=>
  obtain⟨t1,rfl⟩:=h1;cases e with
  | non=>
   cases h2;exact RcAt.str_none _ _
  | bl b=>
   cases h2;exact RcAt.str_bool _ _ _
  | int b=>
   obtain⟨t2,rfl⟩:=h2;exact RcAt.str_int _ _ _ _
  | str b=>
   obtain⟨t2,rfl⟩:=h2;exact RcAt.str_str _ _ _ _
  | tup es=>
   obtain⟨p2,ys,jts,rfl,hq2,v2,hp2,r2⟩:=h2;exact RcAt.str_tuple _ _ hp2 hu
  | lst es=>
   obtain⟨p2,ys,jts,rfl,hq2,v2,hp2,r2⟩:=h2;exact RcAt.str_list _ _ hp2 hu
 | tup ds=>
  obtain⟨p1,xs,its,rfl,hq1,v1,hp1,r1⟩:=h1;cases e with
  | non=>
   cases h2;exact RcAt.tuple_none hp1 hu
  | bl b=>
   cases h2;exact RcAt.tuple_bool _ hp1 hu
  | int b=>
   obtain⟨t2,rfl⟩:=h2;exact RcAt.tuple_int _ _ hp1 hu
  | str b=>
   obtain⟨t2,rfl⟩:=h2;exact RcAt.tuple_str _ _ hp1 hu
  | tup es=>
   obtain⟨p2,ys,jts,rfl,hq2,v2,hp2,r2⟩:=h2;have q:=RcAt.tuples hp1 hp2 hu (pO r1 r2 v1 v2 ih);simp only[List.size_toArray] at q;rw[Er (r1.length.trans v1.length) (r2.length.trans v2.length)] at q;rw[gk];exact q
  | lst es=>
   obtain⟨p2,ys,jts,rfl,hq2,v2,hp2,r2⟩:=h2;exact RcAt.tuple_list hp1 hp2 hu
 | lst ds=>
  obtain⟨p1,xs,its,rfl,hq1,v1,hp1,r1⟩:=h1;cases e with
  | non=>
   cases h2;exact RcAt.list_none hp1 hu
  | bl b=>
   cases h2;exact RcAt.list_bool _ hp1 hu
  | int b=>
   obtain⟨t2,rfl⟩:=h2;exact RcAt.list_int _ _ hp1 hu
  | str b=>
   obtain⟨t2,rfl⟩:=h2;exact RcAt.list_str _ _ hp1 hu
  | tup es=>
   obtain⟨p2,ys,jts,rfl,hq2,v2,hp2,r2⟩:=h2;exact RcAt.list_tuple hp1 hp2 hu
  | lst es=>
   obtain⟨p2,ys,jts,rfl,hq2,v2,hp2,r2⟩:=h2;by_cases hz:ds.length=es.length
   ·have q:=RcAt.lists hp1 hp2 (by simp only[List.size_toArray];rw[<-v1.length,<-v2.length,<-r1.length,<-r2.length];exact hz) hu (pO r1 r2 v1 v2 ih);rw[List.size_toArray,<-v1.length,<-r1.length,<-ug hz] at q;rw[eF];exact q
   ·rw[eF,uf hz];exact RcAt.lists_lengths hp1 hp2 (by simp only[List.size_toArray];rw[<-v1.length,<-v2.length,<-r1.length,<-r2.length];simpa using hz) hu
theorem aas (I:Inv X pins σ H s) {A:Around} (hu:A.units < cLine) {d e:D} {u u':Value} (h1:Lk X O H s d u) (h2:Lk X O' H s e u')
  (ih:∀c∈(match d with | .tup ds=>ds | .lst ds=>ds |_=>[]),∀(e:D) (v w:V) (u u':Value),Rep X.K O H c v->Rep X.K O' H e w->RelV v u->RelV w u'->EqAt A.in1 s u u' (fK c e)):RcNeAt A s u u' (!fK d e):=by
 cases d with
 | non=>
  cases h1;cases e with
  | non=>
   cases h2;exact RcNeAt.none_none
  | bl b=>
   cases h2;exact RcNeAt.none_bool _
  | int b=>
   obtain⟨t2,rfl⟩:=h2;exact RcNeAt.none_int _ _
  | str b=>
   obtain⟨t2,rfl⟩:=h2;exact RcNeAt.none_str _ _
  | tup es=>
   obtain⟨p2,ys,jts,rfl,hq2,v2,hp2,r2⟩:=h2;exact RcNeAt.none_tuple hp2 hu
  | lst es=>
   obtain⟨p2,ys,jts,rfl,hq2,v2,hp2,r2⟩:=h2;exact RcNeAt.none_list hp2 hu
 | bl a=>
  cases h1;cases e with
  | non=>
   cases h2;exact RcNeAt.bool_none _
  | bl b=>
   cases h2;exact RcNeAt.bool_bool _ _
  | int b=>
   obtain⟨t2,rfl⟩:=h2;exact RcNeAt.bool_int _ _ _
  | str b=>
   obtain⟨t2,rfl⟩:=h2;exact RcNeAt.bool_str _ _ _
  | tup es=>
   obtain⟨p2,ys,jts,rfl,hq2,v2,hp2,r2⟩:=h2;exact RcNeAt.bool_tuple _ hp2 hu
  | lst es=>
   obtain⟨p2,ys,jts,rfl,hq2,v2,hp2,r2⟩:=h2;exact RcNeAt.bool_list _ hp2 hu
 | int a=>
  obtain⟨t1,rfl⟩:=h1;cases e with
  | non=>
   cases h2;exact RcNeAt.int_none _ _
  | bl b=>
   cases h2;exact RcNeAt.int_bool _ _ _
  | int b=>
   obtain⟨t2,rfl⟩:=h2;exact RcNeAt.int_int _ _ _ _
  | str b=>
   obtain⟨t2,rfl⟩:=h2;exact RcNeAt.int_str _ _ _ _
  | tup es=>
   obtain⟨p2,ys,jts,rfl,hq2,v2,hp2,r2⟩:=h2;exact RcNeAt.int_tuple _ _ hp2 hu
  | lst es=>
   obtain⟨p2,ys,jts,rfl,hq2,v2,hp2,r2⟩:=h2;exact RcNeAt.int_list _ _ hp2 hu
 | str a=>
  obtain⟨t1,rfl⟩:=h1;cases e with
  | non=>
   cases h2;exact RcNeAt.str_none _ _
  | bl b=>
   cases h2;exact RcNeAt.str_bool _ _ _
  | int b=>
   obtain⟨t2,rfl⟩:=h2;exact RcNeAt.str_int _ _ _ _
  | str b=>
   obtain⟨t2,rfl⟩:=h2;exact RcNeAt.str_str _ _ _ _
  | tup es=>
   obtain⟨p2,ys,jts,rfl,hq2,v2,hp2,r2⟩:=h2;exact RcNeAt.str_tuple _ _ hp2 hu
  | lst es=>
   obtain⟨p2,ys,jts,rfl,hq2,v2,hp2,r2⟩:=h2;exact RcNeAt.str_list _ _ hp2 hu
 | tup ds=>
  obtain⟨p1,xs,its,rfl,hq1,v1,hp1,r1⟩:=h1;cases e with
  | non=>
   cases h2;exact RcNeAt.tuple_none hp1 hu
  | bl b=>
   cases h2;exact RcNeAt.tuple_bool _ hp1 hu
  | int b=>
   obtain⟨t2,rfl⟩:=h2;exact RcNeAt.tuple_int _ _ hp1 hu
  | str b=>
   obtain⟨t2,rfl⟩:=h2;exact RcNeAt.tuple_str _ _ hp1 hu
  | tup es=>
   obtain⟨p2,ys,jts,rfl,hq2,v2,hp2,r2⟩:=h2;have q:=RcNeAt.tuples hp1 hp2 hu (pO r1 r2 v1 v2 ih);simp only[List.size_toArray] at q;rw[Er (r1.length.trans v1.length) (r2.length.trans v2.length)] at q;rw[gk];exact q
  | lst es=>
   obtain⟨p2,ys,jts,rfl,hq2,v2,hp2,r2⟩:=h2;exact RcNeAt.tuple_list hp1 hp2 hu
 | lst ds=>
  obtain⟨p1,xs,its,rfl,hq1,v1,hp1,r1⟩:=h1;cases e with
  | non=>
   cases h2;exact RcNeAt.list_none hp1 hu
  | bl b=>
   cases h2;exact RcNeAt.list_bool _ hp1 hu
  | int b=>
   obtain⟨t2,rfl⟩:=h2;exact RcNeAt.list_int _ _ hp1 hu
  | str b=>
   obtain⟨t2,rfl⟩:=h2;exact RcNeAt.list_str _ _ hp1 hu
  | tup es=>
   obtain⟨p2,ys,jts,rfl,hq2,v2,hp2,r2⟩:=h2;exact RcNeAt.list_tuple hp1 hp2 hu
  | lst es=>
   obtain⟨p2,ys,jts,rfl,hq2,v2,hp2,r2⟩:=h2;by_cases hz:ds.length=es.length
   ·have q:=RcNeAt.lists hp1 hp2 (by simp only[List.size_toArray];rw[<-v1.length,<-v2.length,<-r1.length,<-r2.length];exact hz) hu (pO r1 r2 v1 v2 ih);rw[List.size_toArray,<-v1.length,<-r1.length,<-ug hz] at q;rw[eF];exact q
   ·rw[eF,uf hz];exact RcNeAt.lists_lengths hp1 hp2 (by simp only[List.size_toArray];rw[<-v1.length,<-v2.length,<-r1.length,<-r2.length];simpa using hz) hu
theorem Ng (I:Inv X pins σ H s):∀(n:Nat) (A:Around) (d:D),dep d<=n->A.units+n < cLine->∀(e:D) (v w:V) (u u':Value),Rep X.K O H d v->Rep X.K O' H e w->RelV v u->RelV w u'->EqAt A s u u' (fK d e):=by
 intro n
 induction n with
 | zero=>
  intro A d hd hu e v w u u' r1 r2 q1 q2;refine Nf I (by omega) (vC I r1 q1) (vC I r2 q2) λ c hc=>?_;cases d with
  |tup ds=>rw[dep] at hd;omega
  |lst ds=>rw[dep] at hd;omega
  |_=>simp at hc
 | succ n ihn=>
  intro A d hd hu e v w u u' r1 r2 q1 q2;refine Nf I (by omega) (vC I r1 q1) (vC I r2 q2) λ c hc=>?_;have hc':dep c<=n:=by
   cases d with
   |tup ds=>rw[dep] at hd;have:=pN (ds:=ds) hc;omega
   |lst ds=>rw[dep] at hd;have:=pN (ds:=ds) hc;omega
   |_=>simp at hc
  exact ihn A.in1 c hc' (by show A.units+1+n < cLine;omega)
end
noncomputable def kJ (d e:D):R D:=if dep d<=40 then .ok (.bl (fK d e)) else .bad
noncomputable def jJ (d e:D):R D:=if dep d<=40 then .ok (.bl (!fK d e)) else .bad
section
variable {X:Cx}
theorem adN (hu:X.A.units+60 < cLine):OpR X (compareOp .Eq) (λ x y H Q=>∃O O' d e,Rep X.K O H d x/\Rep X.K O' H e y/\dep d<=40/\Q (.bl (fK d e)) H):=by
 intro pins s σ H x y v u Q I rx ry h;obtain⟨O,O',d,e,r1,r2,hd,q⟩:=h;refine aar I (show X.A.units < cLine by omega) (vC I r1 rx) (vC I r2 ry) (λ c hc=>?_) X.prog X.w X.xe _ ⟨.bl _,H,I,rfl,q⟩;have hc':dep c<=40:=by
  cases d with
  |tup ds=>rw[dep] at hd;have:=pN (ds:=ds) hc;omega
  |lst ds=>rw[dep] at hd;have:=pN (ds:=ds) hc;omega
  |_=>simp at hc
 exact Ng I 40 X.A.in1 c hc' (by show X.A.units+1+40 < cLine;omega)
theorem adO (hu:X.A.units+60 < cLine):OpR X (compareOp .NotEq) (λ x y H Q=>∃O O' d e,Rep X.K O H d x/\Rep X.K O' H e y/\dep d<=40/\Q (.bl (!fK d e)) H):=by
 intro pins s σ H x y v u Q I rx ry h;obtain⟨O,O',d,e,r1,r2,hd,q⟩:=h;refine aas I (show X.A.units < cLine by omega) (vC I r1 rx) (vC I r2 ry) (λ c hc=>?_) X.prog X.w X.xe _ ⟨.bl _,H,I,rfl,q⟩;have hc':dep c<=40:=by
  cases d with
  |tup ds=>rw[dep] at hd;have:=pN (ds:=ds) hc;omega
  |lst ds=>rw[dep] at hd;have:=pN (ds:=ds) hc;omega
  |_=>simp at hc
 exact Ng I 40 X.A.in1 c hc' (by show X.A.units+1+40 < cLine;omega)
theorem mF (hu:X.A.units+60 < cLine):jf X (compareOp .Eq) kJ:=by
 refine⟨_,adN hu,λ ρ O σ H Q x y dx dy j rx ry h=>?_⟩;unfold kJ at h;by_cases hd:dep dx<=40
 ·rw[if_pos hd] at h;exact⟨O,O,dx,dy,rx,ry,hd,fin h (fG _)⟩
 ·rw[if_neg hd] at h;exact h.elim
theorem oN (hu:X.A.units+60 < cLine):jf X (compareOp .NotEq) jJ:=by
 refine⟨_,adO hu,λ ρ O σ H Q x y dx dy j rx ry h=>?_⟩;unfold jJ at h;by_cases hd:dep dx<=40
 ·rw[if_pos hd] at h;exact⟨O,O,dx,dy,rx,ry,hd,fin h (fG _)⟩
 ·rw[if_neg hd] at h;exact h.elim
end
end Pu
namespace Pu
open PySem PySem.Spec L2
open PyProof.Rows hiding St
section
variable {prog:Program} {w:World} {A:Around} {E:Value->Shared->Prop} {s:Shared}
end
section
variable {X:Cx} {e:Expr} {te:TE} {pos p2 p3 p4:Pos} {j:Nat} {f:aA->R D}
theorem Vals.rev {xs:List V} {us:List Value} (h:Vals xs us):Vals xs.reverse us.reverse:=by
 induction h with
 |nil=>exact .nil
 | cons r _ ih=>
  simp only[List.reverse_cons];exact ih.append (.cons r .nil)
noncomputable def ag3:D->R D
 | .tup ds=> .ok (.tup ds.reverse)
 |_=> .bad
noncomputable def fj:D->D->R D
 | .int i,.int j=> .ok (.int (i+j))
 | .tup xs,.tup ys=>if 0 < xs.length/\xs.length+ys.length<=1000000 then .ok (.tup (xs++ys)) else .bad
 |_,_=> .bad
theorem jK:jf X (binaryOp .Add) fj:=by
 refine⟨_,OpR.or op_add op_catT,λ ρ O σ H Q x y dx dy j0 rx ry h=>?_⟩;cases dx <;> cases dy <;> first
  |exact h.elim
  |skip
 ·rename_i i j;exact .inl ⟨i,j,rx.int,ry.int,fin h (cJ _)⟩
 ·rename_i xs ys;have h:good X (rD X) O (if 0 < xs.length/\xs.length+ys.length<=1000000 then .ok (.tup (xs++ys)) else .bad) σ H Q:=h;by_cases hc:0 < xs.length/\xs.length+ys.length<=1000000
  ·rw[if_pos hc] at h;obtain⟨a,us,rfl,ha,r1⟩:=rx.tup;obtain⟨b,ws,rfl,hb,r2⟩:=ry.tup;refine .inr ⟨a,b,us,ws,rfl,rfl,ha,hb,λ z=>?_,?_,λ z=>?_,λ z l hl=>?_⟩
   ·have h1:=r1.length;have h2:=hc.1;rw[z] at h1;rw[h1] at h2;exact Nat.lt_irrefl _ h2
   ·rw[<-r1.length,<-r2.length];exact Nat.le_trans hc.2 fL
   ·subst z;have:ys=[]:=List.eq_nil_of_length_eq_zero r2.length;subst this;rw[List.append_nil] at h;exact fin h (gU ha r1)
   ·exact h _ _ (Same.upd hl) (Rep.sZ hl (r1.append r2))
  ·rw[if_neg hc] at h;exact h.elim
end
section
variable {K:PySem.W.Frag} {O:Addr->Prop} {H:Hp}
end
section
variable {X:Cx} {e e1 e2:Expr} {f g:aA->R D} {pos:Pos}
end
end Pu
namespace Pu
open PySem PySem.W PyProof.Rows
noncomputable def Sat {α:Type} (n:Nat) (lt:Nat->Nat->Bool):KasT α->(α->Prop)->Prop
 | .ret a,Q=>Q a
 | .ask i j k,Q=>i < n/\j < n/\Sat n lt (k (lt i j)) Q
section
variable {n:Nat} {lt:Nat->Nat->Bool}
theorem Sat.bind {α β:Type} {f:α->KasT β} {Q:β->Prop}:∀{t:KasT α},Sat n lt t (λ a=>Sat n lt (f a) Q)->Sat n lt (t.bind f) Q
 | .ret _,h=>h
 | .ask i j k,h=>⟨h.1,h.2.1,Sat.bind h.2.2⟩
theorem Sat.mono {α:Type} {Q Q':α->Prop} (w:∀a,Q a->Q' a):∀{t:KasT α},Sat n lt t Q->Sat n lt t Q'
 | .ret _,h=>w _ h
 | .ask _ _ _,h=>⟨h.1,h.2.1,Sat.mono w h.2.2⟩
theorem Sat.wp {α:Type} {cmp:Nat->Nat->(Bool->Shared->Prop)->Shared->Prop} {s:Shared} {P:α->Prop} {Q:α->Shared->Prop} (hc:∀i j C,i < n->j < n->C (lt i j) s->cmp i j C s) (hQ:∀a,P a->Q a s):
  ∀{t:KasT α},Sat n lt t P->t.kasWp cmp Q s
 | .ret _,h=>hQ _ h
 | .ask i j k,h=>hc i j _ h.1 h.2.1 (Sat.wp hc hQ h.2.2)
structure Ord (n:Nat) (lt:Nat->Nat->Bool):Prop where
 tr:∀a b c,a < n->b < n->c < n->lt a b=true->lt b c=true->lt a c=true
 tot:∀a b,a < n->b < n->a≠b->lt a b=false->lt b a=true
structure Pm (n:Nat) (p:Array Nat):Prop where
 size:p.size=n
 perm:p.toList.Perm (List.range n)
theorem Pm.bd {p:Array Nat} (h:Pm n p) {i:Nat} (hi:i < n):p.getD i 0 < n:=by
 have hs:i < p.size:=by rw[h.size];exact hi
 have:p.getD i 0=p[i]:=by simp[Array.getD,hs]
 rw[this];have hm:p[i]∈p.toList:=by simp
 exact List.mem_range.mp (h.perm.mem_iff.mp hm)
theorem Pm.ne {p:Array Nat} (h:Pm n p) {i j:Nat} (hi:i < n) (hj:j < n) (hij:i≠j):p.getD i 0≠p.getD j 0:=by
 have hs:i < p.size:=by rw[h.size];exact hi
 have hs2:j < p.size:=by rw[h.size];exact hj
 have e1:p.getD i 0=p.toList[i]'(by simpa using hs):=by simp[Array.getD,hs]
 have e2:p.getD j 0=p.toList[j]'(by simpa using hs2):=by simp[Array.getD,hs2]
 rw[e1,e2];have nd:p.toList.Nodup:=h.perm.nodup_iff.mpr List.nodup_range;intro z;exact hij ((List.getElem_inj nd).mp z)
theorem Pm.of {p q:Array Nat} (h:Pm n p) (w:q.Perm p):Pm n q:=
 ⟨by rw[<-h.size];exact w.size_eq,(Array.perm_iff_toList_perm.mp w).trans h.perm⟩
noncomputable def S (lt:Nat->Nat->Bool) (p:Array Nat) (k:Nat):Prop:=∀i j,i < j->j < k->lt (p.getD i 0) (p.getD j 0)=true
noncomputable def De (lt:Nat->Nat->Bool) (p:Array Nat) (k:Nat):Prop:=∀i j,i < j->j < k->lt (p.getD j 0) (p.getD i 0)=true
theorem S.one {p:Array Nat}:S lt p 1:=λ i j h1 h2=>by omega
theorem S.ext (o:Ord n lt) {p:Array Nat} (h:Pm n p) {a:Nat} (ha:1<=a) (hn:a < n) (s:S lt p a) (e:lt (p.getD (a - 1) 0) (p.getD a 0)=true):S lt p (a+1):=λ i j h1 h2=>by
 by_cases hj:j < a
 ·exact s i j h1 hj
 ·have ej:j=a:=by omega
  subst ej;by_cases hi:i=j - 1
  ·rw[hi];exact e
  ·exact o.tr _ _ _ (h.bd (by omega)) (h.bd (by omega)) (h.bd hn) (s i (j - 1) (by omega) (by omega)) e
theorem De.ext (o:Ord n lt) {p:Array Nat} (h:Pm n p) {a:Nat} (ha:1<=a) (hn:a < n) (s:De lt p a) (e:lt (p.getD a 0) (p.getD (a - 1) 0)=true):De lt p (a+1):=λ i j h1 h2=>by
 by_cases hj:j < a
 ·exact s i j h1 hj
 ·have ej:j=a:=by omega
  subst ej;by_cases hi:i=j - 1
  ·rw[hi];exact e
  ·exact o.tr _ _ _ (h.bd hn) (h.bd (by omega)) (h.bd (by omega)) e (s i (j - 1) (by omega) (by omega))
theorem HY (o:Ord n lt) {p:Array Nat} (h:Pm n p):∀(f a:Nat),1<=a->a+f<=n->S lt p a->Sat n lt (kas_asc p f a) (λ m=>a<=m/\m<=a+f/\S lt p m/\(m < a+f->lt (p.getD m 0) (p.getD (m - 1) 0)=true))
 |0,a,h1,h2,s=>⟨Nat.le_refl _,Nat.le_refl _,s,λ z=>absurd z (by omega)⟩
 | f +1,a,h1,h2,s=>by
  refine⟨h.bd (by omega),h.bd (by omega),?_⟩;cases e:lt (p.getD a 0) (p.getD (a - 1) 0) with
  |true=>exact⟨Nat.le_refl _,by omega,s,λ _=>e⟩
  | false=>
   have e':=o.tot _ _ (h.bd (by omega)) (h.bd (by omega)) (h.ne (i:=a) (j:=a - 1) (by omega) (by omega) (by omega)) e;show Sat n lt (kas_asc p f (a+1)) _;refine Sat.mono (λ m ⟨m1,m2,m3,m4⟩=>⟨by omega,by omega,m3,λ z=>m4 (by omega)⟩) (HY o h f (a+1) (by omega) (by omega) (S.ext o h h1 (by omega) s e'))
theorem Nh (o:Ord n lt) {p:Array Nat} (h:Pm n p):∀(f a:Nat),1<=a->a+f<=n->De lt p a->Sat n lt (kas_desc f p a 0) (λ r=>r.1=p/\r.2.2=0/\a<=r.2.1/\r.2.1<=a+f/\De lt p r.2.1)
 |0,a,h1,h2,s=>⟨rfl,rfl,Nat.le_refl _,Nat.le_refl _,s⟩
 | f +1,a,h1,h2,s=>by
  refine⟨h.bd (by omega),h.bd (by omega),?_⟩;cases e:lt (p.getD a 0) (p.getD (a - 1) 0) with
  | true=>
   show Sat n lt (kas_desc f p (a+1) 0) _;exact Sat.mono (λ r ⟨m1,m2,m3,m4,m5⟩=>⟨m1,m2,by omega,by omega,m5⟩) (Nh o h f (a+1) (by omega) (by omega) (De.ext o h h1 (by omega) s e))
  | false=>
   have e':=o.tot _ _ (h.bd (by omega)) (h.bd (by omega)) (h.ne (i:=a) (j:=a - 1) (by omega) (by omega) (by omega)) e;refine⟨h.bd (by omega),h.bd (by omega),?_⟩;rw[e'];exact⟨rfl,rfl,Nat.le_refl _,Nat.le_add_right _ _,s⟩
theorem Cz {p q:Array Nat} {i j:Nat} (h:p[i]?=q[j]?):p.getD i 0=q.getD j 0:=by
 rw[Array.getD_eq_getD_getElem?,Array.getD_eq_getD_getElem?,h]
theorem Xn (o:Ord n lt) {p:Array Nat} (h:Pm n p) {m:Nat} (h1:1<=m) (h2:m<=n) (s:De lt p m):Sat n lt (kas_tail3 m n p) (λ r=>Pm n r.2/\1<=r.1/\r.1<=n/\S lt r.2 r.1):=by
 have hq:Pm n (kas_rev p 0 m):=h.of (mirror_perm _ _ _ _);have hs:S lt (kas_rev p 0 m) m:=λ i j hij hj=>by
  have g:∀k,k < m->(kas_rev p 0 m).getD k 0=p.getD (m - 1 - k) 0:=λ k hk=>by
   apply Cz;show (mirror p 0 m ((m - 0) / 2))[k]?=_;rw[getElem?_mirror_all (by rw[h.size];exact h2),if_pos ⟨by omega,hk⟩];congr 1;omega
  rw[g i (by omega),g j hj];exact s (m - 1 - j) (m - 1 - i) (by omega) (by omega)
 exact Sat.bind (Sat.mono (λ k ⟨k1,k2,k3,_⟩=>⟨hq,by omega,by omega,k3⟩) (HY o hq (n - m) m h1 (by omega) hs))
theorem Xo (o:Ord n lt) {p:Array Nat} (h:Pm n p) (hn:1<=n):Sat n lt (kas_count n p) (λ r=>Pm n r.2/\1<=r.1/\r.1<=n/\S lt r.2 r.1):=by
 refine Sat.bind (Sat.mono (λ m ⟨m1,m2,m3,m4⟩=>?_) (HY o h (n - 1) 1 (Nat.le_refl _) (by omega) S.one));by_cases e:m=n
 ·rw[if_pos (by simp[e])];exact⟨h,m1,by omega,m3⟩
 ·rw[if_neg (by simp[e])];by_cases hm:m > 1
  ·rw[if_pos hm];refine⟨h.bd (by omega),h.bd (by omega),?_⟩;rw[m3 0 (m - 1) (by omega) (by omega)];exact⟨h,m1,by omega,m3⟩
  ·rw[if_neg hm];have em:m=1:=by omega
   subst em;have e0:=m4 (by omega);have d2:De lt p 2:=De.ext o h (a:=1) (Nat.le_refl _) (by omega) (λ i j a1 a2=>by omega) e0;refine Sat.bind (Sat.mono (λ r ⟨r1,r2,r3,r4,r5⟩=>?_) (Nh o h (n - (1+1)) (1+1) (by omega) (by omega) d2));rw[if_neg (by omega),r1];exact Xn o h (by omega) (by omega) r5
theorem zQ (o:Ord n lt) {p:Array Nat} (h:Pm n p) {k:Nat} (hk:k < n) (s:S lt p k):∀(f l r:Nat),l<=r->r<=k->r - l<=f->(∀i,i < l->lt (p.getD i 0) (p.getD k 0)=true)->(∀i,r<=i->i < k->lt (p.getD k 0) (p.getD i 0)=true)->
  Sat n lt (kas_place p k f l r) (λ m=>m<=k/\(∀i,i < m->lt (p.getD i 0) (p.getD k 0)=true)/\∀i,m<=i->i < k->lt (p.getD k 0) (p.getD i 0)=true)
 |0,l,r,h1,h2,h3,hl,hr=>⟨by omega,hl,λ i a b=>hr i (by omega) b⟩
 | f + 1,l,r,h1,h2,h3,hl,hr=>by
  unfold kas_place;by_cases hlr:l>=r
  ·rw[if_pos hlr];exact⟨by omega,hl,λ i a b=>hr i (by omega) b⟩
  ·rw[if_neg hlr];have hm:(l+r) / 2 < k:=by omega
   refine⟨h.bd hk,h.bd (by omega),?_⟩;cases e:lt (p.getD k 0) (p.getD ((l+r) / 2) 0) with
   | true=>
    refine zQ o h hk s f l ((l+r) / 2) (by omega) (by omega) (by omega) hl λ i a b=>?_;by_cases hi:i=(l+r) / 2
    ·rw[hi];exact e
    ·exact o.tr _ _ _ (h.bd hk) (h.bd (by omega)) (h.bd (by omega)) e (s _ _ (by omega) b)
   | false=>
    have e':=o.tot _ _ (h.bd hk) (h.bd (by omega)) (h.ne (i:=k) (j:=(l+r) / 2) hk (by omega) (by omega)) e;refine zQ o h hk s f ((l+r) / 2+1) r (by omega) h2 (by omega) (λ i a=>?_) hr;by_cases hi:i=(l+r) / 2
    ·rw[hi];exact e'
    ·exact o.tr _ _ _ (h.bd (by omega)) (h.bd (by omega)) (h.bd hk) (s i ((l+r) / 2) (by omega) hm) e'
theorem TF (o:Ord n lt):∀(f:Nat) (p:Array Nat) (k:Nat),Pm n p->S lt p k->k+f<=n->Sat n lt (kas_bin f p k) (λ q=>Pm n q/\S lt q (k+f))
 |0,p,k,h,s,_=>⟨h,s⟩
 | f + 1, p, k,h,s,hk=>by
  refine Sat.bind (Sat.mono (λ l ⟨l1,l2,l3⟩=>?_) (zQ o h (by omega) s k 0 k (Nat.zero_le _) (Nat.le_refl _) (by omega) (λ i a=>by omega) λ i a b=>by omega));have hq:Pm n (bubble p k (k - l)):=h.of (bubble_perm _ _ _);have g:∀i,(bubble p k (k - l)).getD i 0=if i=l then p.getD k 0 else if l < i/\i<=k then p.getD (i - 1) 0 else p.getD i 0:=λ i=>by
   have e:=getElem?_bubble (xs:=p) (src:=k) (by rw[h.size];omega) (k - l) (by omega) i;rw[show k - (k - l)=l by omega] at e;by_cases c1:i=l
   ·rw[if_pos c1] at e |-;exact Cz e
   ·rw[if_neg c1] at e |-;by_cases c2:l < i/\i<=k
    ·rw[if_pos c2] at e |-;exact Cz e
    ·rw[if_neg c2] at e |-;exact Cz e
  have hs : S lt (bubble p k (k - l)) (k+1):=λ i j hij hj=>by
   rw[g i,g j];by_cases c1:i=l
   ·rw[if_pos c1,if_neg (by omega),if_pos ⟨by omega,by omega⟩];exact l3 (j - 1) (by omega) (by omega)
   ·rw [if_neg c1];by_cases c2:l < i/\i<=k
    ·rw[if_pos c2,if_neg (by omega),if_pos ⟨by omega,by omega⟩];exact s (i - 1) (j - 1) (by omega) (by omega)
    ·rw [if_neg c2];have hil:i < l:=by omega
     by_cases c3:j=l
     ·rw[if_pos c3];exact l2 i hil
     ·rw[if_neg c3];by_cases c4:l < j/\j<=k
      ·rw[if_pos c4];by_cases c5:i=j - 1
       ·omega
       ·exact s i (j - 1) (by omega) (by omega)
      ·rw[if_neg c4];exact s i j hij (by omega)
  have:=TF o f (bubble p k (k - l)) (k+1) hq hs (by omega);exact Sat.mono (λ q ⟨q1,q2⟩=>⟨q1,by rw[show k+(f+1)=k+1+f by omega];exact q2⟩) this
theorem aat (o:Ord n lt) (hn:1<=n):Sat n lt (kas_sort n) (λ q=>Pm n q/\S lt q n):=by
 have h0:Pm n (List.toArray (List.range n)):=⟨by simp,by simp⟩;refine Sat.bind (Sat.mono (λ r ⟨r1,r2,r3,r4⟩=>?_) (Xo o h0 hn));by_cases hr:r.1 < n
 ·rw[if_pos hr];have e:max r.1 1=r.1:=by omega
  rw[e];refine Sat.mono (λ q ⟨q1,q2⟩=>⟨q1,?_⟩) (TF o (n - r.1) r.2 r.1 r1 r4 (by omega));rw[show r.1+(n - r.1)=n by omega] at q2;exact q2
 ·rw[if_neg hr];have e:r.1=n:=by omega
  rw[e] at r4;exact⟨r1,r4⟩
end
end Pu
namespace Pu
open PySem PySem.Spec PySem.W L2
open PyProof.Rows hiding St
theorem FZ {h:Heap} {a b:Addr} {vs:List Value} {out:Array Value} {o:Obj} (hb:b≠a) (e:h.get? b=some o):(sortedHeap h a vs out).get? b=some o:=by
 unfold sortedHeap;rw[Heap.get?_update_ne _ _ _ _ hb];exact Heap.get?_push_of_some _ (Heap.get?_push_of_some _ (by rw[Heap.get?_update_ne _ _ _ _ hb];exact e))
theorem sortedHeap_at {h:Heap} {a:Addr} {vs:List Value} {out:Array Value} {n:Nat} (e:h.get? a=some (seqObj "list" vs.toArray n)):∃c,(sortedHeap h a vs out).get? a=some (seqObj "list" out c):=by
 unfold sortedHeap;have h1:=get?_update_seq e (λ _=>(#[]:Array Value));exact⟨_,get?_update_seq (Heap.get?_push_of_some _ (Heap.get?_push_of_some _ h1)) λ _=>out⟩
theorem Xp (vs:List Value) (h:vs.length < 2):(vs.toArray.zip vs.toArray).map (·.2)=List.toArray ((List.toArray (List.range vs.length)).toList.map λ i=>vs.getD i Value.none):=by
 match vs,h with
 |[],_=>simp
 |[v],_=>simp[List.range_succ]
 |_::_::_,h=>exact absurd h (by simp)
section
variable {prog:Program} {w:World} {A:Around} {E:Value->Shared->Prop} {s:Shared}
theorem abZ {a:Addr} {vs:List Value} {n:Nat} {P:PySem.Fin->Shared->Prop} {lt:Nat->Nat->Bool} {kk:SortKind} (ho:s.heap.get? a=some (seqObj "list" vs.toArray n)) (h64:vs.length < 64) (od:Ord vs.length lt)
  (kind:2<=vs.length->∀h':Heap,(∀b ob,b≠a->s.heap.get? b=some ob->h'.get? b=some ob)->∀Q:SortKind->Shared->Prop,Q kk {s with heap:=h'}->wpAny (model prog w) A (keyKind' vs.toArray) Q (λ _ _=>False) {s with heap:=h'})
  (ask:∀h':Heap,(∀b ob,b≠a->s.heap.get? b=some ob->h'.get? b=some ob)->∀i j C,i < vs.length->j < vs.length->C (lt i j) {s with heap:=h'}->kas_ask prog w A kk vs i j C {s with heap:=h'})
  (h:∀q:Array Nat,Pm vs.length q->S lt q vs.length->P (.done (.ret .none)) {s with heap:=sortedHeap s.heap a vs (List.toArray (q.toList.map λ i=>vs.getD i Value.none))}):
  wpAny (model prog w) A (Builtin.«list.sort» ⟨[.ref a],[]⟩) P E s:=by
 rw[list_sort_plain];have ha:a < s.heap.objs.size:=Heap.lt_size ho;refine wpAny_bind (listItems_at ho rfl ?_);refine wpAny_bind (listUpdate_at ho rfl ?_ (by rw[List.size_toArray,sizeLine_eq];omega) (Nat.zero_le _));obtain⟨e1,ho1⟩:∃e1,(s.heap.update a (Obj.mapSeq λ _=>(#[]:Array Value))).get? a=some (seqObj "list" #[] e1):=⟨_,get?_update_seq ho (λ _=> #[])⟩;refine wpAny_bind (seqEpoch_at ho1 rfl ?_);refine wpAny_bind (wpAny_newTuple ?_ (by show vs.length<=_;rw[sizeLine_eq];omega));refine wpAny_bind (wpAny_newList ?_ (Nat.zero_le _));refine wpAny_holding ?_
 generalize hh6:((s.heap.update a (Obj.mapSeq λ _=>(#[]:Array Value))).push (seqObj "tuple" vs.toArray 0)).push (seqObj "list" #[] 0)=h6
 have ho6:h6.get? a=some (seqObj "list" #[] e1):=by
  rw[<-hh6];exact Heap.get?_push_of_some _ (Heap.get?_push_of_some _ ho1)
 have keep:∀b ob,b≠a->s.heap.get? b=some ob->h6.get? b=some ob:=λ b ob hb e=>by
  rw[<-hh6];exact Heap.get?_push_of_some _ (Heap.get?_push_of_some _ (by rw[Heap.get?_update_ne _ _ _ _ hb];exact e))
 have hsh:∀out:Array Value,sortedHeap s.heap a vs out=h6.update a (Obj.mapSeq λ _=>out):=λ out=>by rw[<-hh6];rfl
 show wpAny (model prog w) A _ P E {s with heap:=h6}
 dsimp only
 have hsz:vs.toArray.size=vs.length:=by simp
 by_cases h2:vs.toArray.size < 2
 ·rw[if_pos h2,if_pos h2];refine wpAny_bind (wpAny_pure ?_);rw[StateT.run_pure];refine wpAny_bind (wpAny_pure ?_)
  dsimp only
  refine wpAny_bind (seqEpoch_at ho6 rfl ?_);refine wpAny_bind (listUpdate_at ho6 rfl ?_ (Nat.zero_le _) (by show (((pairsOf vs)).map (·.2)).size<=_;rw[Array.size_map,pairsOf_size,sizeLine_eq];omega));simp only[bne_self_eq_false,Bool.false_eq_true,if_false];have q:=h (List.toArray (List.range vs.length)) ⟨by simp,by simp⟩ (λ i j h1 h3=>by omega);rw[hsh] at q;have eo:(arrOf (SortSt.mk' general' (vs.toArray.zip vs.toArray) #[] 7 none)).map (·.2)=List.toArray ((List.toArray (List.range vs.length)).toList.map λ i=>vs.getD i Value.none):=by
   show (vs.toArray.zip vs.toArray).map (·.2)=_;exact Xp vs (by rw[<-hsz];exact h2)
  refine wpAny_pure ?_;show P _ {s with heap:=h6.update a (Obj.mapSeq λ _=>(arrOf (SortSt.mk' general' (vs.toArray.zip vs.toArray) #[] 7 none)).map (·.2))};rw[eo];exact q
 ·rw[if_neg h2,if_neg h2];have h2':2<=vs.length:=by rw[hsz] at h2;omega
  refine wpAny_bind (wpAny_mono (kind h2' h6 keep (λ κ s'=>κ=kk/\s'={s with heap:=h6}) ⟨rfl,rfl⟩) (λ κ s0 hk=>?_) λ _ _ x=>x.elim);obtain⟨rfl,rfl⟩:=hk;have wp:(kas_sort vs.length).kasWp (kas_ask prog w A κ vs) (λ p s''=>(Pm vs.length p/\S lt p vs.length)/\s''={s with heap:=h6}) {s with heap:=h6}:=
   Sat.wp (ask h6 keep) (λ p hp=>⟨hp,rfl⟩) (aat od (by omega))
  refine wpAny_bind (wpAny_mono (kat_run (Q:=λ st' s'=>∃p:Array Nat,p.size=vs.length/\arrOf st'=p.map (kas_item (vs.toArray.zip vs.toArray))/\failedOf st'=none/\(Pm vs.length p/\S lt p vs.length)/\s'={s with heap:=h6})
   rfl h2' h64 (λ p' st' s' a1 a2 a3 a4=>⟨p',a1,a2,a3,a4⟩) wp) ?_ λ _ _ e=>e)
  rintro⟨⟨⟩,st'⟩ s' ⟨p,hp,har,hf,⟨hpm,hps⟩,rfl⟩
  dsimp only
  have hout:=kat_snds rfl har;rw[hout];refine wpAny_bind (seqEpoch_at ho6 rfl ?_);refine wpAny_bind (listUpdate_at ho6 rfl ?_ (Nat.zero_le _) (by show (List.toArray (p.toList.map λ i=>vs.getD i Value.none)).size<=_;rw[List.size_toArray,List.length_map,Array.length_toList,hp,sizeLine_eq];omega));rw[hf];simp only[bne_self_eq_false,Bool.false_eq_true,if_false];have q:=h p hpm hps;rw[hsh] at q;exact wpAny_pure q
end
section
variable {prog:Program} {w:World} {A:Around} {E:Value->Shared->Prop} {s:Shared}
end
section
variable {X:Cx} {pins:List (Addr×Obj)} {σ:St} {H:Hp} {s:Shared}
end
theorem TJ:∀as:List Addr,Vals (as.map V.ref) (as.map Value.ref)
 |[]=> .nil
 |a::as=> .cons rfl (TJ as)
section
variable {X:Cx}
end
section
variable {X:Cx}
end
end Pu
namespace Pu
open PySem PySem.Spec L2
open PyProof.Rows hiding St
section
variable {X:Cx} {a b:Expr} {es:List Expr} {f g:aA->R D} {fa:aA->R (List D)} {pos:Pos}
noncomputable def vW (i k:Nat) (f g:aA->R D):aA->So:=λ ρ=>kI (f ρ) ρ λ d=>kI (g ρ) ρ λ e=> .nx ((ρ.set i (some (.val d))).set k (some (.val e)))
theorem w5 (i k:Nat) {x y:Str} {px py pt:Pos} {kt k2 pt2} (hc:X.calm=true) (hN:X.N.Nodup) (ha:DE X a f) (hb:DE X b g) (hi:X.N[i]?=some x:=by rfl) (hk:X.N[k]?=some y:=by rfl) (hik:i≠k:=by decide)
  (hx:X.env.scope.names.lookup x=some .local:=by rfl) (hy:X.env.scope.names.lookup y=some .local:=by rfl)
  (h1:starEach [a,b] X.env=(false,eval a X.env)::starEach [b] X.env:=by rfl) (h2:starEach [b] X.env=(false,eval b X.env)::starEach [] X.env:=by rfl)
  (hw:swappedStores [.Tuple [.Name x px,.Name y py] kt pt] (.Tuple [a,b] k2 pt2) X.env=pure (some [x,y]):=by rfl)
  (hs:swapsWithSole [.Tuple [.Name x px,.Name y py] kt pt] (.Tuple [a,b] k2 pt2) pos.line X.env=pure false:=by rfl):
  DS X (.Assign [.Tuple [.Name x px,.Name y py] kt pt] (.Tuple [a,b] k2 pt2) pos) (vW i k f g):=by
 refine PS.imp (ps_par hc hN hi hk hik hx hy (pa_cons ha (pa_cons hb pa_nil h2) h1) hw hs) λ σ H E h=>?_;obtain⟨H0,O0,O,ρ,j,h⟩:=h;refine⟨ρ,O,j.inn,?_⟩;unfold vW kI at h;cases e1:f ρ with
 |bad=>rw[e1] at h;exact h
 |err c=>rw[e1] at h;exact h σ H O j
 | ok d=>
  rw[e1] at h;intro v H1 s1 rv;have j1:=j.grow s1;refine⟨ρ,O,j1.inn,?_⟩;cases e2:g ρ with
  |bad=>simp only[e2] at h;exact h
  |err c=>simp only[e2] at h;exact JK.same (h σ H O j) s1
  | ok e=>
   simp only[e2] at h;intro w H2 s2 rw2;refine⟨v,w,rfl,?_⟩;exact h _ H2 O (((j1.grow s2).set (List.getElem?_eq_some_iff.mp hi).1 (rv.same s2)).set (List.getElem?_eq_some_iff.mp hk).1 rw2) ((Same.fD s1).trans (Same.fD s2))
noncomputable def Ni (i k:Nat) (f:aA->R D) (fa:aA->R (List D)):aA->So:=λ ρ=>kI (f ρ) ρ λ d=>match fa ρ with
 | .ok ds=>if ds.length<=1000000 then .nx ((ρ.set i (some (.val d))).set k (some (.lst ds))) else .bad
 |_=> .bad
theorem ab0 (i k:Nat) {x y:Str} {px py pt p3:Pos} {kt k2 pt2} (hc:X.calm=true) (hN:X.N.Nodup) (ha:DE X a f) (hb:DA X es fa) (hi:X.N[i]?=some x:=by rfl) (hk:X.N[k]?=some y:=by rfl)
  (hx:Loc X.env.scope x:=by first |exact Or.inl rfl |exact Or.inr rfl) (hy:Loc X.env.scope y:=by first |exact Or.inl rfl |exact Or.inr rfl)
  (hfx:X.fn x=true\/X.env.scope.names.lookup x=some .local:=by first |exact .inl rfl |exact .inr rfl) (M6:X.fn y=true\/X.env.scope.names.lookup y=some .local:=by first |exact .inl rfl |exact .inr rfl)
  (h1:starEach [a,.List es p3] X.env=(false,eval a X.env)::starEach [.List es p3] X.env:=by rfl) (h2:starEach [.List es p3] X.env=(false,eval (.List es p3) X.env)::starEach [] X.env:=by rfl)
  (hs:swapsWithSole [.Tuple [.Name x px,.Name y py] kt pt] (.Tuple [a,.List es p3] k2 pt2) pos.line X.env=pure false:=by rfl) (hw:swappedStores [.Tuple [.Name x px,.Name y py] kt pt] (.Tuple [a,.List es p3] k2 pt2) X.env=pure none:=by rfl):
  DS X (.Assign [.Tuple [.Name x px,.Name y py] kt pt] (.Tuple [a,.List es p3] k2 pt2) pos) (Ni i k f fa):=by
 refine PS.imp (ps_asg (pe_tup (pa_cons ha (pa_cons (Tw hb) pa_nil h2) h1)) (pg_tup hc (pgs_cons (pg_name hN hi hx hfx) (pgs_cons (pg_name hN hk hy M6) pgs_nil))) hs hw) λ σ H E h=>?_;obtain⟨H0,O0,O,ρ,j,h⟩:=h;refine⟨ρ,O,j.inn,?_⟩;unfold Ni kI at h;cases e1:f ρ with
 |bad=>rw[e1] at h;exact h
 |err c=>rw[e1] at h;exact h σ H O j
 | ok d=>
  rw[e1] at h;intro v H1 s1 rv;have j1:=j.grow s1;refine⟨ρ,O,j1.inn,?_⟩;cases e2:fa ρ with
  |bad=>simp only[e2] at h;exact h
  |err c=>simp only[e2] at h;exact h.elim
  | ok ds=>
   simp only[e2] at h;by_cases hl:ds.length<=1000000
   ·simp only[if_pos hl] at h;intro vs H2 s2 rvs;refine⟨by rw[<-rvs.length];exact Nat.le_trans hl fL,λ p hp hpk=>?_⟩;refine⟨by show 2<=sizeLine;decide,λ t ht=>?_⟩;refine⟨t,[v,.ref p],rfl,SqT.of upd_same,rfl,v,[.ref p],rfl,.ref p,[],rfl,rfl,?_⟩;have j2:=(j1.grow s2).set (List.getElem?_eq_some_iff.mp hi).1 (rv.same s2);obtain⟨j3,r3⟩:=j2.own (List.getElem?_eq_some_iff.mp hk).1 (o:= .lst vs) (en:= .lst ds) hp hpk rfl ⟨p,vs,rfl,.inr rfl,upd_same,rvs.go ⟨(Same.fD (K:=X.K) (O:=O) (Same.upd hp)).ext,λ a z=>z.elim .inl λ e=> .inr (by rw[e];exact⟨hp,hpk⟩),(Same.fD (K:=X.K) (O:=O) (Same.upd hp)).dom⟩⟩;have s4:Same (upd H2 p (.lst vs)) (upd (upd H2 p (.lst vs)) t (.tup [v,.ref p])):=Same.upd ht;exact h _ _ _ (j3.grow s4) ((((Same.fD s1).trans (Same.fD s2)).trans r3).trans (Same.fD s4))
   ·simp only[if_neg hl] at h;exact h.elim
end
noncomputable def CG (s:String):Bool:=s == "int" || s == "bool"
noncomputable def yw (s:String):Bool:=s == "bool"
noncomputable def dM (s:String):Bool:=s == "tuple"
noncomputable def yx (s:String):Bool:=s == "list"
noncomputable def bf (P:Program) (w:World) (K:PySem.W.Frag) (mg:Str->Option Value) (base:Heap) (k:Nat) (x:Str) (n:Nat) (F:List D->R D):Prop:=
 ∃f fd ps,FnOk P w K mg base CX0 k f fd ps (M7 K n F)/\mg x=some (.ref f)/\PySem.W.keepIn K (.ref f)=true/\Binds K fd ps []
theorem bB {X:Cx} {k n m:Nat} {F:List D->R D} {x:Str} {p pos:Pos} {e:Expr} {es:List Expr} {fa:aA->R (List D)} (G:bf X.prog X.w X.K X.mg X.base k x n F) (hr:Room m X.A) (hkm:k<=m) (ha:DA X (e::es) fa) (hg:Gl X x:=by rfl)
  (hdb:(x ==("__debug__" :Str))=false:=by decide) (he:starEach (e::es) X.env=(false,eval e X.env)::starEach es X.env:=by rfl) (hpl:(backTo pos (starEach es X.env)).any (·.1)=false:=by rfl):
  DE X (.Call (.Name x p) (e::es) [] pos) (aF (aW F n) fa):=by
 obtain⟨f,fd,ps,ok,hm,hk,hb⟩:=G;exact abY ok (hr.mono hkm) hg hm hk hb ha hdb he hpl
theorem c7 {A:Around} {k:Nat} (hr:Room k A):A.units+60 < cLine:=by have:=hr.un;omega
theorem bQ {P:Program} {w:World} {K:PySem.W.Frag} {mg:Str->Option Value} {base:Heap} {x qual:Str} {st:Stmt} {f:Addr} {fd:FuncData} {N ps:List Str} {k n m:Nat} {g:aA->So} (Fn:Fun K x qual st f fd) (hmg:mg x=some (.ref f)) (hb:Binds K fd ps []) (S:FnScope N ps (defScope st)) (hn:ps.length=n) (hm:N.length=n+m)
  (hbody:∀(cdv:Value) (A:Around) (outer:List PySem.Env) (s:Shared) (H:Hp) (E:XK),Room k (A.deeper (envOfC qual (defScope st) s.heap.objs.size f cdv))->nU (cxOf CX0 P w K mg base N qual (defScope st) f cdv A outer s H E).nox (defBody st) g):
  bf P w K mg base (k+1) x n (bV m g):=⟨f,fd,ps,fnD Fn S hn hm hbody λ ds d _ e=>e,hmg,Fn.kp,hb⟩
theorem sp_law {K:PySem.W.Frag} {F:List D->R D} {H:Hp} {a:Addr} {ns:List Int} {E:XK} (hS:SqL K H a (ns.map V.int)) (hF:F [.lst (ns.map D.int)]= .ok (.bl true)):M7 K 1 F [.ref a] H (λ v _=>v= .bl true) E:=by
 refine⟨λ _=>False,[.lst (ns.map D.int)],.cons (sY hS (λ z=>z) ?_) .nil,rfl,λ a z=>z.elim,?_⟩
 ·have:∀l:List Int,aU K (λ _=>False) H (l.map D.int) (l.map V.int):=by
   intro l
   induction l with
   |nil=>exact .nil
   |cons i l ih=>exact .cons (cJ i) ih
  exact this ns
 ·rw[hF];exact λ v H' _ r=>r.bl
end Pu
namespace Pu
open PySem PySem.Spec L2
theorem TQ {α:Type} {k:D->R (Option D)} {c h:α->D}:∀{l:List α},(∀a∈l,k (c a)= .ok (some (h a)))->kj k (l.map c)= .ok (l.map h)
 |[],_=>rfl
 | a::l,q=>by
  rw[List.map_cons,kj,q a (by simp),FN,R.bh,TQ λ b hb=>q b (by simp[hb])];rfl
theorem Ga {α:Type} {c:α->Bool}:∀{l:List α},boolsOf (l.map λ a=> .bl (c a))=some (l.map c)
 |[]=>rfl
 | a::l=>by
  rw[List.map_cons,boolsOf,Ga];rfl
theorem zR {α:Type} {c:α->Int}:∀{l:List α},intsOf (l.map λ a=> .int (c a))=some (l.map c)
 |[]=>rfl
 | a::l=>by
  rw[List.map_cons,intsOf,zR];rfl
theorem tH {α:Type} {c:α->D} {n:Nat}:∀{l:List α},(∀a∈l,dep (c a)<=n)->deps (l.map c)<=n
 |[],_=>by rw[List.map_nil,deps];omega
 | a::l,h=>by
  rw[List.map_cons,deps];have:=h a (by simp);have:=tH (l:=l) λ b hb=>h b (by simp[hb]);omega
theorem lC {d e:D} (h:d=e) (hd:dep d<=40):jJ d e= .ok (.bl false):=by
 subst h;rw[jJ,if_pos hd,Ep];rfl
theorem Nj {d e:D} (h:d=e) (hd:dep d<=40):kJ d e= .ok (.bl true):=by
 subst h;rw[kJ,if_pos hd,Ep]
theorem all_true {l:List α}:(l.map λ _=>true).all id=true:=by
 induction l with
 |nil=>rfl
 |cons a l ih=>rw[List.map_cons,List.all_cons,ih];rfl
theorem atI_nat {α:Type} {xs:List α} {j:Nat} (h:j < xs.length):atI xs (j:Int)=some xs[j]:=by
 unfold atI ixN;rw[if_pos (by omega),if_pos (by omega),Int.toNat_natCast,Option.bind_some,List.getElem?_eq_getElem h]
theorem CJ {α:Type} {xs:List α} {i:Int} (h0:0<=i) (h1:i < xs.length):∃x∈xs,atI xs i=some x:=by
 obtain⟨j,rfl⟩:=Int.eq_ofNat_of_zero_le h0;have hj:j < xs.length:=by omega
 exact⟨xs[j],List.getElem_mem hj,atI_nat hj⟩
theorem cB {α:Type} {n:Nat} {caps:List Nat} {fi:aA->R (List D)} {gt:D->aA->R aA} {ft:aA->R Bool} {fe:aA->R D} {ρ:aA} {c h:α->D} {l:List α} (e1:fi ρ= .ok (l.map c)) (hl:l.length<=1000000)
  (e2:∀a∈l,pI gt ft fe (Cu n caps ρ) (c a)= .ok (some (h a))):bU n caps fi gt ft fe ρ= .ok (.lst (l.map h)):=by
 rw[bU,e1,R.bh,TQ e2,R.bh,cap,if_pos (by rw[List.length_map];exact hl)]
noncomputable def look:List (Int×Int)->Int->Int
 |[],_=>0
 |(k,v)::r,c=>if k=c then v else look r c
noncomputable abbrev keys (ps:List (Int×Int)):List Int:=ps.map (·.1)
section
variable {ρ ρ':aA} {f g:aA->R D} {fa:aA->R (List D)} {p q:aA->R Bool} {x y d:D} {xs ds:List D} {r:R D} {k:D->D->R D} {c:List D->R D} {n:Nat} {F:List D->R D} {o:So} {s t:aA->So} {gt:D->aA->R aA} {b:Bool}
theorem aR (e:fa ρ= .ok ds) (h:c ds=r):aF c fa ρ=r:=by rw[aF,e];exact h
theorem aZ (e:fa ρ= .ok ds) (h:F ds= .ok d) (hl:ds.length=n:=by rfl):aF (aW F n) fa ρ= .ok d:=by rw[aF,e,R.bh,aW,if_pos hl,h];rfl
theorem aD (e1:f ρ= .ok x) (e2:fa ρ= .ok xs):ak f fa ρ= .ok (x::xs):=by rw[ak,e1,R.bh,e2];rfl
theorem aB (e:f ρ= .ok x):ak f (λ _=> .ok []) ρ= .ok [x]:=aD e rfl
theorem au (e1:f ρ= .ok x) (e2:g ρ= .ok y) (h:k x y=r):bin f g k ρ=r:=by rw[bin,e1,R.bh,e2];exact h
theorem lD (e1:f ρ= .ok (.bl true)) (e2:g ρ=r):mL f g ρ=r:=by rw[mL,e1];exact e2
theorem w6 {h:aA->R D} {l:D->D->R D} {z:D} (e1:f ρ= .ok x) (e2:g ρ= .ok y) (e3:k x y= .ok (.bl true)) (e4:h ρ= .ok z) (e5:l y z=r):zq f g h k l ρ=r:=by
 rw[zq,e1,R.bh,e2,R.bh,e3,R.bh];show (h ρ).bind _=_;rw[e4];exact e5
theorem cZ (e:fa ρ= .ok ds) (h:ds.length<=1000000:=by exact Nat.le_of_ble_eq_true rfl):dI fa ρ= .ok (.tup ds):=by rw[dI,e,R.bh,cap,if_pos h]
theorem gq (e:fa ρ= .ok ds) (h:ds.length<=1000000:=by exact Nat.le_of_ble_eq_true rfl):jt fa ρ= .ok (.lst ds):=by rw[jt,e,R.bh,cap,if_pos h]
theorem gW (e:f ρ= .ok (.tup ds)):fV f ρ= .ok ds:=by rw[fV,e];rfl
theorem pP (e:f ρ= .ok (.lst ds)):fV f ρ= .ok ds:=by rw[fV,e];rfl
theorem jL {m:Nat} (e:fa ρ= .ok [.int (m:Int)]) (h:m < 2 ^ 62):(λ ρ=>(fa ρ).bind ju) ρ= .ok ((List.range m).map λ (i:Nat)=>D.int (i:Int)):=by
 show (fa ρ).bind ju=_;rw[e,R.bh,ju,if_pos ⟨by have:(0:Int)<=m:=Int.natCast_nonneg m;omega,by omega⟩];simp[upto]
theorem cL {ρ1:aA} (e1:gt x ρ= .ok ρ1) (e2:f ρ1= .ok d):pI gt (λ _=> .ok true) f ρ x= .ok (some d):=by
 rw[pI,e1,R.bh,R.bh,if_pos rfl,e2];rfl
theorem aO (e:f ρ= .ok (.bl b)):bZ f ρ= .ok b:=by rw[bZ,e];rfl
theorem dO (e:p ρ= .ok b):jr p ρ= .ok (!b):=by rw[jr,e];rfl
theorem mV (e1:p ρ= .ok false) (e2:q ρ= .ok b):tX p q ρ= .ok b:=by rw[tX,e1,R.bh,if_neg (by decide)];exact e2
theorem nY (e1:p ρ= .ok true) (e2:q ρ= .ok b):nG p q ρ= .ok b:=by rw[nG,e1,R.bh,if_pos rfl];exact e2
theorem CK (e1:p ρ= .ok false):nG p q ρ= .ok false:=by rw[nG,e1,R.bh,if_neg (by decide)]
theorem gB {i:Nat} (h:xs[i]?=some d):bN (.tup xs) (.int (i:Int))= .ok d:=by
 obtain⟨hi,e⟩:=List.getElem?_eq_some_iff.mp h;rw[bN,atI_nat hi,e]
theorem Nk {i:Nat} (h:xs[i]?=some d):bN (.lst xs) (.int (i:Int))= .ok d:=by
 obtain⟨hi,e⟩:=List.getElem?_eq_some_iff.mp h;rw[bN,atI_nat hi,e]
theorem aJ (e1:s ρ= .nx ρ') (e2:t ρ'=o):aQ s t ρ=o:=by rw[aQ,e1];exact e2
theorem bx (e:f (cR ρ)= .ok d):retS f ρ= .rt d:=by rw[retS,e];rfl
theorem aX (e:f ρ= .ok d) (e2:gt d ρ= .ok ρ'):bF f gt ρ= .nx ρ':=by rw[bF,e];show (match gt d ρ with | .ok ρ'=>So.nx ρ' |_=> .bad)=_;rw[e2]
theorem tK (e:f (cR ρ)= .ok d):mC f ρ= .nx ρ:=by rw[mC,e];rfl
theorem dg (e:p (cR ρ)= .ok true) (e2:s ρ=o):dJ p s t ρ=o:=by rw[dJ,e];exact e2
theorem cj (e:p (cR ρ)= .ok false) (e2:t ρ=o):dJ p s t ρ=o:=by rw[dJ,e];exact e2
theorem bL {m:Nat} (e:s (ds.map (λ d=>some (.val d))++List.replicate m none)= .rt d):bV m s ds= .ok d:=by rw[bV,e]
theorem Mw {m:Nat} (e:s (ds.map (λ d=>some (.val d))++List.replicate m none)= .nx ρ):bV m s ds= .ok .non:=by rw[bV,e]
theorem mW {i j:Int} (h:(-(2 ^ 64) < i/\i < 2 ^ 64)\/(-(2 ^ 64) < j/\j < 2 ^ 64)):ig (.int i) (.int j)= .ok (.int (i*j)):=by
 show (if _ then _ else _)=_;rw[if_pos h]
theorem oO {i j:Int} (h:0 < j/\j < 2 ^ 64):iJ (.int i) (.int j)= .ok (.int (i / j)):=by
 show (if _ then _ else _)=_;rw[if_pos h]
theorem oR {i j:Int} (h:0 < j):f9 (.int i) (.int j)= .ok (.int (i % j)):=by
 show (if _ then _ else _)=_;rw[if_pos h]
theorem pQ {α:Type} {l:List α}:pL [.lst (l.map λ _=> .bl true)]= .ok (.bl true):=by
 have:=Ga (c:=λ _:α=>true) (l:=l);rw[pL,this];show R.ok (D.bl _)=_;rw[all_true]
theorem ab1 {α:Type} {c:α->Int} {l:List α}:Nb [.lst (l.map λ a=> .int (c a))]= .ok (.int (l.map c).sum):=by rw[Nb,zR]
end
noncomputable def Ia:aA->So:=(aQ (bF (bin (λ _=> .ok (.int 7)) (λ ρ=>ao ρ 1) ig) (aM 3)) (aQ (dJ (bZ (bin (λ ρ=>ao ρ 0) (jt (λ _=> .ok [])) jJ)) (aQ (bF (bin (λ ρ=>ao ρ 0) (bin (λ ρ=>ao ρ 1) (aF bW (ak (λ ρ=>ao ρ 0) (λ _=> .ok []))) f9) bN) (aM 3)) (aQ (bF (bin (λ ρ=>ao ρ 1) (aF bW (ak (λ ρ=>ao ρ 0) (λ _=> .ok []))) iJ) (aM 4)) (aQ (dJ (nG (bZ (bin (λ ρ=>ao ρ 3) (bin (λ _=> .ok (.int 10)) (λ _=> .ok (.int 18)) vV) Xb)) (bZ (bin (λ ρ=>ao ρ 4) (λ _=> .ok (.int 60)) ltI))) (aQ (bF (bin (λ ρ=>ao ρ 3) (bin (λ _=> .ok (.int 10)) (λ _=> .ok (.int 18)) vV) iJ) (aM 5)) (aQ (fZ (nG (bZ (bin (λ ρ=>ao ρ 5) (λ _=> .ok (.int 0)) sH)) (bZ (bin (λ ρ=>ao ρ 4) (λ _=> .ok (.int 0)) sH))) (aQ (bF (bin (λ ρ=>ao ρ 5) (λ _=> .ok (.int 1000000)) iJ) (aM 5)) (bF (bin (λ ρ=>ao ρ 4) (λ _=> .ok (.int 1)) dh) (aM 4))) 64) (dJ (bZ (bin (λ ρ=>ao ρ 5) (λ _=> .ok (.int 0)) sH)) (retS (bin (bin (λ ρ=>ao ρ 5) (λ _=> .ok (.int 1000000)) f9) (λ ρ=>ao ρ 2) f9)) So.nx))) So.nx) (bF (bin (λ ρ=>ao ρ 3) (bin (λ _=> .ok (.int 6553)) (bin (λ ρ=>ao ρ 1) (aF bW (ak (λ ρ=>ao ρ 0) (λ _=> .ok []))) iJ) ig) fj) (aM 3))))) So.nx) (aQ (bF (bin (bin (bin (bin (λ ρ=>ao ρ 3) (λ _=> .ok (.int 2147483563)) f9) (λ _=> .ok (.int 69069)) ig) (bin (λ _=> .ok (.int 104723)) (bin (λ ρ=>ao ρ 1) (λ _=> .ok (.int 1)) fj) ig) fj) (λ _=> .ok (.int 2147483563)) f9) (aM 3)) (aQ (bF (bin (bin (bin (λ ρ=>ao ρ 3) (λ ρ=>ao ρ 3) ig) (bin (λ ρ=>ao ρ 3) (λ _=> .ok (.int 3)) iJ) fj) (λ _=> .ok (.int 2147483399)) f9) (aM 3)) (retS (bin (bin (bin (bin (bin (λ ρ=>ao ρ 3) (λ ρ=>ao ρ 3) ig) (bin (λ ρ=>ao ρ 3) (λ _=> .ok (.int 7)) iJ) fj) (λ _=> .ok (.int 2147483647)) f9) (λ _=> .ok (.int 11)) iJ) (λ ρ=>ao ρ 2) f9))))))
noncomputable def tailD:aA->So:=(aQ (bF (bin (bin (bin (bin (λ ρ=>ao ρ 3) (λ _=> .ok (.int 2147483563)) f9) (λ _=> .ok (.int 69069)) ig) (bin (λ _=> .ok (.int 104723)) (bin (λ ρ=>ao ρ 1) (λ _=> .ok (.int 1)) fj) ig) fj) (λ _=> .ok (.int 2147483563)) f9) (aM 3)) (aQ (bF (bin (bin (bin (λ ρ=>ao ρ 3) (λ ρ=>ao ρ 3) ig) (bin (λ ρ=>ao ρ 3) (λ _=> .ok (.int 3)) iJ) fj) (λ _=> .ok (.int 2147483399)) f9) (aM 3)) (retS (bin (bin (bin (bin (bin (λ ρ=>ao ρ 3) (λ ρ=>ao ρ 3) ig) (bin (λ ρ=>ao ρ 3) (λ _=> .ok (.int 7)) iJ) fj) (λ _=> .ok (.int 2147483647)) f9) (λ _=> .ok (.int 11)) iJ) (λ ρ=>ao ρ 2) f9))))
noncomputable def adP:aA->So:=(dJ (nG (bZ (bin (λ ρ=>ao ρ 3) (bin (λ _=> .ok (.int 10)) (λ _=> .ok (.int 18)) vV) Xb)) (bZ (bin (λ ρ=>ao ρ 4) (λ _=> .ok (.int 60)) ltI))) (aQ (bF (bin (λ ρ=>ao ρ 3) (bin (λ _=> .ok (.int 10)) (λ _=> .ok (.int 18)) vV) iJ) (aM 5)) (aQ (fZ (nG (bZ (bin (λ ρ=>ao ρ 5) (λ _=> .ok (.int 0)) sH)) (bZ (bin (λ ρ=>ao ρ 4) (λ _=> .ok (.int 0)) sH))) (aQ (bF (bin (λ ρ=>ao ρ 5) (λ _=> .ok (.int 1000000)) iJ) (aM 5)) (bF (bin (λ ρ=>ao ρ 4) (λ _=> .ok (.int 1)) dh) (aM 4))) 64) (dJ (bZ (bin (λ ρ=>ao ρ 5) (λ _=> .ok (.int 0)) sH)) (retS (bin (bin (λ ρ=>ao ρ 5) (λ _=> .ok (.int 1000000)) f9) (λ ρ=>ao ρ 2) f9)) So.nx))) So.nx)
noncomputable def wcD:aA->R Bool:=(nG (bZ (bin (λ ρ=>ao ρ 5) (λ _=> .ok (.int 0)) sH)) (bZ (bin (λ ρ=>ao ρ 4) (λ _=> .ok (.int 0)) sH)))
noncomputable def wbD:aA->So:=(aQ (bF (bin (λ ρ=>ao ρ 5) (λ _=> .ok (.int 1000000)) iJ) (aM 5)) (bF (bin (λ ρ=>ao ρ 4) (λ _=> .ok (.int 1)) dh) (aM 4)))
section
variable {S s0 s1 s2 s3 x y:Option Ent} {k m c:Int}
theorem tail_eq (hm:0 < m):∃v,tailD [S,some (.val (.int k)),some (.val (.int m)),some (.val (.int c)),x,y]= .rt (.int v)/\0<=v/\v < m:=by
 refine⟨_,aJ (aX (au (au (au (au rfl rfl (oR (by omega))) rfl (mW (.inr ⟨by omega,by omega⟩))) (au rfl (au rfl rfl rfl) (mW (.inl ⟨by omega,by omega⟩))) rfl) rfl (oR (by omega))) rfl)
  (aJ (aX (au (au (au rfl rfl (mW (.inl ?b1))) (au rfl rfl (oO ⟨by omega,by omega⟩)) rfl) rfl (oR (by omega))) rfl)
  (bx (au (au (au (au (au rfl rfl (mW (.inl ?b2))) (au rfl rfl (oO ⟨by omega,by omega⟩)) rfl) rfl (oR (by omega))) rfl (oO ⟨by omega,by omega⟩)) rfl (oR hm)))),Int.emod_nonneg _ (by omega),Int.emod_lt_of_pos _ hm⟩
 case b1=>
  have h1:=Int.emod_nonneg (c % 2147483563*69069+104723*(k+1)) (b:=2147483563) (by omega);have h2:=Int.emod_lt_of_pos (c % 2147483563*69069+104723*(k+1)) (b:=2147483563) (by omega);constructor <;> omega
 case b2=>
  generalize (c % 2147483563*69069+104723*(k+1)) % 2147483563=z
  have h1:=Int.emod_nonneg (z*z+z / 3) (b:=2147483399) (by omega);have h2:=Int.emod_lt_of_pos (z*z+z / 3) (b:=2147483399) (by omega);constructor <;> omega
theorem qG {i j:Int}:sH (.int i) (.int j)= .ok (.bl (decide (j < i))):=rfl
theorem Nm:∀{n:Nat} {t r:Int},0<=t->t < n->∃t' r',fZ wcD wbD n [s0,s1,s2,s3,some (.val (.int t)),some (.val (.int r))]= .nx [s0,s1,s2,s3,some (.val (.int t')),some (.val (.int r'))]
 |0,t,r,h0,h1=>by omega
 | n + 1,t,r,h0,h1=>by
  rw[fZ];by_cases hr:0 < r
  ·by_cases ht:0 < t
   ·obtain⟨t',r',e⟩:=Nm (n:=n) (t:=t - 1) (r:=r / 1000000) (by omega) (by omega);refine⟨t',r',?_⟩;have e1:wcD (cR [s0,s1,s2,s3,some (.val (.int t)),some (.val (.int r))])= .ok true:=nY (aO (au rfl rfl (by rw[qG,decide_eq_true hr]))) (aO (au rfl rfl (by rw[qG,decide_eq_true ht])));have e2:wbD [s0,s1,s2,s3,some (.val (.int t)),some (.val (.int r))]= .nx [s0,s1,s2,s3,some (.val (.int (t - 1))),some (.val (.int (r / 1000000)))]:=aJ (aX (au rfl rfl (oO ⟨by omega,by omega⟩)) rfl) (aX (au rfl rfl rfl) rfl);simp only[e1,e2];exact e
   ·refine⟨t,r,?_⟩;have e1:wcD (cR [s0,s1,s2,s3,some (.val (.int t)),some (.val (.int r))])= .ok false:=nY (aO (au rfl rfl (by rw[qG,decide_eq_true hr]))) (aO (au rfl rfl (by rw[qG,decide_eq_false ht])));simp only[e1]
  ·refine⟨t,r,?_⟩;have e1:wcD (cR [s0,s1,s2,s3,some (.val (.int t)),some (.val (.int r))])= .ok false:=CK (aO (au rfl rfl (by rw[qG,decide_eq_false hr])));simp only[e1]
theorem Gb:vV (.int 10) (.int 18)= .ok (.int 1000000000000000000):=by
 unfold vV iD;simp only[];rw[if_pos ⟨by decide,by decide,by decide⟩];rfl
theorem adQ {t:Int} (hm:0 < m) (ht:0<=t):(∃t' x',adP [S,some (.val (.int k)),some (.val (.int m)),some (.val (.int c)),some (.val (.int t)),x]= .nx [S,some (.val (.int k)),some (.val (.int m)),some (.val (.int c)),some (.val (.int t')),x'])\/
  ∃v,adP [S,some (.val (.int k)),some (.val (.int m)),some (.val (.int c)),some (.val (.int t)),x]= .rt (.int v)/\0<=v/\v < m:=by
 by_cases h1:1000000000000000000<=c
 ·by_cases h2:t < 60
  ·have e:(nG (bZ (bin (λ ρ=>ao ρ 3) (bin (λ _=> .ok (.int 10)) (λ _=> .ok (.int 18)) vV) Xb)) (bZ (bin (λ ρ=>ao ρ 4) (λ _=> .ok (.int 60)) ltI))) (cR [S,some (.val (.int k)),some (.val (.int m)),some (.val (.int c)),some (.val (.int t)),x])= .ok true:=
    nY (aO (au rfl (au rfl rfl Gb) (by show R.ok (D.bl (decide _))=_;rw[decide_eq_true h1]))) (aO (au rfl rfl (by show R.ok (D.bl (decide _))=_;rw[decide_eq_true h2])))
   obtain⟨t',r',ew⟩:=Nm (s0:=S) (s1:=some (.val (.int k))) (s2:=some (.val (.int m))) (s3:=some (.val (.int c))) (n:=64) (t:=t) (r:=c / 1000000000000000000) ht (by omega);by_cases h3:0 < r'
   ·exact .inr ⟨_,dg e (aJ (aX (au rfl (au rfl rfl Gb) (oO ⟨by omega,by omega⟩)) rfl) (aJ ew (dg (aO (au rfl rfl (by rw[qG,decide_eq_true h3]))) (bx (au (au rfl rfl (oR (by omega))) rfl (oR hm)))))),Int.emod_nonneg _ (by omega),Int.emod_lt_of_pos _ hm⟩
   ·exact .inl ⟨t',some (.val (.int r')),dg e (aJ (aX (au rfl (au rfl rfl Gb) (oO ⟨by omega,by omega⟩)) rfl) (aJ ew (cj (aO (au rfl rfl (by rw[qG,decide_eq_false h3]))) rfl)))⟩
  ·exact .inl ⟨t,x,cj (nY (aO (au rfl (au rfl rfl Gb) (by show R.ok (D.bl (decide _))=_;rw[decide_eq_true h1]))) (aO (au rfl rfl (by show R.ok (D.bl (decide _))=_;rw[decide_eq_false h2])))) rfl⟩
 ·exact .inl ⟨t,x,cj (CK (aO (au rfl (au rfl rfl Gb) (by show R.ok (D.bl (decide _))=_;rw[decide_eq_false h1])))) rfl⟩
end
theorem gY {ρ:aA} {s t:aA->So} {d:D} (e1:s ρ= .rt d):aQ s t ρ= .rt d:=by rw[aQ,e1]
theorem xg {xs:List D} {i:Int} {d:D} (h:atI xs i=some d):bN (.lst xs) (.int i)= .ok d:=by rw[bN,h]
theorem aau {ns:List Int} {k m:Int} (hl:ns.length<=1000000) (hk:0<=k) (hm:0 < m):∃v,bV 3 Ia [.lst (ns.map .int),.int k,.int m]= .ok (.int v)/\0<=v/\v < m:=by
 have hd:dep (.lst (ns.map .int))<=40:=by
  rw[dep];have:=tH (c:=D.int) (n:=0) (l:=ns) (λ a _=>by simp[dep]);omega
 cases ns with
 | nil=>
  obtain⟨v,e,h⟩:=tail_eq (S:=some (.val (.lst []))) (k:=k) (c:=7*k) (x:=none) (y:=none) hm;exact⟨v,bL (aJ (aX (au rfl rfl (mW (.inl ⟨by omega,by omega⟩))) rfl) (aJ (cj (aO (au rfl (gq rfl) (lC rfl hd))) rfl) e)),h⟩
 | cons a ns=>
  have hn:jJ (.lst ((a::ns).map .int)) (.lst [])= .ok (.bl true):=by
   rw[jJ,if_pos hd];rfl
  have hlen:(0:Int) < (((a::ns).map D.int).length:Int):=by rw[List.length_map,List.length_cons];omega
  have hlen2:(((a::ns).map D.int).length:Int) < 2 ^ 64:=by rw[List.length_map];omega
  obtain⟨d,hd1,hd2⟩:=CJ (xs:=(a::ns).map D.int) (i:=k % (((a::ns).map D.int).length:Int)) (Int.emod_nonneg _ (by omega)) (Int.emod_lt_of_pos _ hlen);obtain⟨c,-,rfl⟩:=List.mem_map.mp hd1;have ht:0<=k / (((a::ns).map D.int).length:Int):=Int.ediv_nonneg hk (by omega)
  generalize hL:(((a::ns).map D.int).length:Int)=L at *
  have Gd:∀(S x1 x2 x3 x4 x5:Option Ent),S=some (Ent.val (.lst ((a::ns).map D.int)))->aF bW (ak (λ ρ=>ao ρ 0) (λ _=> .ok [])) [S,x1,x2,x3,x4,x5]= .ok (.int L):=by
   intro S x1 x2 x3 x4 x5 e;subst e;rw[<-hL];exact aR (aB rfl) rfl
  rcases adQ (S:=some (.val (.lst ((a::ns).map .int)))) (k:=k) (m:=m) (c:=c) (x:=none) hm ht with⟨t',x',e⟩ |⟨v,e,h⟩
  ·obtain⟨v,e2,h⟩:=tail_eq (S:=some (.val (.lst ((a::ns).map .int)))) (k:=k) (c:=c+6553*(k / L)) (x:=some (.val (.int t'))) (y:=x') hm;exact⟨v,bL (aJ (aX (au rfl rfl (mW (.inl ⟨by omega,by omega⟩))) rfl) (aJ (dg (aO (au rfl (gq rfl) hn))
    (aJ (aX (au rfl (au rfl (Gd _ _ _ _ _ _ rfl) (oR hlen)) (xg hd2)) rfl) (aJ (aX (au rfl (Gd _ _ _ _ _ _ rfl) (oO ⟨hlen,hlen2⟩)) rfl) (aJ e (aX (au rfl (au rfl (au rfl (Gd _ _ _ _ _ _ rfl) (oO ⟨hlen,hlen2⟩)) (mW (.inl ⟨by omega,by omega⟩))) rfl) rfl))))) e2)),h⟩
  ·exact⟨v,bL (aJ (aX (au rfl rfl (mW (.inl ⟨by omega,by omega⟩))) rfl) (gY (dg (aO (au rfl (gq rfl) hn))
    (aJ (aX (au rfl (au rfl (Gd _ _ _ _ _ _ rfl) (oR hlen)) (xg hd2)) rfl) (aJ (aX (au rfl (Gd _ _ _ _ _ _ rfl) (oO ⟨hlen,hlen2⟩)) rfl) (gY e)))))),h⟩
theorem fW {ρ ρ1 ρ2:aA} {gt:D->aA->R aA} {b:aA->So} {x:D} {xs:List D} {o:So} (e1:gt x ρ= .ok ρ1) (e2:b ρ1= .nx ρ2) (e3:forL gt b xs ρ2=o):forL gt b (x::xs) ρ=o:=by
 rw[forL];simp only[e1,e2];exact e3
theorem lE {ρ:aA} {fi:aA->R (List D)} {gt:D->aA->R aA} {b:aA->So} {xs:List D} {o:So} (e1:fi ρ= .ok xs) (e2:forL gt b xs ρ=o):nJ fi gt b ρ=o:=by
 rw[nJ,e1];exact e2
theorem ab2 {ρ:aA} {i k:Nat} {f:aA->R D} {fa:aA->R (List D)} {d:D} {ds:List D} (e1:f ρ= .ok d) (e2:fa ρ= .ok ds) (h:ds.length<=1000000:=by exact Nat.le_of_ble_eq_true rfl):Ni i k f fa ρ= .nx ((ρ.set i (some (.val d))).set k (some (.lst ds))):=by
 unfold Ni;rw[e1];simp only[kI,e2];rw[if_pos h]
theorem pR {ρ:aA} {i k:Nat} {f g:aA->R D} {d e:D} (e1:f ρ= .ok d) (e2:g ρ= .ok e):vW i k f g ρ= .nx ((ρ.set i (some (.val d))).set k (some (.val e))):=by
 unfold vW;rw[e1];simp only[kI,e2]
noncomputable def dr (ns:List Int) (k m:Int):Int:=match bV 3 Ia [.lst (ns.map .int),.int k,.int m] with
 | .ok (.int v)=>v
 |_=>0
theorem qH {ns:List Int} {k m:Int} (hl:ns.length<=1000000) (hk:0<=k) (hm:0 < m):bV 3 Ia [.lst (ns.map .int),.int k,.int m]= .ok (.int (dr ns k m))/\0<=dr ns k m/\dr ns k m < m:=by
 obtain⟨v,e,h⟩:=aau hl hk hm;have:dr ns k m=v:=by rw[dr,e]
 rw[this];exact⟨e,h⟩
end Pu
namespace Pu
open PySem PySem.Spec L2
open PyProof.Rows hiding St
section
variable {X:Cx}
noncomputable def rN:List D->R D
 |[.int i]=> .ok (.int (if i < 0 then -i else i))
 |_=> .bad
theorem uh:CallD X (.builtin "abs") rN:=by
 refine⟨_,call_abs,λ ρ O σ H Q xs ds j r h=>?_⟩;unfold rN at h;split at h
 ·rename_i i;obtain⟨x,rfl,rx⟩:=r.one;exact⟨i,by rw[rx.int],fin h (cJ _)⟩
 ·exact h.elim
noncomputable def maxD:List D->R D
 |[.int i,.int j]=> .ok (.int (if j > i then j else i))
 |_=> .bad
theorem xq (hc:X.calm=true):CallD X (.builtin "max") maxD:=by
 refine⟨_,call_max2 hc,λ ρ O σ H Q xs ds j r h=>?_⟩;unfold maxD at h;split at h
 ·rename_i i k;obtain⟨x,y,rfl,rx,ry⟩:=r.two;exact⟨i,k,by rw[rx.int,ry.int],fin h (cJ _)⟩
 ·exact h.elim
noncomputable def minD:List D->R D
 |[.int i,.int j]=> .ok (.int (if j < i then j else i))
 |_=> .bad
theorem zT (hc:X.calm=true):CallD X (.builtin "min") minD:=by
 refine⟨_,call_min2 hc,λ ρ O σ H Q xs ds j r h=>?_⟩;unfold minD at h;split at h
 ·rename_i i k;obtain⟨x,y,rfl,rx,ry⟩:=r.two;exact⟨i,k,by rw[rx.int,ry.int],fin h (cJ _)⟩
 ·exact h.elim
noncomputable def Ge:D->Bool
 | .non=>true
 |_=>false
theorem TV {K:PySem.W.Frag} {O:Addr->Prop} {H:Hp} {d:D} {v:V} (r:Rep K O H d v):decide (v= .non)=Ge d:=by
 cases d with
 |non=>rw[r.non];rfl
 |bl b=>rw[r.bl];rfl
 |int i=>rw[r.int];rfl
 |str x=>rw[r.str];rfl
 |tup ds=>obtain⟨a,xs,rfl,_⟩:=r.tup;rfl
 |lst ds=>obtain⟨a,xs,rfl,_⟩:=r.lst;rfl
noncomputable def isD:D->D->R D
 |d,.non=> .ok (.bl (Ge d))
 |_,_=> .bad
noncomputable def Xq:D->D->R D
 |d,.non=> .ok (.bl (!Ge d))
 |_,_=> .bad
theorem vG:jf X (compareOp .Is) isD:=by
 refine⟨_,op_isN,λ ρ O σ H Q x y dx dy j0 rx ry h=>?_⟩;cases dy with
 |non=>exact⟨ry.non,by rw[TV rx];exact fin (a:=D.bl (Ge dx)) h (fG _)⟩
 |_=>cases dx <;> exact h.elim
theorem aav:jf X (compareOp .IsNot) Xq:=by
 refine⟨_,op_notN,λ ρ O σ H Q x y dx dy j0 rx ry h=>?_⟩;cases dy with
 |non=>exact⟨ry.non,by rw[TV rx];exact fin (a:=D.bl (!Ge dx)) h (fG _)⟩
 |_=>cases dx <;> exact h.elim
theorem ab3:OpR X (binaryOp .Add) (λ x y H Q=>∃a b ys,x= .ref a/\y= .ref b/\SqT X.K H a []/\SqT X.K H b ys/\Q (.ref b) H):=by
 intro pins s σ H x y v u Q I rx ry h;obtain⟨a,b,ys,rfl,rfl,ha,hb,q⟩:=h;cases rx;cases ry;obtain⟨its,r1,p1,_⟩:=I.tuple ha;obtain⟨its2,r2,p2,_⟩:=I.tuple hb;cases r1;obtain⟨⟨cls,dd,data,sl⟩,ho,hc,n,hd⟩:=id p1;obtain⟨⟨cls2,dd2,data2,sl2⟩,ho2,hc2,n2,hd2⟩:=id p2;simp only at hc hd hc2 hd2;subst hc hd hc2 hd2;exact concat_meets ⟨_,ho,rfl⟩ ⟨_,ho2,rfl⟩ noFill_tuple_add seq_tuple_add PySem.F.slot_tuple_add PySem.F.entry_tuple_add (PySem.F.args_tuple_add_2 _ _)
   (tuple_addW0 a b _ _ n n2 dd dd2 sl sl2 rfl) ⟨ho,ho2,⟨.ref b,H,I,rfl,q⟩⟩
noncomputable def agt:D->R D
 | .int i=> .ok (.int (-i))
 |_=> .bad
noncomputable def pU (f:aA->R D):aA->R D:=λ ρ=>(f ρ).bind agt
theorem um {e:Expr} {f:aA->R D} {pos:Pos} (he:DE X e f):DE X (.UnaryOp .USub e pos) (pU f):=by
 refine PE.imp (pe_un un_neg he) λ σ H Q h=>?_;obtain⟨ρ,O,j,h⟩:=h;refine go j h λ d v H1 e1 s1 r1 j1 h1=>?_;cases d with
 |int i=>exact⟨i,r1.int,fin h1 (cJ _)⟩
 |_=>exact h1.elim
theorem ab4:OpR X (binaryOp .Add) (λ x y H Q=>∃a b xs ys,x= .ref a/\y= .ref b/\SqL X.K H a xs/\SqL X.K H b ys/\xs.length+ys.length<=sizeLine/\∀p,H p=none->Q (.ref p) (upd H p (.lst (xs++ys)))):=by
 intro pins s σ H x y v u Q I rx ry h;obtain⟨a,b,xs,ys,rfl,rfl,ha,hb,hz,q⟩:=h;cases rx;cases ry;obtain⟨its,r1,p1,_⟩:=I.list ha;obtain⟨its2,r2,p2,_⟩:=I.list hb;obtain⟨⟨cls,dd,data,sl⟩,n,ho,hc,hdd,hd⟩:=id p1;obtain⟨⟨cls2,dd2,data2,sl2⟩,n2,ho2,hc2,ag4,hd2⟩:=id p2;simp only at hc hd hc2 hd2;subst hc hd hc2 hd2;refine concat_meets ⟨_,ho,rfl⟩ ⟨_,ho2,rfl⟩ noFill_list_add seq_list_add PySem.F.slot_list_add PySem.F.entry_list_add (PySem.F.args_list_add_2 _ _)
   (list_addW a b _ _ n n2 dd dd2 sl sl2 (by rw[List.size_toArray,List.size_toArray,<-r1.length,<-r2.length];exact hz)) ⟨ho,ho2,?_⟩
 have ea:its.toArray++its2.toArray=(its++its2).toArray:=by simp
 rw[ea];exact⟨.ref _,_,I.lnew (t':=s.toks) (r1.append r2) (by rw[List.length_append];omega),rfl,q _ I.fresh⟩
noncomputable def cO:D->D->R D
 | .int i,.int j=> .ok (.int (i+j))
 | .tup xs,.tup ys=>if xs.length+ys.length<=1000000 then .ok (.tup (xs++ys)) else .bad
 | .lst xs,.lst ys=>if xs.length+ys.length<=1000000 then .ok (.lst (xs++ys)) else .bad
 |_,_=> .bad
theorem cC:jf X (binaryOp .Add) cO:=by
 refine⟨_,OpR.or op_add (OpR.or op_catT (OpR.or ab3 ab4)),λ ρ O σ H Q x y dx dy j0 rx ry h=>?_⟩;cases dx <;> cases dy <;> first
  |exact h.elim
  |skip
 ·rename_i i j;exact .inl ⟨i,j,rx.int,ry.int,fin h (cJ _)⟩
 ·rename_i xs ys;have h:good X (rD X) O (if xs.length+ys.length<=1000000 then .ok (.tup (xs++ys)) else .bad) σ H Q:=h;by_cases hc:xs.length+ys.length<=1000000
  ·rw [if_pos hc] at h;obtain⟨a,us,rfl,ha,r1⟩:=rx.tup;obtain⟨b,ws,rfl,hb,r2⟩:=ry.tup;by_cases hx:us=[]
   ·subst hx;have:xs=[]:=List.eq_nil_of_length_eq_zero r1.length;subst this;exact .inr (.inr (.inl ⟨a,b,ws,rfl,rfl,ha,hb,fin h (gU hb r2)⟩))
   ·refine .inr (.inl ⟨a,b,us,ws,rfl,rfl,ha,hb,hx,?_,λ z=>?_,λ z l hl=>?_⟩)
    ·rw[<-r1.length,<-r2.length];exact Nat.le_trans hc fL
    ·subst z;have:ys=[]:=List.eq_nil_of_length_eq_zero r2.length;subst this;rw[List.append_nil] at h;exact fin h (gU ha r1)
    ·exact h _ _ (Same.upd hl) (Rep.sZ hl (r1.append r2))
  ·rw[if_neg hc] at h;exact h.elim
 ·rename_i xs ys;have h:good X (rD X) O (if xs.length+ys.length<=1000000 then .ok (.lst (xs++ys)) else .bad) σ H Q:=h;by_cases hc:xs.length+ys.length<=1000000
  ·rw[if_pos hc] at h;obtain⟨a,us,rfl,ha,_,r1⟩:=rx.lst;obtain⟨b,ws,rfl,hb,_,r2⟩:=ry.lst;refine .inr (.inr (.inr ⟨a,b,us,ws,rfl,rfl,ha,hb,?_,λ l hl=>?_⟩))
   ·rw[<-r1.length,<-r2.length];exact Nat.le_trans hc fL
   ·exact h _ _ (Same.upd hl) (Rep.tu hl (j0.zO hl) (r1.append r2))
  ·rw[if_neg hc] at h;exact h.elim
end
section
variable {prog:Program} {w:World} {A:Around} {E:Value->Shared->Prop} {s:Shared}
open HT in
theorem zN {t sl:Addr} {items:Array Value} {vl vu:Value} {lo hi:Option Int} {Q:Value->Shared->Prop} (ht:IsTup s.heap t items) (hs:s.heap.IsSliceOf sl vl vu .none) (pl:IsPart vl lo) (pu:IsPart vu hi)
  (hw:sIx items.size 0 lo=0/\sIx items.size items.size hi=items.size) (h:Q (.ref t) s):wpAny (model prog w) A (getItem (.ref t) (.ref sl)) Q E s:=by
 obtain⟨os,hos,hcs,hds⟩:=id hs;have hTs:s.TypeIs (.ref sl) "slice" :=⟨os,hos,hcs⟩;unfold getItem
 try with_reducible refine wpAny_holding ?_
 first |refine wpAny_bind (wpAny_pure ?_) |skip
 refine wpAny_bind (wpAny_sequenceKey ht.typeIs (by decide) ?_);refine wpAny_bind (wpAny_callSpecial?_slot (name:=Str.ofString "__getitem__") ht.typeIs PyProof.Rows.slot_tuple_getitem
  (wpAny_call_entry PyProof.Rows.slot_tuple_getitem ht.typeIs entry_tuple_getitem ?_ (args_tuple_getitem _ _)))
 show wpAny _ _ (Builtin.Tuple.tupleItemsOf (.ref t) >>=_) _ _ s;refine wpAny_bind (tupleItemsOf_ ht ?_);refine wpAny_bind (wpAny_typeOf hTs ?_);rw[if_pos (by decide)];refine wpAny_bind (sliceApplied_gen hs pl pu ?_);show wpAny _ _ (if (((sIx items.size 0 lo:Nat):Int) ==0 && (1:Int) ==1 && (sIx items.size items.size hi - sIx items.size 0 lo) ==items.size)=true then _ else _) _ _ s;rw[if_pos (by rw[hw.1,hw.2];simp)];refine wpAny_bind (m:=Builtin.Tuple.tupleIsExact _) (wpAny_bind (wpAny_typeOf ht.typeIs (wpAny_pure ?_)));rw[if_pos (beq_self_eq_true _)]
 first
  |exact wpAny_bind (wpAny_pure (wpAny_pure ⟨_,rfl,wpAny_pure h⟩))
  |exact wpAny_bind (wpAny_rule (wpAny_pure ⟨_,rfl,wpAny_pure h⟩))
end
section
variable {X:Cx} {e e1:Expr} {lo hi:Option Expr} {f f1:aA->R D} {fl fu:aA->R (Option Int)} {pos p2:Pos}
noncomputable def agu (K:PySem.W.Frag):V->Option Int->Option Int->Hp->VK->Prop:=λ x lo hi H Q=>∃a xs,x= .ref a/\SqT K H a xs/\
 (HT.sIx xs.length 0 lo=0/\HT.sIx xs.length xs.length hi=xs.length)/\Q (.ref a) H
theorem ab5:SlR X (agu X.K):=by
 intro pins s σ H x v vl vu lo hi sl Q I rx hs pl pu h;obtain⟨a,xs,rfl,hx,hw,q⟩:=h;cases rx;obtain⟨its,r,ht,hz⟩:=I.tuple hx;have hlen:its.toArray.size=xs.length:=by rw[List.size_toArray];exact r.length.symm
 exact⟨"tuple",_,PyProof.Rows.slot_tuple_getitem.lookup,ht.typeIs,zN ht hs pl pu (by rw[hlen];exact hw) ⟨.ref a,H,I,rfl,q⟩⟩
noncomputable abbrev agv:(Addr->Prop)->Hp->Option Int->Option Int->Prop:=λ _ _ a b=>a=b
noncomputable def TX (X:Cx) (lo:Option Expr) (fo:aA->R (Option Int)):Prop:=PO X lo (tG X agv fo)
theorem PO.imp {t t':TO} (h:PO X lo t) (w:∀σ H Q,t' σ H Q->t σ H Q):PO X lo t':=λ pins s σ H Q I q=>h pins s σ H Q I (w σ H Q q)
theorem nO:TX X none (λ _=> .ok none):=by
 refine PO.imp po_none λ σ H Q h=>?_;obtain⟨ρ,O,j,h⟩:=h;exact fin h rfl
noncomputable def Dk:D->R (Option Int)
 | .int i=> .ok (some i)
 |_=> .bad
theorem nP (h:DE X e1 f1):TX X (some e1) (λ ρ=>(f1 ρ).bind Dk):=by
 refine PO.imp (po_some h) λ σ H Q h=>?_;obtain⟨ρ,O,j,h⟩:=h;refine go j h λ d v H1 e1 s1 r1 j1 h1=>?_;cases d with
 |int i=>exact⟨i,r1.int,fin h1 rfl⟩
 |_=>exact h1.elim
noncomputable def jz (ds:List D) (lo hi:Option Int):List D:=(ds.drop (HT.sIx ds.length 0 lo)).take (HT.sIx ds.length ds.length hi - HT.sIx ds.length 0 lo)
noncomputable def Np (d:D) (lo hi:Option Int):R D:=match d with
 | .tup ds=> .ok (.tup (jz ds lo hi))
 |_=> .bad
noncomputable def jM (f:aA->R D) (fl fu:aA->R (Option Int)):aA->R D:=λ ρ=>(f ρ).bind λ d=>(fl ρ).bind λ l=>(fu ρ).bind λ u=>Np d l u
theorem uo (he:DE X e f) (hl:TX X lo fl) (hu:TX X hi fu):DE X (.Subscript e (.Slice lo hi none p2) pos) (jM f fl fu):=by
 refine PE.imp (pe_slice (SlR.or sl_tup ab5) he hl hu) λ σ H Q h=>?_;obtain⟨ρ,O,j,h⟩:=h;refine go j h λ d v H1 e1 s1 r1 j1 h1=>?_;refine go j1 h1 λ l l' H2 e2 s2 r2 j2 h2=>?_;refine go j2 h2 λ u u' H3 e3 s3 r3 j3 h3=>?_;have r2:l=l':=r2;have r3:u=u':=r3;subst r2 r3;cases d with
 | tup ds=>
  have r1':=(r1.same s2).same s3;obtain⟨a,xs,rfl,hq,rs⟩:=r1'.tup;have hlen:=rs.length;by_cases hw:HT.sIx xs.length 0 l=0/\HT.sIx xs.length xs.length u=xs.length
  ·refine .inr ⟨a,xs,rfl,hq,hw,?_⟩;have e:jz ds l u=ds:=by
    unfold jz;rw[hlen,hw.1,hw.2,List.drop_zero,Nat.sub_zero,<-hlen,List.take_length]
   have h3:good X (rD X) O (.ok (.tup (jz ds l u))) σ H3 Q:=h3;rw[e] at h3;exact fin h3 (gU hq rs)
  ·refine .inl ⟨a,xs,rfl,hq,hw,λ p hp=>?_⟩;refine h3 _ _ (Same.upd hp) (Rep.sZ hp ?_);unfold jz cutV;rw[hlen];exact (rs.drop _).take _
 |_=>exact h3.elim
end
noncomputable def pickK {α:Type} (z:α) (sel:List (Sum Nat α)) (ws:List α):List α:=sel.map λ
 | .inl i=>ws.getD i z
 | .inr c=>c
inductive Sel:List (Sum Nat Value)->List (Sum Nat V)->List (Sum Nat D)->Prop
 |nil:Sel [] [] []
 |at (i:Nat) {a b c}:Sel a b c->Sel (.inl i::a) (.inl i::b) (.inl i::c)
 |non {a b c}:Sel a b c->Sel (.inr .none::a) (.inr .non::b) (.inr .non::c)
 |str (x:Str) (t:Tok) {a b c}:Sel a b c->Sel (.inr (.str x t)::a) (.inr (.str x)::b) (.inr (.str x)::c)
 |int (x:Int) (t:Tok) {a b c}:Sel a b c->Sel (.inr (.int x t)::a) (.inr (.int x)::b) (.inr (.int x)::c)
 |bl (x:Bool) {a b c}:Sel a b c->Sel (.inr (.bool x)::a) (.inr (.bl x)::b) (.inr (.bl x)::c)
theorem Xr {zs:List V} {ws:List Value} (r:Vals zs ws) (i:Nat):RelV (zs.getD i .non) (ws.getD i .none):=by
 induction r generalizing i with
 |nil=>exact rfl
 | cons h _ ih=>
  cases i with
  |zero=>exact h
  |succ i=>exact ih i
theorem Sel.vals {a b c} (s:Sel a b c) {zs:List V} {ws:List Value} (r:Vals zs ws):Vals (pickK .non b zs) (pickK .none a ws):=by
 induction s with
 |nil=>exact .nil
 | «at» i _ ih=>exact .cons (Xr r i) ih
 |non _ ih=>exact .cons rfl ih
 |str x t _ ih=>exact .cons ⟨t,rfl⟩ ih
 |int x t _ ih=>exact .cons ⟨t,rfl⟩ ih
 |bl x _ ih=>exact .cons rfl ih
section
variable {K:PySem.W.Frag} {O:Addr->Prop} {H:Hp}
theorem JR:∀{ds:List D} {zs:List V},aU K O H ds zs->∀i:Nat,Rep K O H (ds.getD i .non) (zs.getD i .non)
 |[],zs,r,i=>by rw[r.nil_inv];exact pF
 | d::ds,zs,r,i=>by
  obtain⟨x,t,rfl,h1,h2⟩:=r.cons_inv;cases i with
  |zero=>exact h1
  |succ i=>exact JR h2 i
theorem Sel.reps {a b c} (s:Sel a b c) {ds:List D} {zs:List V} (r:aU K O H ds zs):aU K O H (pickK .non c ds) (pickK .non b zs):=by
 induction s with
 |nil=>exact .nil
 | «at» i _ ih=>exact .cons (JR r i) ih
 |non _ ih=>exact .cons pF ih
 |str x t _ ih=>exact .cons (Cj x) ih
 |int x t _ ih=>exact .cons (cJ x) ih
 |bl x _ ih=>exact .cons (fG x) ih
end
section
variable {X:Cx} {k n:Nat} {f:Addr} {fd:FuncData} {ps ks:List Str} {F:List D->R D} {x:Str} {p pos kpos:Pos} {e:Expr} {es:List Expr} {kws:List Keyword} {fa fk:aA->R (List D)} {fe:aA->R D} {nm:Option Str}
noncomputable def DK (X:Cx) (kws:List Keyword) (fk:aA->R (List D)):Prop:=PK X kws (tG X (JL X) fk)
theorem PK.imp {t t':TA} (h:PK X kws t) (w:∀σ H Q,t' σ H Q->t σ H Q):PK X kws t':=λ pos pins s σ H Q I q=>h pos pins s σ H Q I (w σ H Q q)
theorem Nq:DK X [] (λ _=> .ok []):=by
 refine PK.imp pk_nil λ σ H Q h=>?_;obtain⟨ρ,O,j,h⟩:=h;exact fin h .nil
theorem xr (he:DE X e fe) (hr:DK X kws fk):DK X (⟨nm,e,kpos⟩::kws) (ak fe fk):=by
 refine PK.imp (pk_cons he hr) λ σ H Q h=>?_;obtain⟨ρ,O,j,h⟩:=h;refine go j h λ d v H1 e1 s1 r1 j1 h1=>?_;refine go j1 h1 λ ds vs H2 e2 s2 r2 j2 h2=>?_;exact fin h2 (.cons (r1.same s2) r2)
theorem JT {α:Type} {z:α} {sel:List (Sum Nat α)} {ws:List α}:(pickK z sel ws).length=sel.length:=by unfold pickK;rw[List.length_map]
noncomputable def KB (K:PySem.W.Frag) (fd:FuncData) (ps ks:List Str) (sel:List (Sum Nat Value)):Prop:=∀(s:Shared) (us ws:List Value),K.In s.heap->us.length+sel.length=ps.length->ws.length=ks.length->BindsTo s fd ⟨us,ks.zip ws⟩ (ps.zip (us++pickK .none sel ws))
end
section
variable {X:Cx} {k n:Nat} {f:Addr} {fd:FuncData} {ps:List Str} {F:List D->R D} {x:Str} {p pos:Pos} {e:Expr} {es:List Expr} {fa:aA->R (List D)}
end
theorem len0 {α:Type} {l:List α} (h:l.length=0):l=[]:=List.eq_nil_of_length_eq_zero h
theorem jg {α:Type} {l:List α} {n:Nat} (h:l.length=n+1):∃a m,l=a::m/\m.length=n:=by
 cases l with
 |nil=>simp at h
 |cons a m=>exact⟨a,m,rfl,by simpa using h⟩
section
variable {X:Cx} {k m n:Nat} {fd:FuncData} {ps ks:List Str} {F:List D->R D} {x:Str} {p pos:Pos} {e:Expr} {es:List Expr} {kws:List Keyword} {fa fk:aA->R (List D)}
end
section
variable {K:PySem.W.Frag} {kV doc pm cdv ct:Value} {an:Option Addr} {body:List Stmt} {scope:Scope} {d:Addr} {t:Tok} {q:Pos}
noncomputable def Xu (q:Pos):Arguments:={posonlyargs:=[],args:=[⟨"p",none,q⟩],vararg:=none,kwonlyargs:=[⟨"manner",none,q⟩,⟨"marks",none,q⟩],kw_defaults:=[some (.Constant (.str "worth") 0 q),some (.Constant .none 0 q)],kwarg:=none,defaults:=[]}
example:KB K (PySem.W.fnOf "f" "f" (Xu q) body scope .none kV doc pm an cdv ct) ["p","manner","marks"] ["marks","manner"] [.inl 1,.inl 0]:=by
 intro s us ws i hl hw;have hl1:us.length=1:=by simpa using hl
 clear hl
 obtain⟨u,us',rfl,hl2⟩:=jg hl1
 clear hl1
 cases len0 hl2;obtain⟨w1,ws1,rfl,hw1⟩:=jg hw
 clear hw
 obtain⟨w2,ws2,rfl,hw2⟩:=jg hw1
 clear hw1
 cases len0 hw2;exact .of_eq rfl
end
section
variable {X:Cx}
end
section
variable {K:PySem.W.Frag} {O O':Addr->Prop} {H:Hp}
end
section
variable {X:Cx} {e:Expr} {f:aA->R D} {pos:Pos}
end
section
variable {prog:Program} {w:World} {A:Around} {E:Value->Shared->Prop} {s:Shared} {t:Addr}
end
section
variable {X:Cx}
end
theorem Es:fillsNumberSlot (.type "tuple") "mul" =pure false:=
 PySem.fillsNumberSlot_seq (id:= "tuple.__mul__") (r:=some (.builtin "tuple.__rmul__")) F.slot_tuple_mul.lookup (by decide +kernel) F.slot_tuple_rmul.lookup (by decide +kernel)
theorem Nr:seqRepeat? (.type "tuple")=pure (some (.builtin "tuple.__mul__")):=by
 unfold seqRepeat?;rw[PySem.seqSlot_of (T:= "tuple") (name:= "__mul__") (id:= "tuple.__mul__") F.slot_tuple_mul.lookup (by decide +kernel),PySem.seqSlot_of (T:= "tuple") (name:= "__rmul__") (id:= "tuple.__rmul__") F.slot_tuple_rmul.lookup (by decide +kernel)];rfl
theorem Ib (a:Int) (t:Tok) (l:Addr) (items:Array Value) (n:Nat) (dd:Option Addr) (sl:Array (Option Value)):
  Meets (Builtin.«int.__rmul__» ⟨[.int a t,.ref l],[]⟩) (λ _ R s=>s.heap.get? l=some {cls:= .type "tuple",dict:=dd,data:= .seq items n,slots:=sl}/\R (.ok (.ret Value.notImplemented)) s):=
 .of_wp λ prog w A R s h=>by obtain⟨hp,g,d,tk,os⟩:=s;obtain⟨hl,h⟩:=h;wp_walk;exact⟨_,rfl,h⟩
theorem Vg (l:Addr) (items:Array Value) (n:Nat) (dd:Option Addr) (sl:Array (Option Value)) (t:Tok):
  Meets (Builtin.«tuple.__mul__» ⟨[.ref l,.int 1 t],[]⟩) (λ _ R s=>s.heap.get? l=some {cls:= .type "tuple",dict:=dd,data:= .seq items n,slots:=sl}/\R (.ok (.ret (.ref l))) {s with heap:=s.heap,toks:=s.toks}):=
 .of_wp λ prog w A R s h=>by obtain⟨hp,g,d,tk,os⟩:=s;obtain⟨hl,h⟩:=h;have f1:=AutoSeq1.idx_int;have hc0:(items.isEmpty || (1:Int) ==1)=true:=(by simp);unfold Builtin.«tuple.__mul__»;wp_walk using wpAny_loadPart' hl;exact⟨_,rfl,h⟩
theorem Vh (l:Addr) (items:Array Value) (n:Nat) (dd:Option Addr) (sl:Array (Option Value)) (k:Int) (t:Tok) (hf:¬(decide (k < -(2 ^ 63)) || decide (k>=2 ^ 63))=true) (hc0:¬(items.isEmpty || k ==1)=true) (hc1:¬(decide (k<=0) || items.isEmpty)=true)
  (hc2:¬(items.size:Int)*k > (2 ^ 63 - 1) / 8) (hc3:¬Builtin.Tuple.tupleTooMany ((items.size:Int)*k)=true) (hsz:sizeOk (.seq (List.foldl (λ x1 x2=>x1++x2) #[] (List.replicate k.toNat items)))):
  Meets (Builtin.«tuple.__mul__» ⟨[.ref l,.int k t],[]⟩) (λ _ R s=>s.heap.get? l=some {cls:= .type "tuple",dict:=dd,data:= .seq items n,slots:=sl}/\R (.ok (.ret (.ref s.heap.objs.size))) {s with heap:=s.heap.push {cls:=Value.type "tuple",data:=Data.seq (List.foldl (λ x1 x2=>x1++x2) #[] (List.replicate k.toNat items))},toks:=s.toks}):=
 .of_wp λ prog w A R s h=>by
  obtain⟨hp,g,d,tk,os⟩:=s;obtain⟨hl,h⟩:=h;have f1:=AutoSeq1.idx_int;unfold Builtin.«tuple.__mul__»
  wp_walk using wpAny_loadPart' hl
  refine wpAny_ite_false (by simpa using hf) ?_
  wp_walk using wpAny_loadPart' hl
  refine wpAny_ite_false (by simpa using hc2) ?_
  wp_walk using wpAny_loadPart' hl
  refine wpAny_ite_false (by simpa[sizeOk] using hsz) ?_
  wp_walk using wpAny_loadPart' hl
  exact⟨_,rfl,h⟩
section
variable {X:Cx}
theorem ab6:OpR X (binaryOp .Mult) (λ x y H Q=>∃a k xs,x= .ref a/\y= .int k/\SqT X.K H a xs/\xs≠[]/\1<=k/\k < 2 ^ 63/\xs.length*k.toNat<=sizeLine/\(k=1->Q (.ref a) H)/\
  (k≠1->∀p,H p=none->Q (.ref p) (upd H p (.tup (List.replicate k.toNat xs).flatten)))):=by
 intro pins s σ H x y v u Q I rx ry h;obtain⟨a,k,xs,rfl,rfl,hq,hx,h1,h2,hz,q1,q2⟩:=h;cases rx;obtain⟨t,rfl⟩:=ry;obtain⟨its,r,p1,_⟩:=I.tuple hq;obtain⟨⟨cls,dd,data,sl⟩,ho,hc,n,hd⟩:=id p1;simp only at hc hd;subst hc hd;have hlen:=r.length;have hne:its≠[]:=λ z=>hx (by rw[z] at r;cases r;rfl);have hpos:0 < its.length:=by cases its with |nil=>exact absurd rfl hne |cons _ _=>simp
 have hemp:its.toArray.isEmpty=false:=by cases its with |nil=>exact absurd rfl hne |cons _ _=>simp
 refine wpAny_binaryOp_repeat_ref (T:= "tuple") (U:= "int") (by decide) ⟨_,ho,rfl⟩ (λ s'=>typeIs_int s' k t) Es F.fills_int_mul F.slot_int_rmul Nr F.slot_int_index.lookup
  (call_meets F.slot_int_rmul (typeIs_int s k t) F.entry_int_rmul (F.args_int_rmul_2 _ _) (Ib k t a its.toArray n dd sl) ⟨ho,rfl,⟨_,ho,rfl⟩,?_⟩)
 by_cases hk:k=1
 ·subst hk;exact call_meets F.slot_tuple_mul ⟨_,ho,rfl⟩ F.entry_tuple_mul (F.args_tuple_mul_2 _ _) (Vg a its.toArray n dd sl t) ⟨ho,⟨.ref a,H,I,rfl,q1 rfl⟩⟩
 ·have hmul:(its.toArray.size:Int)*k=((xs.length*k.toNat:Nat):Int):=by
   rw[List.size_toArray,<-hlen,Int.natCast_mul,Int.toNat_of_nonneg (by omega)]
  have hnew:List.foldl (λ x1 x2=>x1++x2) #[] (List.replicate k.toNat its.toArray)=(List.replicate k.toNat its).flatten.toArray:=by
   have:=foldl_rep its k.toNat [];rw[List.nil_append] at this;exact this
  have hs:sizeOk (.seq (List.foldl (λ x1 x2=>x1++x2) #[] (List.replicate k.toNat its.toArray))):=by
   rw[hnew];show (List.replicate k.toNat its).flatten.toArray.size<=sizeLine;rw[List.size_toArray,len_rep,<-hlen,Nat.mul_comm];exact hz
  have hbig:(sizeLine:Nat)<=(2 ^ 63 - 1) / 8:=by decide
  refine call_meets F.slot_tuple_mul ⟨_,ho,rfl⟩ F.entry_tuple_mul (F.args_tuple_mul_2 _ _) (Vh a its.toArray n dd sl k t (by simp;omega) (by rw[hemp];simp[hk]) (by rw[hemp];simp;omega) (by rw[hmul];omega) (by rw[hmul];unfold Builtin.Tuple.tupleTooMany;intro z;have z:=of_decide_eq_true z;omega) hs) ⟨ho,?_⟩;rw[hnew];refine⟨.ref s.heap.objs.size,_,I.laid (t':=s.toks) (o:= .tup (List.replicate k.toNat xs).flatten) (λ b ob q=>Heap.get?_push_of_some _ q) (Nat.le_refl _) ?_,rfl,q2 hk _ (I.hok.fresh (Nat.le_refl _))⟩;exact⟨by rw[len_rep,Nat.mul_comm];exact hz,_,r.rep k.toNat,IsTup.new _ _⟩
theorem Nt {K:PySem.W.Frag} {O:Addr->Prop} {H:Hp} {ds:List D} {xs:List V} (r:aU K O H ds xs):∀k:Nat,aU K O H (List.replicate k ds).flatten (List.replicate k xs).flatten
 |0=> .nil
 |k+1=>by rw[List.replicate_succ,List.replicate_succ,List.flatten_cons,List.flatten_cons];exact r.append (Nt r k)
noncomputable def zU:D->D->R D
 | .int i,.int j=>ig (.int i) (.int j)
 | .tup ds,.int k=>if ds≠[]/\1<=k/\k < 2 ^ 63/\ds.length*k.toNat<=1000000 then .ok (.tup (List.replicate k.toNat ds).flatten) else .bad
 |_,_=> .bad
theorem CN:jf X (binaryOp .Mult) zU:=by
 obtain⟨r0,o0,c0⟩:=qT (X:=X);refine⟨_,OpR.or o0 ab6,λ ρ O σ H Q x y dx dy j0 rx ry h=>?_⟩;cases dx <;> cases dy <;> first
  |exact h.elim
  |skip
 ·exact .inl (c0 ρ O σ H Q x y _ _ j0 rx ry h)
 ·rename_i ds k;have h:good X (rD X) O (if ds≠[]/\1<=k/\k < 2 ^ 63/\ds.length*k.toNat<=1000000 then .ok (.tup (List.replicate k.toNat ds).flatten) else .bad) σ H Q:=h;by_cases hc:ds≠[]/\1<=k/\k < 2 ^ 63/\ds.length*k.toNat<=1000000
  ·rw[if_pos hc] at h;obtain⟨a,us,rfl,ha,r1⟩:=rx.tup;obtain⟨h0,h1,h2,h3⟩:=hc;refine .inr ⟨a,k,us,rfl,ry.int,ha,λ z=>h0 (by have:=r1.length;rw[z] at this;exact List.eq_nil_of_length_eq_zero this),h1,h2,by rw[<-r1.length];exact Nat.le_trans h3 fL,λ z=>?_,λ z l hl=>?_⟩
   ·subst z;have e:(List.replicate (1:Int).toNat ds).flatten=ds:=by simp
    rw[e] at h;exact fin h (gU ha r1)
   ·exact h _ _ (Same.upd hl) (Rep.sZ hl (Nt r1 _))
  ·rw[if_neg hc] at h;exact h.elim
end
noncomputable def iI:D->Bool
 | .tup _=>false
 | .lst _=>false
 |_=>true
noncomputable def vD:D->V
 | .non=> .non
 | .bl b=> .bl b
 | .int i=> .int i
 | .str x=> .str x
 |_=> .non
section
variable {K:PySem.W.Frag} {O:Addr->Prop} {H:Hp}
theorem TY {d:D} {v:V} (f:iI d=true) (r:Rep K O H d v):v=vD d:=by
 cases d with
 |non=>exact r.non
 |bl b=>exact r.bl
 |int i=>exact r.int
 |str x=>exact r.str
 |tup _=>cases f
 |lst _=>cases f
theorem Nu:∀{ds:List D} {vs:List V},ds.all iI=true->aU K O H ds vs->vs=ds.map vD
 |[],vs,_,r=>r.nil_inv
 | d::ds,vs,f,r=>by
  obtain⟨x,t,rfl,h1,h2⟩:=r.cons_inv;rw[List.all_cons,Bool.and_eq_true] at f;rw[TY f.1 h1,Nu f.2 h2];rfl
theorem Xv {d:D} (f:iI d=true):flatV (vD d)=true:=by cases d <;> first |rfl |cases f
theorem afz {a b:D} (fa:iI a=true) (fb:iI b=true):eqV (vD a) (vD b)=fK a b:=by
 cases a <;> cases b <;> first |rfl |(simp[iI] at fa;done) |(simp[iI] at fb;done) |(rw[eF];rfl) |(simp[vD,eqV,lg,lq,lu,lA,lB,gk,eF])
theorem abB {d:D} (fd:iI d=true):∀{ds:List D},ds.all iI=true->inV (vD d) (ds.map vD)=ds.any λ y=>fK y d
 |[],_=>rfl
 | y::ds,f=>by
  rw[List.all_cons,Bool.and_eq_true] at f;have ih:=abB fd f.2;unfold inV at ih |-;rw[List.map_cons,List.any_cons,List.any_cons,afz f.1 fd,ih]
theorem T4:∀{ds:List D},ds.all iI=true->(ds.map vD).all flatV=true
 |[],_=>rfl
 | y::ds,f=>by
  rw[List.all_cons,Bool.and_eq_true] at f;rw[List.map_cons,List.all_cons,Xv f.1,T4 f.2];rfl
end
noncomputable def Vi:D->Option (List D)
 | .tup ds=>some ds
 | .lst ds=>some ds
 |_=>none
noncomputable def T5 (neg:Bool) (d s:D):R D:=match Vi s with
 |some ds=>if iI d=true/\ds.all iI=true then .ok (.bl (if neg then !(ds.any λ y=>fK y d) else ds.any λ y=>fK y d)) else .bad
 |none=> .bad
section
variable {X:Cx}
theorem in_of {neg:Bool} {ρ:aA} {O:Addr->Prop} {σ:St} {H:Hp} {Q:VK} {x y:V} {dx dy:D} (rx:Rep X.K O H dx x) (ry:Rep X.K O H dy y) (h:good X (rD X) O (T5 neg dx dy) σ H Q):rIn X.K neg x y H Q:=by
 unfold T5 at h;cases e:Vi dy with
 |none=>rw[e] at h;exact h.elim
 | some ds=>
  rw[e] at h;have h:good X (rD X) O (if iI dx=true/\ds.all iI=true then .ok (.bl (if neg then !(ds.any λ y=>fK y dx) else ds.any λ y=>fK y dx)) else .bad) σ H Q:=h;by_cases hc:iI dx=true/\ds.all iI=true
  ·rw [if_pos hc] at h;have key:∃p xs,y= .ref p/\(SqL X.K H p xs\/SqT X.K H p xs)/\aU X.K O H ds xs:=by
    cases dy with
    | tup ds'=>
     cases e;obtain⟨a,xs,rfl,hq,rs⟩:=ry.tup;exact⟨a,xs,rfl,.inr hq,rs⟩
    | lst ds'=>
     cases e;obtain⟨a,xs,rfl,hq,_,rs⟩:=ry.lst;exact⟨a,xs,rfl,.inl hq,rs⟩
    |_=>cases e
   obtain⟨p,xs,rfl,hq,rs⟩:=key;have e1:=TY hc.1 rx;have e2:=Nu hc.2 rs;subst e1 e2;refine⟨p,_,rfl,hq,Xv hc.1,T4 hc.2,?_⟩;rw[abB hc.1 hc.2];exact fin h (fG _)
  ·rw[if_neg hc] at h;exact h.elim
theorem aaw:jf X (compareOp .NotIn) (T5 true):=⟨_,op_notIn_seq,λ ρ O σ H Q x y dx dy j0 rx ry h=>in_of (ρ:=ρ) rx ry h⟩
end
noncomputable def jN:Bool->Heap->Addr->Addr->Nat->Prop
 |true,h,it,l,k=>h.IsTupleIter it l k
 |false,h,it,l,k=>h.IsListIter it l k
noncomputable def jO:Bool->Heap->Addr->Array Value->Prop
 |true,h,l,xs=>h.IsTuple l xs
 |false,h,l,xs=>h.IsList l xs
noncomputable def itC (t:Bool):String:=if t then "tuple_iterator" else "list_iterator"
noncomputable def Sq:Bool->PySem.W.Frag->Hp->Addr->List V->Prop
 |true,K,H,a,xs=>SqT K H a xs
 |false,K,H,a,xs=>SqL K H a xs
theorem jN.of {t:Bool} {h h':Heap} {it l:Addr} {k:Nat} (x:jN t h it l k) (q:∀o,h.get? it=some o->h'.get? it=some o):jN t h' it l k:=by
 cases t <;> (obtain⟨o,e,r⟩:=x;exact⟨o,q o e,r⟩)
theorem jN.obj {t:Bool} {h:Heap} {it l:Addr} {k:Nat} (x:jN t h it l k):∃o,h.get? it=some o/\∀v,o.data≠.cell v:=by
 cases t <;> (obtain⟨o,e,c,d⟩:=x;exact⟨o,e,λ v z=>by rw[d] at z;cases z⟩)
theorem jN.new {t:Bool} {h:Heap} {l:Addr} {it:Addr} (e:h.get? it=some {cls:= .type (itC t),data:= .fields #[.ref l,.int 0 0]}):jN t h it l 0:=by
 cases t <;> exact⟨_,e,rfl,rfl⟩
theorem jO.of {t:Bool} {h h':Heap} {l:Addr} {xs:Array Value} (x:jO t h l xs) (q:∀o,h.get? l=some o->h'.get? l=some o):jO t h' l xs:=by
 cases t <;> (obtain⟨o,e,r⟩:=x;exact⟨o,q o e,r⟩)
section
variable {prog:Program} {w:World} {A:Around} {E:Value->Shared->Prop} {s:Shared}
theorem nextT {it l:Addr} {i:Nat} {xs:Array Value} {v:Value} {Q:Value->Shared->Prop} (hit:s.heap.IsTupleIter it l i) (hl:s.heap.IsTuple l xs) (hv:xs[i]?=some v)
  (hQ:∀h',h'.IsTupleIter it l (i+1)->Heap.SameBut it s.heap h'->Q v {s with heap:=h'}):wpAny (model prog w) A (Builtin.SmallTypes.nextOf (.ref it)) Q E s:=by
 have ty:=hit.typeIs;obtain⟨o,g,c,dt⟩:=hit;obtain⟨p,gp,_,m,dp⟩:=hl;unfold Builtin.SmallTypes.nextOf;refine wpAny_bind (wpAny_callSpecial?_slot (name:=Str.ofString "__next__") ty F.slot_tuple_iterator_next (wpAny_call_entry F.slot_tuple_iterator_next ty F.entry_tuple_iterator_next ?_ (F.args_tuple_iterator_next_1 _)));show wpAny _ _ (field (.ref it) 0 >>=_) _ _ s;refine wpAny_bind (wpAny_field g dt (x:= .ref l) rfl ?_);show wpAny _ _ (if (Value.ref l ==Value.none)=true then _ else _) _ _ s;rw[if_neg (show ¬((Value.ref l ==Value.none)=true) from Bool.false_ne_true)];show wpAny _ _ (field (.ref it) 1 >>=_) _ _ s;refine wpAny_bind (wpAny_field g dt (x:= .int i 0) rfl ?_);show wpAny _ _ (seqItems? (.ref l) >>=_) _ _ s;refine wpAny_bind (wpAny_seqItems gp dp ?_);simp only[Int.toNat_natCast,hv];refine wpAny_bind (wpAny_setField g dt (by simp) (wpAny_pure ⟨v,rfl,wpAny_pure (hQ _ ⟨_,Heap.get?_update_self _ g (Obj.isFreed_of_fields (Obj.data_mapFields dt _)),(Obj.cls_mapFields ..).trans c,?_⟩ (Heap.SameBut.update ..))⟩));rw[Obj.data_mapFields dt];simp[rawInt]
theorem aax {it l:Addr} {i:Nat} {xs:Array Value} {Q:Value->Shared->Prop} (hh:A.handled=none) (hit:s.heap.IsTupleIter it l i) (hl:s.heap.IsTuple l xs) (hv:xs[i]?=none)
  (hE:∀h' e,Heap.ExtBut it s.heap h'->(∃o,h'.get? e=some o/\o.cls= .type "StopIteration")->E (.ref e) {s with heap:=h'}):wpAny (model prog w) A (Builtin.SmallTypes.nextOf (.ref it)) Q E s:=by
 have ty:=hit.typeIs;obtain⟨o,g,c,dt⟩:=hit;obtain⟨p,gp,_,m,dp⟩:=hl;unfold Builtin.SmallTypes.nextOf;refine wpAny_bind (wpAny_callSpecial?_slot (name:=Str.ofString "__next__") ty F.slot_tuple_iterator_next (wpAny_call_entry F.slot_tuple_iterator_next ty F.entry_tuple_iterator_next ?_ (F.args_tuple_iterator_next_1 _)));show wpAny _ _ (field (.ref it) 0 >>=_) _ _ s;refine wpAny_bind (wpAny_field g dt (x:= .ref l) rfl ?_);show wpAny _ _ (if (Value.ref l ==Value.none)=true then _ else _) _ _ s;rw[if_neg (show ¬((Value.ref l ==Value.none)=true) from Bool.false_ne_true)];show wpAny _ _ (field (.ref it) 1 >>=_) _ _ s;refine wpAny_bind (wpAny_field g dt (x:= .int i 0) rfl ?_);show wpAny _ _ (seqItems? (.ref l) >>=_) _ _ s;refine wpAny_bind (wpAny_seqItems gp dp ?_);simp only[Int.toNat_natCast,hv];refine wpAny_bind (wpAny_rule (wpAny_bind (wpAny_setField g dt (by simp) ?_)));show wpAny _ _ (newExc (.type "StopIteration") [] >>=_) _ _ _;refine wpAny_bind ?_;simp only[newExc,newTuple];refine wpAny_bind (wpAny_newObj_type ?_ (by size_fits));refine wpAny_bind (m:=firstArgMember _ _) (wpAny_of_eq (a:=Value.none) (by first |(simp only[firstArgMember];rfl) |rfl) ?_);refine wpAny_newObj_type ?_ (by size_fits);simp only[raiseNew];refine wpAny_bind (wpAny_handled ?_);first |rw [show A.in1.handled=none from hh] |rw [hh]
 exact wpAny_bind (wpAny_pure (wpAny_throw (hE _ _ (((Heap.SameBut.update ..).extBut.push _).push _) ⟨_,Heap.get?_push_size _ rfl,rfl⟩)))
theorem sO {t:Bool} {it l:Addr} {i:Nat} {xs:Array Value} {v:Value} {Q:Value->Shared->Prop} (hit:jN t s.heap it l i) (hl:jO t s.heap l xs) (hv:xs[i]?=some v)
  (hQ:∀h',jN t h' it l (i+1)->Heap.SameBut it s.heap h'->Q v {s with heap:=h'}):wpAny (model prog w) A (Builtin.SmallTypes.nextOf (.ref it)) Q E s:=by
 cases t with
 |true=>exact nextT hit hl hv hQ
 |false=>exact wpAny_nextOf_list_item hit hl hv hQ
theorem pW {t:Bool} {it l:Addr} {i:Nat} {xs:Array Value} {Q:Value->Shared->Prop} (hh:A.handled=none) (hit:jN t s.heap it l i) (hl:jO t s.heap l xs) (hv:xs[i]?=none)
  (hE:∀h' e,Heap.ExtBut it s.heap h'->(∃o,h'.get? e=some o/\o.cls= .type "StopIteration")->E (.ref e) {s with heap:=h'}):wpAny (model prog w) A (Builtin.SmallTypes.nextOf (.ref it)) Q E s:=by
 cases t with
 |true=>exact aax hh hit hl hv hE
 |false=>exact wpAny_nextOf_list_end hh hit hl hv hE
theorem vH {t:Bool} {l:Addr} {xs:Array Value} {Q:Value->Shared->Prop} (hl:jO t s.heap l xs) (hQ:Q (.ref s.heap.objs.size) {s with heap:=s.heap.push {cls:= .type (itC t),data:= .fields #[.ref l,.int 0 0]}}):
  wpAny (model prog w) A (pyIter (.ref l)) Q E s:=by
 cases t with
 |true=>exact wpAny_pyIter_tuple hl hQ
 |false=>exact wpAny_pyIter_list hl hQ
theorem q8 {T:Addr} {arr:Array Value} {x:Value} {k:Nat} {Q:Unit->Shared->Prop} (hT:s.heap.get? T=some {cls:= .type "tuple",data:= .seq arr})
  (h:∀h',h'.get? T=some {cls:= .type "tuple",data:= .seq (arr.setIfInBounds k x)}->Heap.SameBut T s.heap h'->Q () {s with heap:=h'}) (hs:arr.size<=sizeLine:=by size_fits):wpAny (model prog w) A (updateSeq T (·.setIfInBounds k x)) Q E s:=by
 refine wpAny_updateSeq (hz:=hs) (_hz':=by simpa using Nat.le_succ_of_le hs) hT rfl (h _ (by rw[Heap.get?_update_self _ hT rfl];simp[Obj.mapSeq]) (Heap.SameBut.update ..))
end
section
variable {X:Cx} {pins:List (Addr×Obj)} {σ:St} {H:Hp} {s:Shared}
theorem _root_.L2.Inv.fp {b:Addr} {h':Heap} (I:Inv X pins σ H s) (f:FpOk X pins H b) (sb:Heap.SameBut b s.heap h'):Inv X pins σ H {s with heap:=h'}:=
 I.turned (t':=s.toks) (λ c o hc e=>(sb.2 c hc).trans e) f.1 f.2.1 f.2.2.2.1 f.2.2.2.2.1 f.2.2.2.2.2
theorem _root_.L2.Inv.fpE {b:Addr} {h':Heap} (I:Inv X pins σ H s) (f:FpOk X pins H b) (sb:Heap.ExtBut b s.heap h'):Inv X pins σ H {s with heap:=h'}:=
 I.turned (t':=s.toks) (λ c o hc e=>sb c o hc e) f.1 f.2.1 f.2.2.2.1 f.2.2.2.2.1 f.2.2.2.2.2
theorem _root_.L2.FpOk.upd {b p:Addr} {o:HO} (f:FpOk X pins H b) (n:b≠p):FpOk X pins (L2.upd H p o) b:=⟨by rw[upd_ne n];exact f.1,f.2⟩
theorem _root_.L2.Inv.sq {t:Bool} {l:Addr} {xs:List V} (I:Inv X pins σ H s) (q:Sq t X.K H l xs):∃its:List Value,Vals xs its/\jO t s.heap l its.toArray:=by
 cases t with
 |true=>obtain⟨its,r,p,_⟩:=I.tuple q;exact⟨its,r,p⟩
 |false=>obtain⟨its,r,p,_⟩:=I.list q;exact⟨its,r,p.isList⟩
theorem _root_.L2.Inv.xu {t:Bool} {l:Addr} {xs ys:List V} (I:Inv X pins σ H s) (q:Sq t X.K H l xs) (r:Sq t X.K H l ys):xs=ys:=by
 cases t with
 |true=>exact I.tuple_inj q r
 |false=>exact I.list_inj q r
end
noncomputable abbrev iw (h:Heap) (T:Addr) (arr:Array Value):Prop:=h.get? T=some {cls:= .type "tuple",data:= .seq arr}
structure Z2 (h:Heap) (z TI TO i1 i2:Addr) (t1 t2:Bool) (l1 l2:Addr) (k:Nat):Prop where
 z:IsZip h z TI TO .none
 ti:iw h TI #[.ref i1,.ref i2]
 to:∃a b,iw h TO #[a,b]
 s1:jN t1 h i1 l1 k
 s2:jN t2 h i2 l2 k
structure Z3 (h:Heap) (z TI TO i1 i2 i3:Addr) (t1 t2 t3:Bool) (l1 l2 l3:Addr) (k:Nat):Prop where
 z:IsZip h z TI TO .none
 ti:iw h TI #[.ref i1,.ref i2,.ref i3]
 to:∃a b c,iw h TO #[a,b,c]
 s1:jN t1 h i1 l1 k
 s2:jN t2 h i2 l2 k
 s3:jN t3 h i3 l3 k
noncomputable def aay (K:PySem.W.Frag) (t1:Bool) (l1:Addr) (t2:Bool) (l2:Addr):It:=
 ⟨λ i H=>∃xs ys x y,Sq t1 K H l1 xs/\xs[i]?=some x/\Sq t2 K H l2 ys/\ys[i]?=some y,
  λ i H v H'=>∃p x y,H p=none/\v= .ref p/\H'=upd H p (.tup [x,y])/\(∀xs,Sq t1 K H l1 xs->xs[i]?=some x)/\∀ys,Sq t2 K H l2 ys->ys[i]?=some y,
  λ i H=>∃xs ys,Sq t1 K H l1 xs/\Sq t2 K H l2 ys/\(xs.length<=i\/ys.length<=i)⟩
noncomputable def aaz (K:PySem.W.Frag) (t1:Bool) (l1:Addr) (t2:Bool) (l2:Addr) (t3:Bool) (l3:Addr):It:=
 ⟨λ i H=>∃xs ys zs x y z,Sq t1 K H l1 xs/\xs[i]?=some x/\Sq t2 K H l2 ys/\ys[i]?=some y/\Sq t3 K H l3 zs/\zs[i]?=some z,
  λ i H v H'=>∃p x y z,H p=none/\v= .ref p/\H'=upd H p (.tup [x,y,z])/\(∀xs,Sq t1 K H l1 xs->xs[i]?=some x)/\(∀ys,Sq t2 K H l2 ys->ys[i]?=some y)/\∀zs,Sq t3 K H l3 zs->zs[i]?=some z,
  λ i H=>∃xs ys zs,Sq t1 K H l1 xs/\Sq t2 K H l2 ys/\Sq t3 K H l3 zs/\(xs.length<=i\/ys.length<=i\/zs.length<=i)⟩
section
variable {X:Cx} {pins:List (Addr×Obj)} {σ:St} {H:Hp} {s:Shared} {A':Around} {E:Value->Shared->Prop}
theorem Xw:2<=sizeLine:=Nat.le_trans (by decide) (Nat.le_of_lt gH)
theorem aaA:3<=sizeLine:=Nat.le_trans (by decide) (Nat.le_of_lt gH)
theorem Xx {z TI TO i1 i2 l1 l2:Addr} {t1 t2:Bool} {k:Nat} {xs ys:List V} {x y:V} {Q:Value->Shared->Prop} (I:Inv X pins σ H s)
  (fz:FpOk X pins H z) (fO:FpOk X pins H TO) (f1:FpOk X pins H i1) (f2:FpOk X pins H i2)
  (n1:TI≠z) (n2:TO≠z) (n3:i1≠z) (n4:i2≠z) (n5:TI≠TO) (n6:TI≠i1) (n7:TI≠i2) (n8:TO≠i1) (n9:TO≠i2) (n10:i1≠i2)
  (st:Z2 s.heap z TI TO i1 i2 t1 t2 l1 l2 k) (q1:Sq t1 X.K H l1 xs) (e1:xs[k]?=some x) (q2:Sq t2 X.K H l2 ys) (e2:ys[k]?=some y)
  (hQ:∀h',Inv X pins σ (upd H s.heap.objs.size (.tup [x,y])) {s with heap:=h'}->IsZip h' z TI TO (rawInt s.heap.objs.size)->iw h' TI #[.ref i1,.ref i2]->(∃a b,iw h' TO #[a,b])->
   jN t1 h' i1 l1 (k+1)->jN t2 h' i2 l2 (k+1)->Q (.ref s.heap.objs.size) {s with heap:=h'}):
  wpAny (model X.prog X.w) A' (Builtin.«zip.__next__» ⟨[.ref z],[]⟩) (λ fin s'=>∃v,fin= .done (.ret v)/\Q v s') E s:=by
 obtain⟨hz,hTI,⟨a,b,hTO⟩,h1,h2⟩:=st;show wpAny _ _ (field (.ref z) 2 >>=_) _ _ _;refine wpAny_bind (wpAny_field hz rfl (x:= .bool false) rfl ?_);show wpAny _ _ (field (.ref z) 3 >>=_) _ _ _;refine wpAny_bind (wpAny_field hz rfl (x:= .ref TI) rfl ?_);refine wpAny_bind (wpAny_seqItems hTI rfl ?_);show wpAny _ _ (Builtin.SmallTypes.ownedTupleIsFree (.ref z) >>=_) _ _ _;refine wpAny_bind ?_;unfold Builtin.SmallTypes.ownedTupleIsFree;refine wpAny_bind (wpAny_field hz rfl (x:= .none) rfl (wpAny_pure ?_));simp only[if_true];refine wpAny_bind (wpAny_rule (wpAny_bind (wpAny_field hz rfl (x:= .ref TO) rfl ?_)));refine wpAny_bind (wpAny_setField_rec hz (by simp) λ g1 z1 b1=>?_)
 replace z1:IsZip g1 z TI TO .ellipsis:=z1
 have I1:=I.fp fz b1;refine wpAny_bind ?_;simp only[List.zipIdx_cons,List.zipIdx_nil,List.forIn_cons,List.forIn_nil];obtain⟨us,r1,p1⟩:=I1.sq q1;obtain⟨u,hu,ru⟩:=r1.get e1;refine wpAny_bind (wpAny_bind (wpAny_onRaise ?_));show wpAny _ _ (Builtin.SmallTypes.nextOf (.ref i1) >>=_) _ _ _;refine wpAny_bind (sO (h1.of λ o e=>b1.extBut _ _ n3 e) p1 (v:=u) (by simpa using hu) λ g2 s12 b2=>wpAny_pure ?_);have I2:=I1.fp f1 b2;have o2:iw g2 TO #[a,b]:=b2.extBut _ _ n8 (b1.extBut _ _ n2 hTO);refine wpAny_bind (wpAny_seqItems o2 rfl (wpAny_bind (q8 o2 λ g3 o3 b3=>wpAny_bind (wpAny_letGo (wpAny_pure ?_)))))
 replace o3:iw g3 TO #[u,b]:=o3
 have I3:=I2.fp fO b3;obtain⟨vs,r2,p2⟩:=I3.sq q2;obtain⟨v,hv,rv⟩:=r2.get e2;refine wpAny_bind (wpAny_bind (wpAny_onRaise ?_));show wpAny _ _ (Builtin.SmallTypes.nextOf (.ref i2) >>=_) _ _ _;refine wpAny_bind (sO (h2.of λ o e=>b3.extBut _ _ (Ne.symm n9) (b2.extBut _ _ (Ne.symm n10) (b1.extBut _ _ n4 e))) p2 (v:=v) (by simpa using hv) λ g4 s24 b4=>wpAny_pure ?_);have I4:=I3.fp f2 b4;have o4:iw g4 TO #[u,b]:=b4.extBut _ _ n9 o3;refine wpAny_bind (wpAny_seqItems o4 rfl (wpAny_bind (q8 o4 λ g5 o5 b5=>wpAny_bind (wpAny_letGo (wpAny_pure (wpAny_pure ?_))))))
 replace o5:iw g5 TO #[u,v]:=o5
 have I5:=I4.fp fO b5;refine wpAny_bind (wpAny_seqItems o5 rfl (wpAny_bind (wpAny_newTuple ?_)));have sz:g5.objs.size=s.heap.objs.size:=by rw[b5.1,b4.1,b3.1,b2.1,b1.1]
 have I6:Inv X pins σ (upd H g5.objs.size (.tup [x,y])) {s with heap:=g5.push {cls:= .type "tuple",data:= .seq #[u,v]}}:=
  I5.laid (t':=s.toks) (λ b u e=>Heap.get?_push_of_some _ e) (Nat.le_refl _) ⟨Xw,[u,v],.cons ru (.cons rv .nil),⟨_,Heap.get?_push_size _ rfl,rfl,_,rfl⟩⟩
 have z5:IsZip g5 z TI TO .ellipsis:=b5.extBut _ _ (Ne.symm n2) (b4.extBut _ _ (Ne.symm n4) (b3.extBut _ _ (Ne.symm n2) (b2.extBut _ _ (Ne.symm n3) z1)));have lt:∀{c o},g5.get? c=some o->c≠g5.objs.size:=λ e=>Nat.ne_of_lt (Heap.lt_size e);show wpAny _ _ (Builtin.SmallTypes.ownedTupleHandOut (.ref z) (.ref g5.objs.size) >>=_) _ _ _;refine wpAny_bind ?_;unfold Builtin.SmallTypes.ownedTupleHandOut;refine wpAny_bind (wpAny_setField_rec (Heap.get?_push_of_some _ z5) (by simp) λ g7 z7 b7=>?_)
 replace z7:IsZip g7 z TI TO (rawInt g5.objs.size):=z7
 have I7:=I6.fp (fz.upd (lt z5)) b7;refine wpAny_setField_rec z7 (by simp) λ g8 z8 b8=>?_
 replace z8:IsZip g8 z TI TO (rawInt g5.objs.size):=z8
 have I8:=I7.fp (fz.upd (lt z5)) b8;have up:∀c o,c≠z->g5.get? c=some o->g8.get? c=some o:=λ c o c1 e=>b8.extBut _ _ c1 (b7.extBut _ _ c1 (Heap.get?_push_of_some _ e));refine wpAny_pure ⟨_,rfl,?_⟩;rw[sz] at I8 z8;show Q (.ref g5.objs.size) _;rw[sz];refine hQ g8 I8 z8 (up _ _ n1 (b5.extBut _ _ n5 (b4.extBut _ _ n7 (b3.extBut _ _ n5 (b2.extBut _ _ n6 (b1.extBut _ _ n1 hTI)))))) ⟨u,v,up _ _ n2 o5⟩ ?_ ?_
 ·exact s12.of λ o e=>up _ _ n3 (b5.extBut _ _ (Ne.symm n8) (b4.extBut _ _ n10 (b3.extBut _ _ (Ne.symm n8) e)))
 ·exact s24.of λ o e=>up _ _ n4 (b5.extBut _ _ (Ne.symm n9) e)
theorem aaB {z TI TO i1 i2 l1 l2:Addr} {t1 t2:Bool} {k:Nat} {xs ys:List V} {Q:Fin->Shared->Prop} (hh:A'.handled=none) (I:Inv X pins σ H s)
  (fz:FpOk X pins H z) (fO:FpOk X pins H TO) (f1:FpOk X pins H i1) (f2:FpOk X pins H i2)
  (n1:TI≠z) (n2:TO≠z) (n3:i1≠z) (n4:i2≠z) (n5:TI≠TO) (n6:TI≠i1) (n7:TI≠i2) (n8:TO≠i1) (n9:TO≠i2) (n10:i1≠i2)
  (st:Z2 s.heap z TI TO i1 i2 t1 t2 l1 l2 k) (q1:Sq t1 X.K H l1 xs) (q2:Sq t2 X.K H l2 ys) (en:xs.length<=k\/ys.length<=k)
  (hE:∀h' e,Inv X pins σ H {s with heap:=h'}->(∃o,h'.get? e=some o/\o.cls= .type "StopIteration")->E (.ref e) {s with heap:=h'}):
  wpAny (model X.prog X.w) A' (Builtin.«zip.__next__» ⟨[.ref z],[]⟩) Q E s:=by
 obtain⟨hz,hTI,⟨a,b,hTO⟩,h1,h2⟩:=st;show wpAny _ _ (field (.ref z) 2 >>=_) _ _ _;refine wpAny_bind (wpAny_field hz rfl (x:= .bool false) rfl ?_);show wpAny _ _ (field (.ref z) 3 >>=_) _ _ _;refine wpAny_bind (wpAny_field hz rfl (x:= .ref TI) rfl ?_);refine wpAny_bind (wpAny_seqItems hTI rfl ?_);show wpAny _ _ (Builtin.SmallTypes.ownedTupleIsFree (.ref z) >>=_) _ _ _;refine wpAny_bind ?_;unfold Builtin.SmallTypes.ownedTupleIsFree;refine wpAny_bind (wpAny_field hz rfl (x:= .none) rfl (wpAny_pure ?_));simp only[if_true];refine wpAny_bind (wpAny_rule (wpAny_bind (wpAny_field hz rfl (x:= .ref TO) rfl ?_)));refine wpAny_bind (wpAny_setField_rec hz (by simp) λ g1 z1 b1=>?_)
 replace z1:IsZip g1 z TI TO .ellipsis:=z1
 have I1:=I.fp fz b1;refine wpAny_bind ?_;simp only[List.zipIdx_cons,List.zipIdx_nil,List.forIn_cons,List.forIn_nil];obtain⟨us,r1,p1⟩:=I1.sq q1;have leave:∀{g g':Heap} {e:Addr} {c:Addr},Inv X pins σ H {s with heap:=g}->IsZip g z TI TO .ellipsis->FpOk X pins H c->c≠z->Heap.ExtBut c g g'->(∃o,g'.get? e=some o/\o.cls= .type "StopIteration")->
   wpAny (model X.prog X.w) A' (setField (.ref z) 0 .none) (λ _ s'=>E (.ref e) s') E {s with heap:=g'}:=λ {g g' e c} Ig zg fc nc eb ⟨oe,hoe,hce⟩=>by
  have Xy:IsZip g' z TI TO .ellipsis:=eb _ _ (Ne.symm nc) zg;have hez:e≠z:=λ q=>by subst q;rw[Xy] at hoe;cases hoe;simp at hce
  have Ig':Inv X pins σ H {s with heap:=g'}:=Ig.fpE fc eb;exact wpAny_setField_rec Xy (by simp) λ g'' _ b''=>hE g'' e (Ig'.fp fz b'') ⟨oe,b''.extBut _ _ hez hoe,hce⟩
 refine wpAny_bind (wpAny_bind (wpAny_onRaise ?_));show wpAny _ _ (Builtin.SmallTypes.nextOf (.ref i1) >>=_) _ _ _;have h1':=h1.of (h':=g1) λ o e=>b1.extBut _ _ n3 e;by_cases hx:xs.length<=k
 ·exact wpAny_bind (pW hh h1' p1 (by have:=r1.length;simp;omega) λ g2 e eb ex=>leave I1 z1 f1 n3 eb ex)
 ·have hy:ys.length<=k:=by rcases en with h |h;exact absurd h hx;exact h
  obtain⟨u,hu,ru⟩:=r1.get (i:=k) (x:=xs[k]'(by omega)) (List.getElem?_eq_getElem (by omega));refine wpAny_bind (sO h1' p1 (v:=u) (by simpa using hu) λ g2 s12 b2=>wpAny_pure ?_);have I2:=I1.fp f1 b2;have o2:iw g2 TO #[a,b]:=b2.extBut _ _ n8 (b1.extBut _ _ n2 hTO);refine wpAny_bind (wpAny_seqItems o2 rfl (wpAny_bind (q8 o2 λ g3 o3 b3=>wpAny_bind (wpAny_letGo (wpAny_pure ?_)))));have I3:=I2.fp fO b3;obtain⟨vs,r2,p2⟩:=I3.sq q2;have z3:IsZip g3 z TI TO .ellipsis:=b3.extBut _ _ (Ne.symm n2) (b2.extBut _ _ (Ne.symm n3) z1);refine wpAny_bind (wpAny_bind (wpAny_onRaise ?_));show wpAny _ _ (Builtin.SmallTypes.nextOf (.ref i2) >>=_) _ _ _;exact wpAny_bind (pW hh (h2.of λ o e=>b3.extBut _ _ (Ne.symm n9) (b2.extBut _ _ (Ne.symm n10) (b1.extBut _ _ n4 e))) p2 (by have:=r2.length;simp;omega) λ g4 e eb ex=>leave I3 z3 f2 n4 eb ex)
end
theorem Xz {P:Program} {w:World} {K:PySem.W.Frag} {sI:List Expr} {kk} {pp:Pos} {z TI TO i1 i2 l1 l2:Addr} {t1 t2:Bool}
  (n1:TI≠z) (n2:TO≠z) (n3:i1≠z) (n4:i2≠z) (n5:TI≠TO) (n6:TI≠i1) (n7:TI≠i2) (n8:TO≠i1) (n9:TO≠i2) (n10:i1≠i2):
  Turn P w K (.Tuple sI kk pp) (aay K t1 l1 t2 l2) [z,TI,TO,i1,i2] z (λ i h=>Z2 h z TI TO i1 i2 t1 t2 l1 l2 i) where
 mem:=by simp
 obj:=λ i h st b hb=>by
  obtain⟨hz,hTI,⟨x,y,hTO⟩,h1,h2⟩:=st;simp only[List.mem_cons,List.not_mem_nil,or_false] at hb;rcases hb with rfl |rfl |rfl |rfl |rfl
  ·exact⟨_,hz,λ v q=>by have q':Data.fields _=Data.cell v:=q;cases q'⟩
  ·exact⟨_,hTI,λ v q=>by have q':Data.seq _=Data.cell v:=q;cases q'⟩
  ·exact⟨_,hTO,λ v q=>by have q':Data.seq _=Data.cell v:=q;cases q'⟩
  ·exact h1.obj
  ·exact h2.obj
 keep:=λ i h h' st k=>by
  obtain⟨hz,hTI,⟨x,y,hTO⟩,h1,h2⟩:=st;exact⟨k _ (by simp) _ hz,k _ (by simp) _ hTI,⟨x,y,k _ (by simp) _ hTO⟩,h1.of λ o e=>k _ (by simp) o e,h2.of λ o e=>k _ (by simp) o e⟩
 item :=by
  intro X hP hw hK hc i pins s σ H E I hf st hg;subst hP hw hK;obtain⟨xs,ys,x,y,q1,e1,q2,e2⟩:=hg;have hT:s.TypeIs (.ref z) "zip" :=⟨_,st.z,rfl⟩;unfold pyNext;refine wpAny_bind (wpAny_attempt (wpAny_callSpecial?_slot (name:=Str.ofString "__next__") hT F.slot_zip_next (wpAny_call_entry F.slot_zip_next hT F.entry_zip_next
   (Xx I (hf z (by simp)) (hf TO (by simp)) (hf i1 (by simp)) (hf i2 (by simp)) n1 n2 n3 n4 n5 n6 n7 n8 n9 n10 st q1 e1 q2 e2 λ h' I' z' ti' Nv s1' s2'=>wpAny_pure ⟨_,rfl,?_⟩) (F.args_zip_next_1 _))))
  have hp:H s.heap.objs.size=none:=I.hok.fresh (Nat.le_refl _);have nz:∀b,b∈[z,TI,TO,i1,i2]->b≠s.heap.objs.size:=λ b hb q=>by
   obtain⟨o,e,_⟩:∃o,s.heap.get? b=some o/\True:=by
    obtain⟨hz,hTI,⟨x,y,hTO⟩,h1,h2⟩:=st;simp only[List.mem_cons,List.not_mem_nil,or_false] at hb;rcases hb with rfl |rfl |rfl |rfl |rfl
    ·exact⟨_,hz,trivial⟩
    ·exact⟨_,hTI,trivial⟩
    ·exact⟨_,hTO,trivial⟩
    ·obtain⟨o,e,_⟩:=h1.obj;exact⟨o,e,trivial⟩
    ·obtain⟨o,e,_⟩:=h2.obj;exact⟨o,e,trivial⟩
   exact absurd (Heap.lt_size e) (by rw[q];exact Nat.lt_irrefl _)
  refine wpAny_letOwnedTupleGo_zip z' λ h'' z'' b''=>⟨.ref s.heap.objs.size,upd H s.heap.objs.size (.tup [x,y]),I'.fp ((hf z (by simp)).upd (nz z (by simp))) b'',rfl,⟨_,x,y,hp,rfl,rfl,λ xs' q=>by rw[I.xu q q1];exact e1,λ ys' q=>by rw[I.xu q q2];exact e2⟩,?_,λ b hb=>?_⟩
  ·obtain⟨a,b,Nv⟩:=Nv;exact⟨z'',b''.extBut _ _ n1 ti',⟨a,b,b''.extBut _ _ n2 Nv⟩,s1'.of λ o e=>b''.extBut _ _ n3 e,s2'.of λ o e=>b''.extBut _ _ n4 e⟩
  ·rw[upd_ne (nz b hb)];exact (hf b hb).1
 done:=by
  intro X hP hw hK hc i pins s σ H E I hf st hg;subst hP hw hK;obtain⟨xs,ys,q1,q2,en⟩:=hg;have hT:s.TypeIs (.ref z) "zip" :=⟨_,st.z,rfl⟩;unfold pyNext;refine wpAny_bind (wpAny_attempt (wpAny_callSpecial?_slot (name:=Str.ofString "__next__") hT F.slot_zip_next (wpAny_call_entry F.slot_zip_next hT F.entry_zip_next
   (aaB (I.ok.hd hc) I (hf z (by simp)) (hf TO (by simp)) (hf i1 (by simp)) (hf i2 (by simp)) n1 n2 n3 n4 n5 n6 n7 n8 n9 n10 st q1 q2 en λ h' e I' ex=>?_) (F.args_zip_next_1 _))))
  obtain⟨o,ho,ec⟩:=ex;exact wpAny_bind (wpAny_isInstance (T:= "StopIteration") (b:=true) ⟨o,ho,ec⟩ isSubtype_stop (wpAny_pure ⟨rfl,I'⟩))
 self:=λ _ _ _ _ _ st h=>wpAny_pyIter_zip st.z h
noncomputable abbrev itR (t:Bool) (l:Addr):Obj:={cls:= .type (itC t),data:= .fields #[.ref l,.int 0 0]}
noncomputable abbrev XC (h:Heap) (t1:Bool) (l1:Addr):Heap:=h.push (itR t1 l1)
noncomputable abbrev zA2 (h:Heap) (t1:Bool) (l1:Addr) (t2:Bool) (l2:Addr):Heap:=(XC h t1 l1).push (itR t2 l2)
noncomputable abbrev zA3 (h:Heap) (t1:Bool) (l1:Addr) (t2:Bool) (l2:Addr):Heap:=(zA2 h t1 l1 t2 l2).push {cls:= .type "tuple",data:= .seq #[.ref h.objs.size,.ref (XC h t1 l1).objs.size]}
noncomputable abbrev zA4 (h:Heap) (t1:Bool) (l1:Addr) (t2:Bool) (l2:Addr):Heap:=(zA3 h t1 l1 t2 l2).push {cls:= .type "tuple",data:= .seq #[.none,.none]}
noncomputable abbrev T6 (h:Heap) (t1:Bool) (l1:Addr) (t2:Bool) (l2:Addr):Heap:=(zA4 h t1 l1 t2 l2).push {cls:= .type "zip",data:= .fields #[.none,.bool false,.bool false,.ref (zA2 h t1 l1 t2 l2).objs.size,.ref (zA3 h t1 l1 t2 l2).objs.size]}
theorem Vj (t1:Bool) (l1:Addr) (t2:Bool) (l2:Addr) (xs ys:Array Value):Meets (Builtin.«zip.__new__» ⟨[.type "zip",.ref l1,.ref l2],[]⟩)
  (λ _ R s=>jO t1 s.heap l1 xs/\jO t2 s.heap l2 ys/\R (.ok (.ret (.ref (zA4 s.heap t1 l1 t2 l2).objs.size))) {s with heap:=T6 s.heap t1 l1 t2 l2}):=
 .of_wp λ prog w A R s h=>by
  obtain⟨hp,g,d,tk,os⟩:=s;obtain⟨k1,k2,h⟩:=h;have hsub:=sub_zip;have L1:jO t1 (Shared.heap ⟨hp,g,d,tk,os⟩) l1 xs:=k1;have L2:jO t2 (Shared.heap ⟨XC hp t1 l1,g,d,tk,os⟩) l2 ys:=k2.of λ o e=>Heap.get?_push_of_some _ e
  wp_walk using vH L1,vH L2
  exact⟨_,rfl,h⟩
section
variable {prog:Program} {w:World} {A:Around} {E:Value->Shared->Prop} {s:Shared}
theorem XD {t1 t2:Bool} {l1 l2:Addr} {xs ys:Array Value} {Q:Value->Shared->Prop} (k1:jO t1 s.heap l1 xs) (k2:jO t2 s.heap l2 ys)
  (h:∀h',Z2 h' (s.heap.objs.size+4) (s.heap.objs.size+2) (s.heap.objs.size+3) s.heap.objs.size (s.heap.objs.size+1) t1 t2 l1 l2 0->(∀c o,s.heap.get? c=some o->h'.get? c=some o)->Q (.ref (s.heap.objs.size+4)) {s with heap:=h'}):
  wpAny (model prog w) A (call (.type "zip") [.ref l1,.ref l2]) Q E s:=by
 refine callType_new F.called_zip (by decide) (F.typeCall_zip_2 _ _) (F.newCall_zip_2 _ _) (λ obj=>F.args_object_init_3 obj _ _) F.entry_zip_new (Vj t1 l1 t2 l2 xs ys) ⟨k1,k2,?_⟩;have z1:(XC s.heap t1 l1).objs.size=s.heap.objs.size+1:=Heap.size_push ..;have z2:(zA2 s.heap t1 l1 t2 l2).objs.size=s.heap.objs.size+2:=by rw[Heap.size_push,z1]
 have z3:(zA3 s.heap t1 l1 t2 l2).objs.size=s.heap.objs.size+3:=by rw[Heap.size_push,z2]
 have z4:(zA4 s.heap t1 l1 t2 l2).objs.size=s.heap.objs.size+4:=by rw[Heap.size_push,z3]
 have a5:(T6 s.heap t1 l1 t2 l2).get? (zA4 s.heap t1 l1 t2 l2).objs.size=some _:=Heap.get?_push_size _ rfl;have a4:(T6 s.heap t1 l1 t2 l2).get? (zA3 s.heap t1 l1 t2 l2).objs.size=some _:=Heap.get?_push_of_some _ (Heap.get?_push_size _ rfl);have a3:(T6 s.heap t1 l1 t2 l2).get? (zA2 s.heap t1 l1 t2 l2).objs.size=some _:=Heap.get?_push_of_some _ (Heap.get?_push_of_some _ (Heap.get?_push_size _ rfl));have a2:(T6 s.heap t1 l1 t2 l2).get? (XC s.heap t1 l1).objs.size=some (itR t2 l2):=Heap.get?_push_of_some _ (Heap.get?_push_of_some _ (Heap.get?_push_of_some _ (Heap.get?_push_size _ rfl)));have a1:(T6 s.heap t1 l1 t2 l2).get? s.heap.objs.size=some (itR t1 l1):=Heap.get?_push_of_some _ (Heap.get?_push_of_some _ (Heap.get?_push_of_some _ (Heap.get?_push_of_some _ (Heap.get?_push_size _ rfl))));show _/\_;rw[z2,z3,z4] at a5;rw[z1,z2] at a3;rw[z3] at a4;rw[z1] at a2;rw[z4];exact⟨⟨_,a5,rfl⟩,h _ ⟨a5,a3,⟨_,_,a4⟩,.new a1,.new a2⟩ λ c o e=>Heap.get?_push_of_some _ (Heap.get?_push_of_some _ (Heap.get?_push_of_some _ (Heap.get?_push_of_some _ (Heap.get?_push_of_some _ e))))⟩
end
theorem XF:bootBuiltins "zip" =some (.type "zip"):=by decide +kernel
section
variable {X:Cx} {sI:List Expr} {kk:Nat} {pp:Pos} {a b:Expr} {p pos:Pos}
noncomputable def afA (K:PySem.W.Frag) (ta:TA):TI:=λ σ H R=>ta σ H λ vs H1=>∃t1 l1 t2 l2,vs=[.ref l1,.ref l2]/\(∃xs,Sq t1 K H1 l1 xs)/\(∃ys,Sq t2 K H1 l2 ys)/\R (aay K t1 l1 t2 l2) H1
theorem ab7 {ta:TA} (hg:Gl X "zip") (hm:X.mg "zip" =none) (ha:PA X [a,b] ta) (he:starEach [a,b] X.env=(false,eval a X.env)::starEach [b] X.env:=by rfl) (hpl:(backTo pos (starEach [b] X.env)).any (·.1)=false:=by rfl):
    PI X (.Tuple sI kk pp) (.Call (.Name "zip" p) [a,b] [] pos) (afA X.K ta):=by
  intro pins s σ H R I h
  refine Call_ (ld_blt I hg hm XF (PyProof.Rows.callWith_type1 (thn (ha pos pins s σ H _ I h) fun us s1 ⟨vs,H1,I1,r1,q1⟩=>?_) he hpl))
  obtain⟨t1,l1,t2,l2,e,⟨xs,w1⟩,⟨ys,w2⟩,q⟩:=q1
  subst e
  cases r1 with
  | cons r rr=>
    cases rr with
    | cons r' rr=>
      cases rr
      cases r
      cases r'
      obtain⟨vs1,_,p1⟩:=I1.sq w1
      obtain⟨vs2,_,p2⟩:=I1.sq w2
      refine XD p1 p2 fun h' st k=>wpAny_pyIter_zip st.z ⟨s1.heap.objs.size+4,[s1.heap.objs.size+4,s1.heap.objs.size+2,s1.heap.objs.size+3,s1.heap.objs.size,s1.heap.objs.size+1],_,_,H1,rfl,I1.kept (t':=s1.toks) k,Xz ?_ ?_ ?_ ?_ ?_ ?_ ?_ ?_ ?_ ?_,st,fun c hc=>(by
        have hle:s1.heap.objs.size≤c:=by
          simp only[List.mem_cons,List.not_mem_nil,or_false] at hc
          rcases hc with rfl |rfl |rfl |rfl |rfl <;> first |exact Nat.le_refl _ |exact Nat.le_add_right _ _
        exact I1.fpOk hle (I1.hok.fresh hle)),q⟩
      all_goals (show @Ne Nat _ _;omega)
end
noncomputable def Ie (xs ys:List D):List D:=(xs.zip ys).map λ p=> .tup [p.1,p.2]
noncomputable def CP (xs ys zs:List D):List D:=(xs.zip (ys.zip zs)).map λ p=> .tup [p.1,p.2.1,p.2.2]
noncomputable def zip2:List D->R (List D)
 |[x,y]=>(dD x).bind λ xs=>(dD y).bind λ ys=> .ok (Ie xs ys)
 |_=> .bad
noncomputable def zV:List D->R (List D)
 |[x,y,z]=>(dD x).bind λ xs=>(dD y).bind λ ys=>(dD z).bind λ zs=> .ok (CP xs ys zs)
 |_=> .bad
section
variable {K:PySem.W.Frag} {O:Addr->Prop} {H:Hp}
structure Src (K:PySem.W.Frag) (O:Addr->Prop) (H:Hp) (t:Bool) (a:Addr) (ds:List D):Prop where
 ex:∃vs,Sq t K H a vs/\aU K O H ds vs
 no:t=false->¬O a
theorem xG {d:D} {v:V} {ds:List D} (r:Rep K O H d v) (h:dD d= .ok ds):∃t a,v= .ref a/\Src K O H t a ds:=by
 cases d with
 |tup es=>cases h;obtain⟨a,xs,rfl,q,rs⟩:=r.tup;exact⟨true,a,rfl,⟨xs,q,rs⟩,λ z=>by cases z⟩
 |lst es=>cases h;obtain⟨a,xs,rfl,q,n,rs⟩:=r.lst;exact⟨false,a,rfl,⟨xs,q,rs⟩,λ _=>n⟩
 |_=>cases h
theorem Src.go {O':Addr->Prop} {H':Hp} {t:Bool} {a:Addr} {ds:List D} (s:Src K O H t a ds) (q:fU K O H O' H'):∃vs,Sq t K H' a vs/\aU K O' H' ds vs:=by
 obtain⟨vs,h,r⟩:=s.ex;cases t with
 |true=>exact⟨vs,SqT.ext q.ext h,r.go q⟩
 |false=>exact⟨vs,SqL.ext q.ext (s.no rfl) h,r.go q⟩
theorem aaC {xs ys:List D} {i:Nat} {d:D} (h:(Ie xs ys)[i]?=some d):∃x y,xs[i]?=some x/\ys[i]?=some y/\d= .tup [x,y]:=by
 unfold Ie at h;rw[List.getElem?_map] at h;cases e:(xs.zip ys)[i]? with
 |none=>rw[e] at h;cases h
 |some p=>rw[e] at h;cases h;obtain⟨h1,h2⟩:=List.getElem?_zip_eq_some.mp e;exact⟨_,_,h1,h2,rfl⟩
theorem YR.zip2 {t1 t2:Bool} {a1 a2:Addr} {xs ys:List D} (s1:Src K O H t1 a1 xs) (s2:Src K O H t2 a2 ys):YR K O H (aay K t1 a1 t2 a2) (Ie xs ys):=by
 intro O' H' q i;obtain⟨v1,q1,r1⟩:=s1.go q;obtain⟨v2,q2,r2⟩:=s2.go q;refine⟨λ d e=>?_,λ e=>⟨v1,v2,q1,q2,?_⟩⟩
 ·obtain⟨x,y,e1,e2,rfl⟩:=aaC e;obtain⟨u1,g1,w1⟩:=r1.get e1;obtain⟨u2,g2,w2⟩:=r2.get e2;refine⟨⟨v1,v2,u1,u2,q1,g1,q2,g2⟩,λ x H2 y=>?_⟩;obtain⟨p,x1,x2,hp,rfl,rfl,k1,k2⟩:=y;have k1:=k1 _ q1;have k2:=k2 _ q2;rw[g1] at k1;cases k1;rw[g2] at k2;cases k2;exact⟨Same.upd hp,gU (SqT.of upd_same) ((aU.cons w1 (.cons w2 .nil)).same (Same.upd hp))⟩
 ·rw[<-r1.length,<-r2.length];simp only[Ie,List.length_map,List.length_zip] at e;omega
end
section
variable {X:Cx} {sI:List Expr} {kk:Nat} {pp:Pos} {a b:Expr} {p pos:Pos} {fa:aA->R (List D)}
theorem xH (hg:Gl X "zip") (hm:X.mg "zip" =none) (ha:DA X [a,b] fa) (he:starEach [a,b] X.env=(false,eval a X.env)::starEach [b] X.env:=by rfl) (hpl:(backTo pos (starEach [b] X.env)).any (·.1)=false:=by rfl):
  DI X (.Tuple sI kk pp) (.Call (.Name "zip" p) [a,b] [] pos) (λ ρ=>(fa ρ).bind zip2):=by
 refine PI.imp (ab7 hg hm ha he hpl) λ σ H Q q=>?_;obtain⟨ρ,O,j,q⟩:=q;refine go j q λ ds vs H1 e1 s1 r1 j1 h1=>?_;unfold zip2 at h1;split at h1
 ·rename_i x y;obtain⟨v1,v2,rfl,w1,w2⟩:=r1.two;cases ex:dD x with
  |bad=>rw[ex] at h1;exact h1.elim
  |err c=>rw[ex] at h1;cases x <;> cases ex
  | ok xs=>
   cases ey:dD y with
   |bad=>rw[ex,R.bh,ey] at h1;exact h1.elim
   |err c=>cases y <;> cases ey
   | ok ys=>
    rw[ex,R.bh,ey,R.bh] at h1;obtain⟨t1,a1,rfl,c1⟩:=xG w1 ex;obtain⟨t2,a2,rfl,c2⟩:=xG w2 ey;obtain⟨vs1,k1,_⟩:=c1.ex;obtain⟨vs2,k2,_⟩:=c2.ex;exact⟨t1,a1,t2,a2,rfl,⟨vs1,k1⟩,⟨vs2,k2⟩,fin h1 (YR.zip2 c1 c2)⟩
 ·exact h1.elim
end
section
variable {X:Cx} {pins:List (Addr×Obj)} {σ:St} {H:Hp} {s:Shared} {A':Around} {E:Value->Shared->Prop}
theorem XH {z TI TO i1 i2 i3 l1 l2 l3:Addr} {t1 t2 t3:Bool} {k:Nat} {xs1 xs2 JV:List V} {x1 x2 x3:V} {Q:Value->Shared->Prop} (I:Inv X pins σ H s) (fz:FpOk X pins H z) (fO:FpOk X pins H TO) (f1:FpOk X pins H i1) (f2:FpOk X pins H i2) (f3:FpOk X pins H i3)
  (Nx:TI≠z) (vI:TO≠z) (Ny:TI≠TO) (zx:i1≠z) (zW:i2≠z) (Dl:i3≠z) (XJ:TI≠i1) (XM:TI≠i2) (XQ:TI≠i3) (Gf:TO≠i1) (Dm:TO≠i2) (Dn:TO≠i3) (n12:i1≠i2) (n13:i1≠i3) (n23:i2≠i3)
  (st:Z3 s.heap z TI TO i1 i2 i3 t1 t2 t3 l1 l2 l3 k) (q1:Sq t1 X.K H l1 xs1) (q2:Sq t2 X.K H l2 xs2) (q3:Sq t3 X.K H l3 JV) (e1:xs1[k]?=some x1) (e2:xs2[k]?=some x2) (e3:JV[k]?=some x3)
  (hQ:∀h',Inv X pins σ (upd H s.heap.objs.size (.tup [x1,x2,x3])) {s with heap:=h'}->IsZip h' z TI TO (rawInt s.heap.objs.size)->iw h' TI #[.ref i1,.ref i2,.ref i3]->(∃a b c,iw h' TO #[a,b,c])->
   jN t1 h' i1 l1 (k+1)->jN t2 h' i2 l2 (k+1)->jN t3 h' i3 l3 (k+1)->Q (.ref s.heap.objs.size) {s with heap:=h'}):
  wpAny (model X.prog X.w) A' (Builtin.«zip.__next__» ⟨[.ref z],[]⟩) (λ fin s'=>∃v,fin= .done (.ret v)/\Q v s') E s:=by
 obtain⟨hz,hTI,⟨a1,a2,a3,hTO⟩,h1,h2,h3⟩:=st;show wpAny _ _ (field (.ref z) 2 >>=_) _ _ _;refine wpAny_bind (wpAny_field hz rfl (x:= .bool false) rfl ?_);show wpAny _ _ (field (.ref z) 3 >>=_) _ _ _;refine wpAny_bind (wpAny_field hz rfl (x:= .ref TI) rfl ?_);refine wpAny_bind (wpAny_seqItems hTI rfl ?_);show wpAny _ _ (Builtin.SmallTypes.ownedTupleIsFree (.ref z) >>=_) _ _ _;refine wpAny_bind ?_;unfold Builtin.SmallTypes.ownedTupleIsFree;refine wpAny_bind (wpAny_field hz rfl (x:= .none) rfl (wpAny_pure ?_));simp only[if_true];refine wpAny_bind (wpAny_rule (wpAny_bind (wpAny_field hz rfl (x:= .ref TO) rfl ?_)));refine wpAny_bind (wpAny_setField_rec hz (by simp) λ c0 z0 b0=>?_)
 replace z0:IsZip c0 z TI TO .ellipsis:=z0
 have J0:=I.fp fz b0;refine wpAny_bind ?_;simp only[List.zipIdx_cons,List.zipIdx_nil,List.forIn_cons,List.forIn_nil];obtain⟨Nz,r1,p1⟩:=J0.sq q1;obtain⟨u1,hu1,ru1⟩:=r1.get e1;refine wpAny_bind (wpAny_bind (wpAny_onRaise ?_));show wpAny _ _ (Builtin.SmallTypes.nextOf (.ref i1) >>=_) _ _ _;refine wpAny_bind (sO (h1.of λ o e=>(b0.extBut _ _ zx e)) p1 (v:=u1) (by simpa using hu1) λ d1 sd1 vJ=>wpAny_pure ?_);have Jd1:=J0.fp f1 vJ;have od1:iw d1 TO #[a1,a2,a3]:=vJ.extBut _ _ Gf (b0.extBut _ _ vI hTO);refine wpAny_bind (wpAny_seqItems od1 rfl (wpAny_bind (q8 od1 λ c1 o1 xJ=>wpAny_bind (wpAny_letGo (wpAny_pure ?_)))))
 replace o1:iw c1 TO #[u1,a2,a3]:=o1
 have J1:=Jd1.fp fO xJ;obtain⟨us2,r2,p2⟩:=J1.sq q2;obtain⟨u2,hu2,ru2⟩:=r2.get e2;refine wpAny_bind (wpAny_bind (wpAny_onRaise ?_));show wpAny _ _ (Builtin.SmallTypes.nextOf (.ref i2) >>=_) _ _ _;refine wpAny_bind (sO (h2.of λ o e=>(xJ.extBut _ _ (Ne.symm Dm) (vJ.extBut _ _ (Ne.symm n12) (b0.extBut _ _ zW e)))) p2 (v:=u2) (by simpa using hu2) λ d2 sd2 zy=>wpAny_pure ?_);have Jd2:=J1.fp f2 zy;have od2:iw d2 TO #[u1,a2,a3]:=zy.extBut _ _ Dm o1;refine wpAny_bind (wpAny_seqItems od2 rfl (wpAny_bind (q8 od2 λ c2 o2 zX=>wpAny_bind (wpAny_letGo (wpAny_pure ?_)))))
 replace o2:iw c2 TO #[u1,u2,a3]:=o2
 have J2:=Jd2.fp fO zX;obtain⟨us3,r3,p3⟩:=J2.sq q3;obtain⟨u3,hu3,ru3⟩:=r3.get e3;refine wpAny_bind (wpAny_bind (wpAny_onRaise ?_));show wpAny _ _ (Builtin.SmallTypes.nextOf (.ref i3) >>=_) _ _ _;refine wpAny_bind (sO (h3.of λ o e=>(zX.extBut _ _ (Ne.symm Dn) (zy.extBut _ _ (Ne.symm n23) (xJ.extBut _ _ (Ne.symm Dn) (vJ.extBut _ _ (Ne.symm n13) (b0.extBut _ _ Dl e)))))) p3 (v:=u3) (by simpa using hu3) λ d3 sd3 NK=>wpAny_pure ?_);have Jd3:=J2.fp f3 NK;have od3:iw d3 TO #[u1,u2,a3]:=NK.extBut _ _ Dn o2;refine wpAny_bind (wpAny_seqItems od3 rfl (wpAny_bind (q8 od3 λ c3 o3 NP=>wpAny_bind (wpAny_letGo (wpAny_pure (wpAny_pure ?_))))))
 replace o3:iw c3 TO #[u1,u2,u3]:=o3
 have J3:=Jd3.fp fO NP;refine wpAny_bind (wpAny_seqItems o3 rfl (wpAny_bind (wpAny_newTuple ?_)));have sz:c3.objs.size=s.heap.objs.size:=by rw[NP.1,NK.1,zX.1,zy.1,xJ.1,vJ.1,b0.1]
 have J7:Inv X pins σ (upd H c3.objs.size (.tup [x1,x2,x3])) {s with heap:=c3.push {cls:= .type "tuple",data:= .seq #[u1,u2,u3]}}:=
  J3.laid (t':=s.toks) (λ b u e=>Heap.get?_push_of_some _ e) (Nat.le_refl _) ⟨aaA,[u1,u2,u3],.cons ru1 (.cons ru2 (.cons ru3 .nil)),⟨_,Heap.get?_push_size _ rfl,rfl,_,rfl⟩⟩
 have zc:IsZip c3 z TI TO .ellipsis:=(NP.extBut _ _ (Ne.symm vI) (NK.extBut _ _ (Ne.symm Dl) (zX.extBut _ _ (Ne.symm vI) (zy.extBut _ _ (Ne.symm zW) (xJ.extBut _ _ (Ne.symm vI) (vJ.extBut _ _ (Ne.symm zx) z0))))));have lt:∀{b o},c3.get? b=some o->b≠c3.objs.size:=λ e=>Nat.ne_of_lt (Heap.lt_size e);show wpAny _ _ (Builtin.SmallTypes.ownedTupleHandOut (.ref z) (.ref c3.objs.size) >>=_) _ _ _;refine wpAny_bind ?_;unfold Builtin.SmallTypes.ownedTupleHandOut;refine wpAny_bind (wpAny_setField_rec (Heap.get?_push_of_some _ zc) (by simp) λ g7 z7 b7=>?_)
 replace z7:IsZip g7 z TI TO (rawInt c3.objs.size):=z7
 have J8:=J7.fp (fz.upd (lt zc)) b7;refine wpAny_setField_rec z7 (by simp) λ g8 z8 b8=>?_
 replace z8:IsZip g8 z TI TO (rawInt c3.objs.size):=z8
 have J9:=J8.fp (fz.upd (lt zc)) b8;have up:∀b o,b≠z->c3.get? b=some o->g8.get? b=some o:=λ b o nb e=>b8.extBut _ _ nb (b7.extBut _ _ nb (Heap.get?_push_of_some _ e));refine wpAny_pure ⟨_,rfl,?_⟩;rw[sz] at J9 z8;show Q (.ref c3.objs.size) _;rw[sz];refine hQ g8 J9 z8 (up _ _ Nx (NP.extBut _ _ Ny (NK.extBut _ _ XQ (zX.extBut _ _ Ny (zy.extBut _ _ XM (xJ.extBut _ _ Ny (vJ.extBut _ _ XJ (b0.extBut _ _ Nx hTI)))))))) ⟨u1,u2,u3,up _ _ vI o3⟩ ?_ ?_ ?_
 ·exact sd1.of λ o e=>up _ _ zx (NP.extBut _ _ (Ne.symm Gf) (NK.extBut _ _ n13 (zX.extBut _ _ (Ne.symm Gf) (zy.extBut _ _ n12 (xJ.extBut _ _ (Ne.symm Gf) e)))))
 ·exact sd2.of λ o e=>up _ _ zW (NP.extBut _ _ (Ne.symm Dm) (NK.extBut _ _ n23 (zX.extBut _ _ (Ne.symm Dm) e)))
 ·exact sd3.of λ o e=>up _ _ Dl (NP.extBut _ _ (Ne.symm Dn) e)
theorem aaD {z TI TO i1 i2 i3 l1 l2 l3:Addr} {t1 t2 t3:Bool} {k:Nat} {xs1 xs2 JV:List V} {Q:Fin->Shared->Prop} (hh:A'.handled=none) (I:Inv X pins σ H s) (fz:FpOk X pins H z) (fO:FpOk X pins H TO) (f1:FpOk X pins H i1) (f2:FpOk X pins H i2) (f3:FpOk X pins H i3)
  (Nx:TI≠z) (vI:TO≠z) (Ny:TI≠TO) (zx:i1≠z) (zW:i2≠z) (Dl:i3≠z) (XJ:TI≠i1) (XM:TI≠i2) (XQ:TI≠i3) (Gf:TO≠i1) (Dm:TO≠i2) (Dn:TO≠i3) (n12:i1≠i2) (n13:i1≠i3) (n23:i2≠i3)
  (st:Z3 s.heap z TI TO i1 i2 i3 t1 t2 t3 l1 l2 l3 k) (q1:Sq t1 X.K H l1 xs1) (q2:Sq t2 X.K H l2 xs2) (q3:Sq t3 X.K H l3 JV) (en:xs1.length<=k\/xs2.length<=k\/JV.length<=k)
  (hE:∀h' e,Inv X pins σ H {s with heap:=h'}->(∃o,h'.get? e=some o/\o.cls= .type "StopIteration")->E (.ref e) {s with heap:=h'}):
  wpAny (model X.prog X.w) A' (Builtin.«zip.__next__» ⟨[.ref z],[]⟩) Q E s:=by
 obtain⟨hz,hTI,⟨a1,a2,a3,hTO⟩,h1,h2,h3⟩:=st;show wpAny _ _ (field (.ref z) 2 >>=_) _ _ _;refine wpAny_bind (wpAny_field hz rfl (x:= .bool false) rfl ?_);show wpAny _ _ (field (.ref z) 3 >>=_) _ _ _;refine wpAny_bind (wpAny_field hz rfl (x:= .ref TI) rfl ?_);refine wpAny_bind (wpAny_seqItems hTI rfl ?_);show wpAny _ _ (Builtin.SmallTypes.ownedTupleIsFree (.ref z) >>=_) _ _ _;refine wpAny_bind ?_;unfold Builtin.SmallTypes.ownedTupleIsFree;refine wpAny_bind (wpAny_field hz rfl (x:= .none) rfl (wpAny_pure ?_));simp only[if_true];refine wpAny_bind (wpAny_rule (wpAny_bind (wpAny_field hz rfl (x:= .ref TO) rfl ?_)));refine wpAny_bind (wpAny_setField_rec hz (by simp) λ c0 z0 b0=>?_)
 replace z0:IsZip c0 z TI TO .ellipsis:=z0
 have J0:=I.fp fz b0;refine wpAny_bind ?_;simp only[List.zipIdx_cons,List.zipIdx_nil,List.forIn_cons,List.forIn_nil];have leave:∀{g g':Heap} {e:Addr} {c:Addr},Inv X pins σ H {s with heap:=g}->IsZip g z TI TO .ellipsis->FpOk X pins H c->c≠z->Heap.ExtBut c g g'->(∃o,g'.get? e=some o/\o.cls= .type "StopIteration")->
   wpAny (model X.prog X.w) A' (setField (.ref z) 0 .none) (λ _ s'=>E (.ref e) s') E {s with heap:=g'}:=λ {g g' e c} Ig zg fc nc eb ⟨oe,hoe,hce⟩=>by
  have Xy:IsZip g' z TI TO .ellipsis:=eb _ _ (Ne.symm nc) zg;have hez:e≠z:=λ q=>by subst q;rw[Xy] at hoe;cases hoe;simp at hce
  have Ig':Inv X pins σ H {s with heap:=g'}:=Ig.fpE fc eb;exact wpAny_setField_rec Xy (by simp) λ g'' _ b''=>hE g'' e (Ig'.fp fz b'') ⟨oe,b''.extBut _ _ hez hoe,hce⟩
 obtain⟨Nz,r1,p1⟩:=J0.sq q1;refine wpAny_bind (wpAny_bind (wpAny_onRaise ?_));show wpAny _ _ (Builtin.SmallTypes.nextOf (.ref i1) >>=_) _ _ _;have h1':=h1.of (h':=c0) λ o e=>(b0.extBut _ _ zx e);by_cases hx1:xs1.length<=k
 ·exact wpAny_bind (pW hh h1' p1 (by have:=r1.length;simp;omega) λ g e eb ex=>leave J0 z0 f1 zx eb ex)
 ·obtain⟨u1,hu1,ru1⟩:=r1.get (i:=k) (x:=xs1[k]'(by omega)) (List.getElem?_eq_getElem (by omega));refine wpAny_bind (sO h1' p1 (v:=u1) (by simpa using hu1) λ d1 sd1 vJ=>wpAny_pure ?_);have Jd1:=J0.fp f1 vJ;have od1:iw d1 TO #[a1,a2,a3]:=vJ.extBut _ _ Gf (b0.extBut _ _ vI hTO);refine wpAny_bind (wpAny_seqItems od1 rfl (wpAny_bind (q8 od1 λ c1 o1 xJ=>wpAny_bind (wpAny_letGo (wpAny_pure ?_)))))
  replace o1:iw c1 TO #[u1,a2,a3]:=o1
  have J1:=Jd1.fp fO xJ;obtain⟨us2,r2,p2⟩:=J1.sq q2;refine wpAny_bind (wpAny_bind (wpAny_onRaise ?_));show wpAny _ _ (Builtin.SmallTypes.nextOf (.ref i2) >>=_) _ _ _;have h2':=h2.of (h':=c1) λ o e=>(xJ.extBut _ _ (Ne.symm Dm) (vJ.extBut _ _ (Ne.symm n12) (b0.extBut _ _ zW e)));by_cases hx2:xs2.length<=k
  ·exact wpAny_bind (pW hh h2' p2 (by have:=r2.length;simp;omega) λ g e eb ex=>leave J1 (xJ.extBut _ _ (Ne.symm vI) (vJ.extBut _ _ (Ne.symm zx) z0)) f2 zW eb ex)
  ·obtain⟨u2,hu2,ru2⟩:=r2.get (i:=k) (x:=xs2[k]'(by omega)) (List.getElem?_eq_getElem (by omega));refine wpAny_bind (sO h2' p2 (v:=u2) (by simpa using hu2) λ d2 sd2 zy=>wpAny_pure ?_);have Jd2:=J1.fp f2 zy;have od2:iw d2 TO #[u1,a2,a3]:=zy.extBut _ _ Dm o1;refine wpAny_bind (wpAny_seqItems od2 rfl (wpAny_bind (q8 od2 λ c2 o2 zX=>wpAny_bind (wpAny_letGo (wpAny_pure ?_)))))
   replace o2:iw c2 TO #[u1,u2,a3]:=o2
   have J2:=Jd2.fp fO zX;obtain⟨us3,r3,p3⟩:=J2.sq q3;refine wpAny_bind (wpAny_bind (wpAny_onRaise ?_));show wpAny _ _ (Builtin.SmallTypes.nextOf (.ref i3) >>=_) _ _ _;have h3':=h3.of (h':=c2) λ o e=>(zX.extBut _ _ (Ne.symm Dn) (zy.extBut _ _ (Ne.symm n23) (xJ.extBut _ _ (Ne.symm Dn) (vJ.extBut _ _ (Ne.symm n13) (b0.extBut _ _ Dl e)))));have hy3:JV.length<=k:=by omega
   exact wpAny_bind (pW hh h3' p3 (by have:=r3.length;simp;omega) λ g e eb ex=>leave J2 (zX.extBut _ _ (Ne.symm vI) (zy.extBut _ _ (Ne.symm zW) (xJ.extBut _ _ (Ne.symm vI) (vJ.extBut _ _ (Ne.symm zx) z0)))) f3 Dl eb ex)
end
theorem XR {P:Program} {w:World} {K:PySem.W.Frag} {sI:List Expr} {kk} {pp:Pos} {z TI TO i1 i2 i3 l1 l2 l3:Addr} {t1 t2 t3:Bool}
  (Nx:TI≠z) (vI:TO≠z) (Ny:TI≠TO) (zx:i1≠z) (zW:i2≠z) (Dl:i3≠z) (XJ:TI≠i1) (XM:TI≠i2) (XQ:TI≠i3) (Gf:TO≠i1) (Dm:TO≠i2) (Dn:TO≠i3) (n12:i1≠i2) (n13:i1≠i3) (n23:i2≠i3):
  Turn P w K (.Tuple sI kk pp) (aaz K t1 l1 t2 l2 t3 l3) [z,TI,TO,i1,i2,i3] z (λ i h=>Z3 h z TI TO i1 i2 i3 t1 t2 t3 l1 l2 l3 i) where
 mem:=by simp
 obj:=λ i h st b hb=>by
  obtain⟨hz,hTI,⟨x,y,v,hTO⟩,h1,h2,h3⟩:=st;simp only[List.mem_cons,List.not_mem_nil,or_false] at hb;rcases hb with rfl |rfl |rfl |rfl |rfl |rfl
  ·exact⟨_,hz,λ v q=>by have q':Data.fields _=Data.cell v:=q;cases q'⟩
  ·exact⟨_,hTI,λ v q=>by have q':Data.seq _=Data.cell v:=q;cases q'⟩
  ·exact⟨_,hTO,λ v q=>by have q':Data.seq _=Data.cell v:=q;cases q'⟩
  ·exact h1.obj
  ·exact h2.obj
  ·exact h3.obj
 keep:=λ i h h' st k=>by
  obtain⟨hz,hTI,⟨x,y,v,hTO⟩,h1,h2,h3⟩:=st;exact⟨k _ (by simp) _ hz,k _ (by simp) _ hTI,⟨x,y,v,k _ (by simp) _ hTO⟩,h1.of λ o e=>k _ (by simp) o e,h2.of λ o e=>k _ (by simp) o e,h3.of λ o e=>k _ (by simp) o e⟩
 item :=by
  intro X hP hw hK hc i pins s σ H E I hf st hg;subst hP hw hK;obtain⟨xs1,xs2,JV,x1,x2,x3,q1,e1,q2,e2,q3,e3⟩:=hg;have hT:s.TypeIs (.ref z) "zip" :=⟨_,st.z,rfl⟩;unfold pyNext;refine wpAny_bind (wpAny_attempt (wpAny_callSpecial?_slot (name:=Str.ofString "__next__") hT F.slot_zip_next (wpAny_call_entry F.slot_zip_next hT F.entry_zip_next
   (XH I (hf z (by simp)) (hf TO (by simp)) (hf i1 (by simp)) (hf i2 (by simp)) (hf i3 (by simp)) Nx vI Ny zx zW Dl XJ XM XQ Gf Dm Dn n12 n13 n23 st q1 q2 q3 e1 e2 e3 λ h' I' z' ti' Nv s1' s2' s3'=>wpAny_pure ⟨_,rfl,?_⟩) (F.args_zip_next_1 _))))
  have hp:H s.heap.objs.size=none:=I.hok.fresh (Nat.le_refl _);have nz:∀b,b∈[z,TI,TO,i1,i2,i3]->b≠s.heap.objs.size:=λ b hb q=>by
   obtain⟨o,e,_⟩:∃o,s.heap.get? b=some o/\True:=by
    obtain⟨hz,hTI,⟨x,y,v,hTO⟩,h1,h2,h3⟩:=st;simp only[List.mem_cons,List.not_mem_nil,or_false] at hb;rcases hb with rfl |rfl |rfl |rfl |rfl |rfl
    ·exact⟨_,hz,trivial⟩
    ·exact⟨_,hTI,trivial⟩
    ·exact⟨_,hTO,trivial⟩
    ·obtain⟨o,e,_⟩:=h1.obj;exact⟨o,e,trivial⟩
    ·obtain⟨o,e,_⟩:=h2.obj;exact⟨o,e,trivial⟩
    ·obtain⟨o,e,_⟩:=h3.obj;exact⟨o,e,trivial⟩
   exact absurd (Heap.lt_size e) (by rw[q];exact Nat.lt_irrefl _)
  refine wpAny_letOwnedTupleGo_zip z' λ h'' z'' b''=>⟨.ref s.heap.objs.size,upd H s.heap.objs.size (.tup [x1,x2,x3]),I'.fp ((hf z (by simp)).upd (nz z (by simp))) b'',rfl,⟨_,x1,x2,x3,hp,rfl,rfl,λ xs' q=>by rw[I.xu q q1];exact e1,λ xs' q=>by rw[I.xu q q2];exact e2,λ xs' q=>by rw[I.xu q q3];exact e3⟩,?_,λ b hb=>?_⟩
  ·obtain⟨a,b,c,Nv⟩:=Nv;exact⟨z'',b''.extBut _ _ Nx ti',⟨a,b,c,b''.extBut _ _ vI Nv⟩,s1'.of λ o e=>b''.extBut _ _ zx e,s2'.of λ o e=>b''.extBut _ _ zW e,s3'.of λ o e=>b''.extBut _ _ Dl e⟩
  ·rw[upd_ne (nz b hb)];exact (hf b hb).1
 done:=by
  intro X hP hw hK hc i pins s σ H E I hf st hg;subst hP hw hK;obtain⟨xs1,xs2,JV,q1,q2,q3,en⟩:=hg;have hT:s.TypeIs (.ref z) "zip" :=⟨_,st.z,rfl⟩;unfold pyNext;refine wpAny_bind (wpAny_attempt (wpAny_callSpecial?_slot (name:=Str.ofString "__next__") hT F.slot_zip_next (wpAny_call_entry F.slot_zip_next hT F.entry_zip_next
   (aaD (I.ok.hd hc) I (hf z (by simp)) (hf TO (by simp)) (hf i1 (by simp)) (hf i2 (by simp)) (hf i3 (by simp)) Nx vI Ny zx zW Dl XJ XM XQ Gf Dm Dn n12 n13 n23 st q1 q2 q3 en λ h' e I' ex=>?_) (F.args_zip_next_1 _))))
  obtain⟨o,ho,ec⟩:=ex;exact wpAny_bind (wpAny_isInstance (T:= "StopIteration") (b:=true) ⟨o,ho,ec⟩ isSubtype_stop (wpAny_pure ⟨rfl,I'⟩))
 self:=λ _ _ _ _ _ st h=>wpAny_pyIter_zip st.z h
theorem Ih (a b c:Value):checkTypeCall "zip" ⟨[a,b,c],[]⟩=pure ():=by kernel_rfl
theorem Le (a b c:Value):checkBuiltinCall "zip.__new__" ⟨[.type "zip",a,b,c],[]⟩=pure ():=by kernel_rfl
theorem ab8 (a b c d:Value):argsOk "object.__init__" ⟨[a,b,c,d],[]⟩:=by
 unfold argsOk;rw[signature?_of (id:= "object.__init__") (n:=['_','_','t','i','n','i','_','_']) (o:=['t','c','e','j','b','o']) (by kernel_rfl) F.owner_object];kernel_rfl
noncomputable abbrev XS (h:Heap) (t1:Bool) (l1:Addr):Heap:=h.push (itR t1 l1)
noncomputable abbrev X3 (h:Heap) (t1:Bool) (l1:Addr) (t2:Bool) (l2:Addr):Heap:=(XS h t1 l1).push (itR t2 l2)
noncomputable abbrev zB3 (h:Heap) (t1:Bool) (l1:Addr) (t2:Bool) (l2:Addr) (t3:Bool) (l3:Addr):Heap:=(X3 h t1 l1 t2 l2).push (itR t3 l3)
noncomputable abbrev zB4 (h:Heap) (t1:Bool) (l1:Addr) (t2:Bool) (l2:Addr) (t3:Bool) (l3:Addr):Heap:=(zB3 h t1 l1 t2 l2 t3 l3).push {cls:= .type "tuple",data:= .seq #[.ref h.objs.size,.ref (XS h t1 l1).objs.size,.ref (X3 h t1 l1 t2 l2).objs.size]}
noncomputable abbrev zB5 (h:Heap) (t1:Bool) (l1:Addr) (t2:Bool) (l2:Addr) (t3:Bool) (l3:Addr):Heap:=(zB4 h t1 l1 t2 l2 t3 l3).push {cls:= .type "tuple",data:= .seq #[.none,.none,.none]}
noncomputable abbrev NQ (h:Heap) (t1:Bool) (l1:Addr) (t2:Bool) (l2:Addr) (t3:Bool) (l3:Addr):Heap:=(zB5 h t1 l1 t2 l2 t3 l3).push {cls:= .type "zip",data:= .fields #[.none,.bool false,.bool false,.ref (zB3 h t1 l1 t2 l2 t3 l3).objs.size,.ref (zB4 h t1 l1 t2 l2 t3 l3).objs.size]}
theorem Vk (t1:Bool) (l1:Addr) (t2:Bool) (l2:Addr) (t3:Bool) (l3:Addr) (xs ys zs:Array Value):Meets (Builtin.«zip.__new__» ⟨[.type "zip",.ref l1,.ref l2,.ref l3],[]⟩)
  (λ _ R s=>jO t1 s.heap l1 xs/\jO t2 s.heap l2 ys/\jO t3 s.heap l3 zs/\R (.ok (.ret (.ref (zB5 s.heap t1 l1 t2 l2 t3 l3).objs.size))) {s with heap:=NQ s.heap t1 l1 t2 l2 t3 l3}):=
 .of_wp λ prog w A R s h=>by
  obtain⟨hp,g,d,tk,os⟩:=s;obtain⟨k1,k2,k3,h⟩:=h;have hsub:=sub_zip;have L1:jO t1 (Shared.heap ⟨hp,g,d,tk,os⟩) l1 xs:=k1;have L2:jO t2 (Shared.heap ⟨XS hp t1 l1,g,d,tk,os⟩) l2 ys:=k2.of λ o e=>Heap.get?_push_of_some _ e;have L3:jO t3 (Shared.heap ⟨X3 hp t1 l1 t2 l2,g,d,tk,os⟩) l3 zs:=k3.of λ o e=>Heap.get?_push_of_some _ (Heap.get?_push_of_some _ e)
  wp_walk using vH L1,vH L2,vH L3
  exact⟨_,rfl,h⟩
section
variable {prog:Program} {w:World} {A:Around} {E:Value->Shared->Prop} {s:Shared}
theorem X4 {t1 t2 t3:Bool} {l1 l2 l3:Addr} {xs ys zs:Array Value} {Q:Value->Shared->Prop} (k1:jO t1 s.heap l1 xs) (k2:jO t2 s.heap l2 ys) (k3:jO t3 s.heap l3 zs)
  (h:∀h',Z3 h' (s.heap.objs.size+5) (s.heap.objs.size+3) (s.heap.objs.size+4) s.heap.objs.size (s.heap.objs.size+1) (s.heap.objs.size+2) t1 t2 t3 l1 l2 l3 0->(∀c o,s.heap.get? c=some o->h'.get? c=some o)->Q (.ref (s.heap.objs.size+5)) {s with heap:=h'}):
  wpAny (model prog w) A (call (.type "zip") [.ref l1,.ref l2,.ref l3]) Q E s:=by
 refine callType_new F.called_zip (by decide) (Ih _ _ _) (Le _ _ _) (λ obj=>ab8 obj _ _ _) F.entry_zip_new (Vk t1 l1 t2 l2 t3 l3 xs ys zs) ⟨k1,k2,k3,?_⟩;have z1:(XS s.heap t1 l1).objs.size=s.heap.objs.size+1:=Heap.size_push ..;have z2:(X3 s.heap t1 l1 t2 l2).objs.size=s.heap.objs.size+2:=by rw[Heap.size_push,z1]
 have z3:(zB3 s.heap t1 l1 t2 l2 t3 l3).objs.size=s.heap.objs.size+3:=by rw[Heap.size_push,z2]
 have z4:(zB4 s.heap t1 l1 t2 l2 t3 l3).objs.size=s.heap.objs.size+4:=by rw[Heap.size_push,z3]
 have z5:(zB5 s.heap t1 l1 t2 l2 t3 l3).objs.size=s.heap.objs.size+5:=by rw[Heap.size_push,z4]
 have a6:(NQ s.heap t1 l1 t2 l2 t3 l3).get? (zB5 s.heap t1 l1 t2 l2 t3 l3).objs.size=some _:=Heap.get?_push_size _ rfl;have a5:(NQ s.heap t1 l1 t2 l2 t3 l3).get? (zB4 s.heap t1 l1 t2 l2 t3 l3).objs.size=some _:=Heap.get?_push_of_some _ (Heap.get?_push_size _ rfl);have a4:(NQ s.heap t1 l1 t2 l2 t3 l3).get? (zB3 s.heap t1 l1 t2 l2 t3 l3).objs.size=some _:=Heap.get?_push_of_some _ (Heap.get?_push_of_some _ (Heap.get?_push_size _ rfl));have a3:(NQ s.heap t1 l1 t2 l2 t3 l3).get? (X3 s.heap t1 l1 t2 l2).objs.size=some (itR t3 l3):=Heap.get?_push_of_some _ (Heap.get?_push_of_some _ (Heap.get?_push_of_some _ (Heap.get?_push_size _ rfl)));have a2:(NQ s.heap t1 l1 t2 l2 t3 l3).get? (XS s.heap t1 l1).objs.size=some (itR t2 l2):=Heap.get?_push_of_some _ (Heap.get?_push_of_some _ (Heap.get?_push_of_some _ (Heap.get?_push_of_some _ (Heap.get?_push_size _ rfl))));have a1:(NQ s.heap t1 l1 t2 l2 t3 l3).get? s.heap.objs.size=some (itR t1 l1):=Heap.get?_push_of_some _ (Heap.get?_push_of_some _ (Heap.get?_push_of_some _ (Heap.get?_push_of_some _ (Heap.get?_push_of_some _ (Heap.get?_push_size _ rfl)))));show _/\_;rw[z3,z4,z5] at a6;rw[z4] at a5;rw[z1,z2,z3] at a4;rw[z2] at a3;rw[z1] at a2;rw[z5];exact⟨⟨_,a6,rfl⟩,h _ ⟨a6,a4,⟨_,_,_,a5⟩,.new a1,.new a2,.new a3⟩ λ c o e=>Heap.get?_push_of_some _ (Heap.get?_push_of_some _ (Heap.get?_push_of_some _ (Heap.get?_push_of_some _ (Heap.get?_push_of_some _ (Heap.get?_push_of_some _ e)))))⟩
end
section
variable {X:Cx} {sI:List Expr} {kk:Nat} {pp:Pos} {a b c:Expr} {p pos:Pos}
noncomputable def afB (K:PySem.W.Frag) (ta:TA):TI:=λ σ H R=>ta σ H λ vs H1=>∃t1 l1 t2 l2 t3 l3,vs=[.ref l1,.ref l2,.ref l3]/\(∃xs,Sq t1 K H1 l1 xs)/\(∃ys,Sq t2 K H1 l2 ys)/\(∃zs,Sq t3 K H1 l3 zs)/\R (aaz K t1 l1 t2 l2 t3 l3) H1
theorem ab9 {ta:TA} (hg:Gl X "zip") (hm:X.mg "zip" =none) (ha:PA X [a,b,c] ta) (he:starEach [a,b,c] X.env=(false,eval a X.env)::starEach [b,c] X.env:=by rfl) (hpl:(backTo pos (starEach [b,c] X.env)).any (·.1)=false:=by rfl):
    PI X (.Tuple sI kk pp) (.Call (.Name "zip" p) [a,b,c] [] pos) (afB X.K ta):=by
  intro pins s σ H R I h
  refine Call_ (ld_blt I hg hm XF (PyProof.Rows.callWith_type1 (thn (ha pos pins s σ H _ I h) fun us s1 ⟨vs,H1,I1,r1,q1⟩=>?_) he hpl))
  obtain⟨t1,l1,t2,l2,t3,l3,e,⟨xs,w1⟩,⟨ys,w2⟩,⟨zs,w3⟩,q⟩:=q1
  subst e
  cases r1 with
  | cons r rr=>
    cases rr with
    | cons r' rr=>
      cases rr with
      | cons r'' rr=>
        cases rr
        cases r
        cases r'
        cases r''
        obtain⟨vs1,_,p1⟩:=I1.sq w1
        obtain⟨vs2,_,p2⟩:=I1.sq w2
        obtain⟨vs3,_,p3⟩:=I1.sq w3
        refine X4 p1 p2 p3 fun h' st k=>wpAny_pyIter_zip st.z ⟨s1.heap.objs.size+5,[s1.heap.objs.size+5,s1.heap.objs.size+3,s1.heap.objs.size+4,s1.heap.objs.size,s1.heap.objs.size+1,s1.heap.objs.size+2],_,_,H1,rfl,I1.kept (t':=s1.toks) k,XR ?_ ?_ ?_ ?_ ?_ ?_ ?_ ?_ ?_ ?_ ?_ ?_ ?_ ?_ ?_,st,fun c hc=>(by
        have hle:s1.heap.objs.size≤c:=by
          simp only[List.mem_cons,List.not_mem_nil,or_false] at hc
          rcases hc with rfl |rfl |rfl |rfl |rfl |rfl <;> first |exact Nat.le_refl _ |exact Nat.le_add_right _ _
        exact I1.fpOk hle (I1.hok.fresh hle)),q⟩
        all_goals (show @Ne Nat _ _;omega)
end
section
variable {K:PySem.W.Frag} {O:Addr->Prop} {H:Hp}
theorem aU.three {d e f:D} {xs:List V} (r:aU K O H [d,e,f] xs):∃x y z,xs=[x,y,z]/\Rep K O H d x/\Rep K O H e y/\Rep K O H f z:=by
 obtain⟨x,t,rfl,h1,h2⟩:=r.cons_inv;obtain⟨y,z,rfl,h3,h4⟩:=h2.two;exact⟨x,y,z,rfl,h1,h3,h4⟩
theorem X5 {xs ys zs:List D} {i:Nat} {d:D} (h:(CP xs ys zs)[i]?=some d):∃x y z,xs[i]?=some x/\ys[i]?=some y/\zs[i]?=some z/\d= .tup [x,y,z]:=by
 unfold CP at h;rw[List.getElem?_map] at h;cases e:(xs.zip (ys.zip zs))[i]? with
 |none=>rw[e] at h;cases h
 | some p=>
  rw[e] at h;cases h;obtain⟨h1,h2⟩:=List.getElem?_zip_eq_some.mp e;obtain⟨h3,h4⟩:=List.getElem?_zip_eq_some.mp h2;exact⟨_,_,_,h1,h3,h4,rfl⟩
theorem YR.zV {t1 t2 t3:Bool} {a1 a2 a3:Addr} {xs ys zs:List D} (s1:Src K O H t1 a1 xs) (s2:Src K O H t2 a2 ys) (s3:Src K O H t3 a3 zs):YR K O H (aaz K t1 a1 t2 a2 t3 a3) (CP xs ys zs):=by
 intro O' H' q i;obtain⟨v1,q1,r1⟩:=s1.go q;obtain⟨v2,q2,r2⟩:=s2.go q;obtain⟨v3,q3,r3⟩:=s3.go q;refine⟨λ d e=>?_,λ e=>⟨v1,v2,v3,q1,q2,q3,?_⟩⟩
 ·obtain⟨x,y,z,e1,e2,e3,rfl⟩:=X5 e;obtain⟨u1,g1,w1⟩:=r1.get e1;obtain⟨u2,g2,w2⟩:=r2.get e2;obtain⟨u3,g3,w3⟩:=r3.get e3;refine⟨⟨v1,v2,v3,u1,u2,u3,q1,g1,q2,g2,q3,g3⟩,λ x H2 y=>?_⟩;obtain⟨p,x1,x2,x3,hp,rfl,rfl,k1,k2,k3⟩:=y;have k1:=k1 _ q1;have k2:=k2 _ q2;have k3:=k3 _ q3;rw[g1] at k1;cases k1;rw[g2] at k2;cases k2;rw[g3] at k3;cases k3;exact⟨Same.upd hp,gU (SqT.of upd_same) ((aU.cons w1 (.cons w2 (.cons w3 .nil))).same (Same.upd hp))⟩
 ·rw[<-r1.length,<-r2.length,<-r3.length];simp only[CP,List.length_map,List.length_zip] at e;omega
end
section
variable {X:Cx} {sI:List Expr} {kk:Nat} {pp:Pos} {a b c:Expr} {p pos:Pos} {fa:aA->R (List D)}
theorem qI {x:D} {c:Str} (h:dD x= .err c):False:=by cases x <;> cases h
theorem acd (hg:Gl X "zip") (hm:X.mg "zip" =none) (ha:DA X [a,b,c] fa) (he:starEach [a,b,c] X.env=(false,eval a X.env)::starEach [b,c] X.env:=by rfl) (hpl:(backTo pos (starEach [b,c] X.env)).any (·.1)=false:=by rfl):
  DI X (.Tuple sI kk pp) (.Call (.Name "zip" p) [a,b,c] [] pos) (λ ρ=>(fa ρ).bind zV):=by
 refine PI.imp (ab9 hg hm ha he hpl) λ σ H Q q=>?_;obtain⟨ρ,O,j,q⟩:=q;refine go j q λ ds vs H1 e1 s1 r1 j1 h1=>?_;unfold zV at h1;split at h1
 ·rename_i x y z;obtain⟨v1,v2,v3,rfl,w1,w2,w3⟩:=r1.three;cases ex:dD x with
  |bad=>rw[ex] at h1;exact h1.elim
  |err c=>exact (qI ex).elim
  | ok xs=>
   cases ey:dD y with
   |bad=>rw[ex,R.bh,ey] at h1;exact h1.elim
   |err c=>exact (qI ey).elim
   | ok ys=>
    cases ez:dD z with
    |bad=>rw[ex,R.bh,ey,R.bh,ez] at h1;exact h1.elim
    |err c=>exact (qI ez).elim
    | ok zs=>
     rw[ex,R.bh,ey,R.bh,ez,R.bh] at h1;obtain⟨t1,a1,rfl,c1⟩:=xG w1 ex;obtain⟨t2,a2,rfl,c2⟩:=xG w2 ey;obtain⟨t3,a3,rfl,c3⟩:=xG w3 ez;obtain⟨vs1,k1,_⟩:=c1.ex;obtain⟨vs2,k2,_⟩:=c2.ex;obtain⟨vs3,k3,_⟩:=c3.ex;exact⟨t1,a1,t2,a2,t3,a3,rfl,⟨vs1,k1⟩,⟨vs2,k2⟩,⟨vs3,k3⟩,fin h1 (YR.zV c1 c2 c3)⟩
 ·exact h1.elim
end
section
variable {X:Cx}
theorem T7:∀{ns:List Int} {its:List Value},Vals (ns.map V.int) its->IntsAre its ns
 |[],_,r=>by cases r;exact .nil
 | n::ns,_,r=>by
  cases r with
  |cons h t=>obtain⟨tk,rfl⟩:=h;exact .cons n tk (T7 t)
theorem JW {K:PySem.W.Frag} {O:Addr->Prop} {H:Hp}:∀{ds:List D} {ns:List Int} {vs:List V},intsOf ds=some ns->aU K O H ds vs->vs=ns.map V.int
 |[],ns,vs,e,r=>by cases e;exact r.nil_inv
 | d ::ds,ns,vs,e,r=>by
  obtain⟨x,t,rfl,h1,h2⟩:=r.cons_inv;cases d with
  | int i=>
   have e:(intsOf ds).map (i:: ·)=some ns:=e;cases q:intsOf ds with
   |none=>rw[q] at e;cases e
   |some l=>rw[q] at e;cases e;rw[h1.int,JW q h2];rfl
  |_=>cases e
theorem zY {K:PySem.W.Frag} {O:Addr->Prop} {H:Hp}:∀{ns:List Int},aU K O H (ns.map D.int) (ns.map V.int)
 |[]=> .nil
 |_::_=> .cons (cJ _) zY
variable {pos:Pos}
end
noncomputable def Ite (K:PySem.W.Frag) (t:Bool) (l:Addr):It:=
 ⟨λ i H=>∃xs x,Sq t K H l xs/\xs[i]?=some x,
  λ i H v H'=>∃p x,H p=none/\v= .ref p/\H'=upd H p (.tup [.int (i:Int),x])/\∀xs,Sq t K H l xs->xs[i]?=some x,
  λ i H=>∃xs,Sq t K H l xs/\xs.length<=i⟩
section
variable {X:Cx} {pins:List (Addr×Obj)} {σ:St} {H:Hp} {s:Shared} {A':Around} {E:Value->Shared->Prop}
theorem X6 {e it l:Addr} {t:Bool} {k:Nat} {xs:List V} {x:V} {old:Value} {Q:Value->Shared->Prop} (I:Inv X pins σ H s) (fe:FpOk X pins H e) (fi:FpOk X pins H it) (ne:e≠it)
  (he:IsEnum s.heap e it k old) (hs:jN t s.heap it l k) (q:Sq t X.K H l xs) (ex:xs[k]?=some x)
  (hQ:∀h' u,Inv X pins σ (upd H s.heap.objs.size (.tup [.int (k:Int),x])) {s with heap:=h',toks:=s.toks+1}->IsEnumOut h' e it ((k:Int)+1) u s.heap.objs.size->jN t h' it l (k+1)->Q (.ref s.heap.objs.size) {s with heap:=h',toks:=s.toks+1}):
  wpAny (model X.prog X.w) A' (Builtin.«enumerate.__next__» ⟨[.ref e],[]⟩) (λ fin s'=>∃v,fin= .done (.ret v)/\Q v s') E s:=by
 obtain⟨us,r1,p1⟩:=I.sq q;obtain⟨u,hu,ru⟩:=r1.get ex;obtain⟨hp,g,d,tk,os⟩:=s;show wpAny _ _ (field (.ref e) 2 >>=_) _ _ _;refine wpAny_bind (wpAny_field he rfl (x:= .ref it) rfl ?_);refine wpAny_bind (sO hs p1 (v:=u) (by simpa using hu) λ g1 s1 b1=>?_);have I1:=I.fp fi b1
 replace b1:Heap.SameBut it hp g1:=b1
 have e1:IsEnum g1 e it k old:=(b1.2 e ne).trans he;show wpAny _ _ (field (.ref e) 3 >>=_) _ _ ⟨g1,g,d,tk,os⟩;refine wpAny_bind (wpAny_field e1 rfl (x:=rawInt k) rfl ?_);show wpAny _ _ (field (.ref e) 4 >>=_) _ _ ⟨g1,g,d,tk,os⟩;refine wpAny_bind (wpAny_field e1 rfl (x:= .none) rfl ?_);show wpAny _ _ (mkInt k >>=_) _ _ ⟨g1,g,d,tk,os⟩;refine wpAny_bind (wpAny_mkInt ?_);have I1':Inv X pins σ H ⟨g1,g,d,tk+1,os⟩:=Inv.tok (s:=⟨g1,g,d,tk,os⟩) I1 (tk+1);show wpAny _ _ (setField (.ref e) 3 (rawInt ((k:Int)+1)) >>=_) _ _ ⟨g1,g,d,tk+1,os⟩;refine wpAny_bind (wpAny_setField_rec e1 (by simp) λ g2 e2 b2=>?_);have I2:=I1'.fp fe b2
 replace b2:Heap.SameBut e g1 g2:=b2
 replace e2:IsEnum g2 e it ((k:Int)+1) old:=e2
 show wpAny _ _ (setField (.ref e) 4 .none >>=_) _ _ ⟨g2,g,d,tk+1,os⟩;refine wpAny_bind (wpAny_setField_rec e2 (by simp) λ g3 e3 b3=>?_);have I3:=I2.fp fe b3
 replace b3:Heap.SameBut e g2 g3:=b3
 replace e3:IsEnum g3 e it ((k:Int)+1) old:=e3
 show wpAny _ _ (newTuple [.int k tk,u] >>=_) _ _ ⟨g3,g,d,tk+1,os⟩;refine wpAny_bind (wpAny_newTuple ?_);have sz:g3.objs.size=hp.objs.size:=by rw[b3.1,b2.1,b1.1]
 have lt:e≠g3.objs.size:=Nat.ne_of_lt (Heap.lt_size e3);have I4:Inv X pins σ (upd H g3.objs.size (.tup [.int (k:Int),x])) ⟨g3.push {cls:= .type "tuple",data:= .seq #[.int k tk,u]},g,d,tk+1,os⟩:=
  Inv.laid (s:=⟨g3,g,d,tk+1,os⟩) (t':=tk+1) I3 (λ b u e=>Heap.get?_push_of_some _ e) (Nat.le_refl _) ⟨Xw,[.int k tk,u],.cons ⟨tk,rfl⟩ (.cons ru .nil),⟨_,Heap.get?_push_size _ rfl,rfl,_,rfl⟩⟩
 have e4:IsEnum (g3.push {cls:= .type "tuple",data:= .seq #[.int k tk,u]}) e it ((k:Int)+1) old:=Heap.get?_push_of_some _ e3;have s4:jN t (g3.push {cls:= .type "tuple",data:= .seq #[.int k tk,u]}) it l (k+1):=s1.of λ o z=>Heap.get?_push_of_some _ (b3.extBut _ _ (Ne.symm ne) (b2.extBut _ _ (Ne.symm ne) z));show wpAny _ _ (Builtin.SmallTypes.ownedTupleIsFree (.ref e) >>=_) _ _ ⟨g3.push {cls:= .type "tuple",data:= .seq #[.int k tk,u]},g,d,tk+1,os⟩
 generalize g3.push {cls:= .type "tuple",data:= .seq #[.int k tk,u]}=g4 at *
 refine wpAny_bind ?_;unfold Builtin.SmallTypes.ownedTupleIsFree;refine wpAny_bind (wpAny_field e4 rfl (x:= .none) rfl (wpAny_pure ?_));simp only[if_true];refine wpAny_bind (wpAny_rule (wpAny_bind (wpAny_field e4 rfl (x:=old) rfl ?_)));refine wpAny_bind (wpAny_setField_rec e4 (by simp) λ g5 e5 b5=>?_);have I5:=I4.fp (fe.upd lt) b5
 replace b5:Heap.SameBut e g4 g5:=b5
 replace e5:IsEnum g5 e it ((k:Int)+1) u:=e5
 show wpAny _ _ (Builtin.SmallTypes.ownedTupleHandOut (.ref e) (.ref g3.objs.size) >>=_) _ _ ⟨g5,g,d,tk+1,os⟩;refine wpAny_bind ?_;unfold Builtin.SmallTypes.ownedTupleHandOut;refine wpAny_bind (wpAny_setField_rec e5 (by simp) λ g6 e6 b6=>?_);have I6:=I5.fp (fe.upd lt) b6
 replace b6:Heap.SameBut e g5 g6:=b6
 replace e6:IsEnumOut g6 e it ((k:Int)+1) u g3.objs.size:=e6
 refine wpAny_setField_rec e6 (by simp) λ g7 e7 b7=>?_;have I7:=I6.fp (fe.upd lt) b7
 replace b7:Heap.SameBut e g6 g7:=b7
 replace e7:IsEnumOut g7 e it ((k:Int)+1) u g3.objs.size:=e7
 refine wpAny_bind (wpAny_letGo (wpAny_pure ⟨_,rfl,?_⟩));rw[sz] at I7 e7;show Q (.ref g3.objs.size) _;rw[sz];exact hQ g7 u I7 e7 (s4.of λ o z=>b7.extBut _ _ (Ne.symm ne) (b6.extBut _ _ (Ne.symm ne) (b5.extBut _ _ (Ne.symm ne) z)))
end
theorem X7 {P:Program} {w:World} {K:PySem.W.Frag} {sI:List Expr} {kk} {pp:Pos} {e it l:Addr} {t:Bool} (ne:e≠it):
  Turn P w K (.Tuple sI kk pp) (Ite K t l) [e,it] e (λ i h=>(∃old,IsEnum h e it i old)/\jN t h it l i) where
 mem:=by simp
 obj:=λ i h st b hb=>by
  obtain⟨⟨old,he⟩,hs⟩:=st;simp only[List.mem_cons,List.not_mem_nil,or_false] at hb;rcases hb with rfl |rfl
  ·exact⟨_,he,λ v q=>by have q':Data.fields _=Data.cell v:=q;cases q'⟩
  ·exact hs.obj
 keep:=λ i h h' st k=>by
  obtain⟨⟨old,he⟩,hs⟩:=st;exact⟨⟨old,k _ (by simp) _ he⟩,hs.of λ o z=>k _ (by simp) o z⟩
 item :=by
  intro X hP hw hK hc i pins s σ H E I hf st hg;subst hP hw hK;obtain⟨⟨old,he⟩,hs⟩:=st;obtain⟨xs,x,q,ex⟩:=hg;have hT:s.TypeIs (.ref e) "enumerate" :=⟨_,he,rfl⟩;have hp:H s.heap.objs.size=none:=I.hok.fresh (Nat.le_refl _);have nz:∀b,b∈[e,it]->b≠s.heap.objs.size:=λ b hb z=>by
   obtain⟨o,eo⟩:∃o,s.heap.get? b=some o:=by
    simp only[List.mem_cons,List.not_mem_nil,or_false] at hb;rcases hb with rfl |rfl
    ·exact⟨_,he⟩
    ·obtain⟨o,eo,_⟩:=hs.obj;exact⟨o,eo⟩
   exact absurd (Heap.lt_size eo) (by rw[z];exact Nat.lt_irrefl _)
  unfold pyNext;refine wpAny_bind (wpAny_attempt (wpAny_callSpecial?_slot (name:=Str.ofString "__next__") hT F.slot_enumerate_next (wpAny_call_entry F.slot_enumerate_next hT F.entry_enumerate_next
   (X6 I (hf e (by simp)) (hf it (by simp)) ne he hs q ex λ h' u I' e' s'=>wpAny_pure ⟨_,rfl,?_⟩) (F.args_enumerate_next_1 _))))
  refine wpAny_letOwnedTupleGo_enum e' λ h'' e'' b''=>⟨.ref s.heap.objs.size,upd H s.heap.objs.size (.tup [.int (i:Int),x]),I'.fp ((hf e (by simp)).upd (nz e (by simp))) b'',rfl,⟨_,x,hp,rfl,rfl,λ xs' q'=>by rw[I.xu q' q];exact ex⟩,⟨⟨u,by simpa using e''⟩,s'.of λ o z=>b''.extBut _ _ (Ne.symm ne) z⟩,λ b hb=>?_⟩;rw[upd_ne (nz b hb)];exact (hf b hb).1
 done:=by
  intro X hP hw hK hc i pins s σ H E I hf st hg;subst hP hw hK;obtain⟨⟨old,he⟩,hs⟩:=st;obtain⟨xs,q,en⟩:=hg;obtain⟨us,r1,p1⟩:=I.sq q;have hT:s.TypeIs (.ref e) "enumerate" :=⟨_,he,rfl⟩;unfold pyNext;refine wpAny_bind (wpAny_attempt (wpAny_callSpecial?_slot (name:=Str.ofString "__next__") hT F.slot_enumerate_next (wpAny_call_entry F.slot_enumerate_next hT F.entry_enumerate_next ?_ (F.args_enumerate_next_1 _))));show wpAny _ _ (field (.ref e) 2 >>=_) _ _ _;refine wpAny_bind (wpAny_field he rfl (x:= .ref it) rfl ?_);refine wpAny_bind (pW (I.ok.hd hc) hs p1 (by have:=r1.length;simp;omega) λ g1 x eb bM=>?_);obtain⟨o,ho,ec⟩:=bM;exact wpAny_bind (wpAny_isInstance (T:= "StopIteration") (b:=true) ⟨o,ho,ec⟩ isSubtype_stop (wpAny_pure ⟨rfl,I.fpE (hf it (by simp)) eb⟩))
 self:=λ _ _ _ _ _ st h=>by
  obtain⟨⟨old,he⟩,_⟩:=st;exact wpAny_pyIter_enum he h
theorem Rv (t:Bool) (l:Addr) (xs:Array Value):Meets (Builtin.«enumerate.__new__» ⟨[.type "enumerate",.ref l],[]⟩)
  (λ _ R s=>jO t s.heap l xs/\R (.ok (.ret (.ref (s.heap.push (itR t l)).objs.size))) {s with heap:=(s.heap.push (itR t l)).push {cls:= .type "enumerate",data:= .fields #[.none,.bool false,.ref s.heap.objs.size,rawInt 0,.none,.none]}}):=
 .of_wp λ prog w A R s h=>by
  obtain⟨hp,g,d,tk,os⟩:=s;obtain⟨k1,h⟩:=h;have hsub:=sub_enumerate;have L1:jO t (Shared.heap ⟨hp,g,d,tk,os⟩) l xs:=k1
  wp_walk using vH L1
  refine wpAny_stack_any λ st=>wpAny_pure ?_;split
  ·rename_i c _ _ _ _ _;cases (c ==Value.type "enumerate") <;> (wp_walk using vH L1;exact⟨_,rfl,h⟩)
  ·wp_walk using vH L1
   exact⟨_,rfl,h⟩
section
variable {prog:Program} {w:World} {A:Around} {E:Value->Shared->Prop} {s:Shared}
theorem Vl {t:Bool} {l:Addr} {xs:Array Value} {Q:Value->Shared->Prop} (k1:jO t s.heap l xs)
  (h:∀h',IsEnum h' (s.heap.objs.size+1) s.heap.objs.size 0 .none->jN t h' s.heap.objs.size l 0->(∀c o,s.heap.get? c=some o->h'.get? c=some o)->Q (.ref (s.heap.objs.size+1)) {s with heap:=h'}):
  wpAny (model prog w) A (call (.type "enumerate") [.ref l]) Q E s:=by
 refine callType_new F.called_enumerate (by decide) (F.typeCall_enumerate_1 _) (F.newCall_enumerate_1 _) (λ obj=>F.args_object_init_2 obj _) F.entry_enumerate_new (Rv t l xs) ⟨k1,?_⟩;have z1:(s.heap.push (itR t l)).objs.size=s.heap.objs.size+1:=Heap.size_push ..;have a2:((s.heap.push (itR t l)).push {cls:= .type "enumerate",data:= .fields #[.none,.bool false,.ref s.heap.objs.size,rawInt 0,.none,.none]}).get? (s.heap.push (itR t l)).objs.size=some _:=Heap.get?_push_size _ rfl;show _/\_;rw[z1] at a2 |-;exact⟨⟨_,a2,rfl⟩,h _ a2 (.new (Heap.get?_push_of_some _ (Heap.get?_push_size _ rfl))) λ c o e=>Heap.get?_push_of_some _ (Heap.get?_push_of_some _ e)⟩
end
section
variable {X:Cx} {sI:List Expr} {kk:Nat} {pp:Pos} {a:Expr} {p pos:Pos} {fa:aA->R (List D)}
noncomputable def afC (K:PySem.W.Frag) (ta:TA):TI:=λ σ H R=>ta σ H λ vs H1=>∃t l,vs=[.ref l]/\(∃xs,Sq t K H1 l xs)/\R (Ite K t l) H1
theorem ace {ta:TA} (hg:Gl X "enumerate") (hm:X.mg "enumerate" =none) (ha:PA X [a] ta) (he:starEach [a] X.env=(false,eval a X.env)::starEach [] X.env:=by rfl) (hpl:(backTo pos (starEach [] X.env)).any (·.1)=false:=by rfl):
    PI X (.Tuple sI kk pp) (.Call (.Name "enumerate" p) [a] [] pos) (afC X.K ta):=by
  intro pins s σ H R I h
  refine Call_ (ld_blt I hg hm boot_enumerate (PyProof.Rows.callWith_type1 (thn (ha pos pins s σ H _ I h) fun us s1 ⟨vs,H1,I1,r1,q1⟩=>?_) he hpl))
  obtain⟨t,l,e,⟨xs,w1⟩,q⟩:=q1
  subst e
  cases r1 with
  | cons r rr=>
    cases rr
    cases r
    obtain⟨vs1,_,p1⟩:=I1.sq w1
    refine Vl p1 fun h' e' s' k=>wpAny_pyIter_enum e' ⟨s1.heap.objs.size+1,[s1.heap.objs.size+1,s1.heap.objs.size],_,_,H1,rfl,I1.kept (t':=s1.toks) k,X7 ?_,⟨⟨_,e'⟩,s'⟩,fun c hc=>(by
        have hle:s1.heap.objs.size≤c:=by
          simp only[List.mem_cons,List.not_mem_nil,or_false] at hc
          rcases hc with rfl |rfl <;> first |exact Nat.le_refl _ |exact Nat.le_add_right _ _
        exact I1.fpOk hle (I1.hok.fresh hle)),q⟩
    all_goals (show @Ne Nat _ _;omega)
noncomputable def oU:Nat->List D->List D
 |_,[]=>[]
 |n,d::ds=> .tup [.int (n:Int),d]::oU (n+1) ds
theorem JX:∀{ds:List D} {n i:Nat} {d:D},(oU n ds)[i]?=some d->∃x,ds[i]?=some x/\d= .tup [.int ((n+i:Nat):Int),x]
 |[],_,_,_,h=>by simp[oU] at h
 |x::ds,n,0,d,h=>by simp[oU] at h;exact⟨x,rfl,by rw[<-h];rfl⟩
 | x::ds,n,i+1,d,h=>by
  rw[oU,List.getElem?_cons_succ] at h;obtain⟨y,e1,e2⟩:=JX h;exact⟨y,by rw[List.getElem?_cons_succ];exact e1,by rw[e2,show n+1+i=n+(i+1) by omega]⟩
theorem JZ:∀{ds:List D} {n:Nat},(oU n ds).length=ds.length
 |[],_=>rfl
 |_::ds,n=>by rw[oU,List.length_cons,JZ,List.length_cons]
noncomputable def oV:List D->R (List D)
 |[x]=>(dD x).bind λ xs=> .ok (oU 0 xs)
 |_=> .bad
theorem YR.enum {K:PySem.W.Frag} {O:Addr->Prop} {H:Hp} {t:Bool} {a:Addr} {xs:List D} (s1:Src K O H t a xs):YR K O H (Ite K t a) (oU 0 xs):=by
 intro O' H' q i;obtain⟨v1,q1,r1⟩:=s1.go q;refine⟨λ d e=>?_,λ e=>⟨v1,q1,?_⟩⟩
 ·obtain⟨x,e1,rfl⟩:=JX e;obtain⟨u1,g1,w1⟩:=r1.get e1;refine⟨⟨v1,u1,q1,g1⟩,λ x H2 y=>?_⟩;obtain⟨p,x1,hp,rfl,rfl,k1⟩:=y;have k1:=k1 _ q1;rw[g1] at k1;cases k1;rw[Nat.zero_add];exact⟨Same.upd hp,gU (SqT.of upd_same) ((aU.cons (cJ _) (.cons w1 .nil)).same (Same.upd hp))⟩
 ·rw[<-r1.length,<-JZ (n:=0)];exact e
theorem tL (hg:Gl X "enumerate") (hm:X.mg "enumerate" =none) (ha:DA X [a] fa) (he:starEach [a] X.env=(false,eval a X.env)::starEach [] X.env:=by rfl) (hpl:(backTo pos (starEach [] X.env)).any (·.1)=false:=by rfl):
  DI X (.Tuple sI kk pp) (.Call (.Name "enumerate" p) [a] [] pos) (λ ρ=>(fa ρ).bind oV):=by
 refine PI.imp (ace hg hm ha he hpl) λ σ H Q q=>?_;obtain⟨ρ,O,j,q⟩:=q;refine go j q λ ds vs H1 e1 s1 r1 j1 h1=>?_;unfold oV at h1;split at h1
 ·rename_i x;obtain⟨v1,rfl,w1⟩:=r1.one;cases ex:dD x with
  |bad=>rw[ex] at h1;exact h1.elim
  |err c=>exact (qI ex).elim
  | ok xs=>
   rw[ex,R.bh] at h1;obtain⟨t1,a1,rfl,c1⟩:=xG w1 ex;obtain⟨vs1,k1,_⟩:=c1.ex;exact⟨t1,a1,rfl,⟨vs1,k1⟩,fin h1 (YR.enum c1)⟩
 ·exact h1.elim
end
section
variable {prog:Program} {w:World} {A:Around} {E:Value->Shared->Prop} {s:Shared}
end
section
variable {X:Cx} {a:Expr} {p pos p2 pos2:Pos} {fa:aA->R (List D)}
noncomputable def adR (K:PySem.W.Frag) (ta:TA):TE:=λ σ H Q=>ta σ H λ vs H1=>∃j:Int,vs=[.int j]/\0<=j/\j<=1000/\∀q,H1 q=none->Q (.ref q) (upd H1 q (.rng 0 j))
theorem adS {ta:TA} (hg:Gl X "range") (hm:X.mg "range" =none) (ha:PA X [a] ta) (hs:starEach [a] X.env=[(false,eval a X.env)]:=by rfl):PE X (.Call (.Name "range" p) [a] [] pos) (adR X.K ta):=by
 intro pins s σ H Q I h;refine Call_ (ld_blt I hg hm boot_range (PyProof.Rows.callWith_type1 (thn (ha pos pins s σ H _ I h) λ us s1 ⟨vs,H1,I1,r1,q1⟩=>?_) hs rfl));obtain⟨j,e,h0,h1,q⟩:=q1;subst e;cases r1 with
 | cons r rr=>
  cases rr;obtain⟨t,rfl⟩:=r;refine call_range_1 ?_;exact⟨.ref s1.heap.objs.size,upd H1 s1.heap.objs.size (.rng 0 j),I1.laid (λ b o e=>Heap.get?_push_of_some _ e) (Nat.le_refl _) ⟨_,_,_,Heap.get?_push_size _ rfl⟩,rfl,q _ (I1.hok.fresh (Nat.le_refl _))⟩
end
section
variable {X:Cx} {e:Expr} {f:aA->R D} {pos:Pos}
noncomputable def NT (i:Nat) (f:aA->R D):aA->So:=λ ρ=>match ρ[i]? with
 | some (some (.val (.int a)))=>kI (f ρ) ρ λ d=>match d with
  | .int b=> .nx (ρ.set i (some (.val (.int (a+b)))))
  |_=> .bad
 |_=> .bad
theorem adT (i:Nat) {x:Str} {pos':Pos} (hN:X.N.Nodup) (he:DE X e f) (hi:X.N[i]?=some x:=by rfl) (hx:Loc X.env.scope x:=by first |exact Or.inl rfl |exact Or.inr rfl)
  (hf:X.fn x=true\/X.env.scope.names.lookup x=some .local:=by first |exact .inl rfl |exact .inr rfl):DS X (.AugAssign (.Name x pos') .Add e pos) (NT i f):=by
 refine PS.imp (ps_aug hN hi hx he ip_add hf) λ σ H E h=>?_;obtain⟨H0,O0,O,ρ,j,h⟩:=h;unfold NT at h;cases e1:ρ[i]? with
 |none=>simp only[e1] at h;exact h.elim
 | some oe =>
  cases oe with
  |none=>simp only[e1] at h;exact h.elim
  | some en=>
   cases en with
   |lst _=>simp only[e1] at h;exact h.elim
   |zm _=>simp only[e1] at h;exact h.elim
   |obj _=>simp only[e1] at h;exact h.elim
   | val d=>
    cases d with
    | int a=>
     simp only[e1] at h;obtain⟨v,hv,rv⟩:=j.inn.env.get i _ e1;have rv:v= .int a:=Rep.int (K:=X.K) (O:=O) (H:=H) rv;subst rv;refine⟨.int a,hv,ρ,O,j.inn,?_⟩;unfold kI at h;cases e2:f ρ with
     |bad=>rw[e2] at h;exact h
     |err c=>rw[e2] at h;exact h σ H O j
     | ok d=>
      rw[e2] at h;intro v' H' s r;cases d with
      |int b=>exact⟨a,b,rfl,r.int,h _ H' O ((j.grow s).set (List.getElem?_eq_some_iff.mp hi).1 (cJ _)) (Same.fD s)⟩
      |_=>exact h.elim
    |_=>simp only[e1] at h;exact h.elim
noncomputable def aaE (K:PySem.W.Frag) (mg:Str->Option Value) (x:Str) (ss:List Str):Prop:=∃a,mg x=some (.ref a)/\∀H,SqT K H a (ss.map V.str)
theorem J6 {K:PySem.W.Frag} {O:Addr->Prop} {H:Hp}:∀{ss:List Str},aU K O H (ss.map D.str) (ss.map V.str)
 |[]=> .nil
 |_::_=> .cons (Cj _) J6
theorem acf {x:Str} {ss:List Str} {pos:Pos} (hg:Gl X x) (h:aaE X.K X.mg x ss) (hd:(x ==("__debug__" :Str))=false:=by decide):DE X (.Name x pos) (λ _=> .ok (.tup (ss.map D.str))):=by
 obtain⟨a,hm,hq⟩:=h;exact HS (pe_glob (v:= .ref a) hg hm rfl hd) λ _ H=>gU (hq H) J6
end
theorem acg {K:PySem.W.Frag} {h:Heap} {mg:Str->Option Value} {x:Str} {ss:List Str} {a:Addr} {od:Option Addr} {its:Array Value} {n:Nat} {sl:Array (Option Value)} (X:K.In h) (G:h.Ns mainGlobals mg)
  (y:PySem.W.nsIn K mainGlobals x=some (some (.ref a))) (l:K.lookup a=some ⟨.type "tuple",od,.seq its n,sl⟩) (hz:its.size<=sizeLine) (hv:Vals (ss.map V.str) its.toList):aaE K mg x ss:=
 ⟨a,PySem.W.mg_of X G y,λ _=> .inr ⟨_,its,n,l,rfl,rfl,hz,hv⟩⟩
section
variable {X:Cx}
end
section
variable {X:Cx}
inductive aaF (XB:Cx) (K:PySem.W.Frag) (O:Addr->Prop) (H2:Hp) (Dd:Addr) (fp:List Addr) (tn:Nat->Heap->Prop) (ρ0:aA) (xs:List D) (F:D->R (Option D)) (all:List D) (n:Nat) (s':Shared):Prop
 |mk (i:Nat) (σ':St) (H':Hp) (ys:List V) (ds rest:List D) (en:n=xs.length+1 - i) (hil:i<=xs.length) (I:Inv XB [] σ' H' s') (st:tn i s'.heap) (fr:∀b∈fp,H' b=none) (j:In XB O H' ρ0 σ') (sm:Same H2 H') (hD:H' Dd=some (.lst ys)) (rp:aU K O H' ds ys) (hm:kj F (xs.drop i)= .ok rest) (hr:ds++rest=all):aaF XB K O H2 Dd fp tn ρ0 xs F all n s'
noncomputable def Tb (ts:List (Addr×Str)) (H:Hp):Prop:=∀p∈ts,∃(ps:Array Value) (tq:Tok),H p.1=some (.tbl ps)/\ps[0]?=some (.str p.2 tq)
theorem Tb.un {ts:List (Addr×Str)} {fs ex:List Addr} {H H':Hp} {h h':Heap} (t:Tb ts H) (u:Un fs ex H H' h h'):Tb ts H':=λ p hp=>by
 obtain⟨ps,tq,e,q⟩:=t p hp;obtain⟨more,e'⟩:=u.tbls _ _ e;refine⟨_,tq,e',?_⟩;obtain⟨hl,_⟩:=Array.getElem?_eq_some_iff.mp q;rw[Array.getElem?_append_left hl];exact q
theorem Ka {tg iter elt:Expr} {ifs:List Expr} {scope:Scope} {pos pos2:Pos} {fi:aA->R (List D)} {gt:D->aA->R aA} {ft:aA->R Bool} {fe:aA->R D} (ts:List Str) (caps:List Nat)
  (hc:X.calm=true) (hb:En X.env.scope scope ts X.N=true) (hcap:(d8 scope).map (λ x=>nH x X.N)=caps)
  (hi:DI X tg iter fi) (hk:qX ts.length gt) (hg:∀C s H ex,(cM X scope ts C s H ex).N.Nodup->DG (cM X scope ts C s H ex) tg gt) {Gg:List (Addr×Str)} (hT:Tb Gg X.H₀) (ht:∀C s H ex,Tb Gg H->M4 (cM X scope ts C s H ex) ifs ft) (he:∀C s H ex,Tb Gg H->DE (cM X scope ts C s H ex) elt fe)
  (hs:∀x,foldedSetIterable iter X.env x=pure x) {use:Option (Value->Sem Unit)} {Qr:Value->Shared->Prop} {pins:List (Addr×Obj)} {s:Shared} {σ:St} {H:Hp} {ρ:aA} {O:Addr->Prop} {Q:VK} (I:Inv X pins σ H s) (j:In X O H ρ σ)
  (hQ:∀(v:V) (H':Hp) (s5:Shared) (C:Addr) (m:Str->Option Value) (f:Flow) (acc:Value),Q v H'->Inv X pins σ H' s5->s5.heap.Ns C m->FpOk X pins H' C->RelV v acc->compPost (model X.prog X.w) X.A X.xe use Qr acc C (.ok f) s5)
  (h:good X (rD X) O (bU ts.length caps fi gt ft fe ρ) σ H Q):
  wpAny (model X.prog X.w) X.A (comprehension (.ListComp elt [⟨tg,iter,ifs,0⟩] scope pos) scope X.env pos2 (newList []) false (eval iter X.env) use) Qr X.xe s:=by
 have B:=afx hb;refine wpAny_comprehension_free (cl:=iu X.env.cells scope.names []) (use:=use) rfl hs (Vb λ x hx e=>?_) B.kind B.loc ?_
 ·obtain⟨n,k⟩:=x;have e:k= .free:=e;subst e;exact I.ok.has n (B.out n (uc hx))
 refine thn (hi pins s σ H (λ J H1=>∃xs,YR X.K O H1 J xs/\In X O H1 ρ σ/\good X (rD X) O ((kj (pI gt ft fe (Cu ts.length caps ρ)) xs).bind (cap .lst)) σ H1 Q) I (Pu.go j h λ xs J H1 e1 s1 y1 j1 h1=>⟨xs,y1,j1,h1⟩)) λ xv s1 h1=>thn h1 λ itv s2 h2=>?_;obtain⟨it,fp,tn,J,H2,e,I2,T,st2,f2,xs,yr,j2,g2⟩:=h2;have tb2:Tb Gg H2:=hT.un I2.base;subst e;rw[<-Vd hcap] at g2
 generalize eρ:pull X.N (d8 scope) ts.length (ρ.map yq)=ρ0 at g2
 obtain⟨all,hall,hlen,g3⟩:∃all,kj (pI gt ft fe ρ0) xs= .ok all/\all.length<=1000000/\good X (rD X) O (.ok (.lst all)) σ H2 Q:=by
  cases e:kj (pI gt ft fe ρ0) xs with
  |bad=>rw[e] at g2;exact g2.elim
  |err c=>exact absurd e FQ
  | ok all=>
   rw[e] at g2;have g2:good X (rD X) O (if all.length<=1000000 then .ok (.lst all) else .bad) σ H2 Q:=g2;by_cases hl:all.length<=1000000
   ·rw[if_pos hl] at g2;exact⟨all,rfl,hl,g2⟩
   ·rw[if_neg hl] at g2;exact g2.elim
 have hlt:∀b∈fp,b < s2.heap.objs.size:=λ b hb=>by
  obtain⟨o,e,_⟩:=T.obj 0 _ st2 b hb;exact Heap.lt_size e
 refine wpAny_newObj_type (Xg ?_)
 generalize hC:(s2.heap.push {cls:= .type "list",dict:=none,data:= .seq ([]:List Value).toArray}).objs.size=C
 have hC':C=s2.heap.objs.size+1:=by rw[<-hC];exact Heap.size_push ..
 generalize e4:pushCells ((s2.heap.push {cls:= .type "list",dict:=none,data:= .seq ([]:List Value).toArray}).push {cls:= .type "dict",data:= .dict #[]}) scope.names=h4
 show codeAny (model X.prog X.w) X.A (.compStart (.ListComp elt [⟨tg,iter,ifs,0⟩] scope pos) 0 (.ref it) (.ref s2.heap.objs.size) (gj scope X.env C)) (compPost (model X.prog X.w) X.A X.xe use Qr (.ref s2.heap.objs.size) C) {s2 with heap:=h4};have hDn:H2 s2.heap.objs.size=none:=I2.hok.fresh (Nat.le_refl _);have hOn:¬O s2.heap.objs.size:=j2.zO hDn;have hDk:X.K.lookup s2.heap.objs.size=none:=by
  cases q:X.K.lookup s2.heap.objs.size with
  |none=>rfl
  |some o=>exact absurd (Heap.lt_size (I2.kIn _ _ q)) (Nat.lt_irrefl _)
 have I4:=abW (ts:=ts) I2 B f2 hlt hC' e4.symm;have sD:Same H2 (upd H2 s2.heap.objs.size (.lst [])):=Same.upd hDn;have lρ0:ρ0.length=(ts++d8 scope).length:=by rw[<-eρ,yp,List.length_append]
 generalize eD:s2.heap.objs.size=Dd at *
 have adU:∀{H':Hp},Same H2 H'->fU X.K O H2 (λ a=>O a\/a=Dd) H':=λ sm=>⟨(Same.fD (K:=X.K) (O:=O) sm).ext,λ a z=>z.elim .inl λ e=> .inr (by rw[e];exact⟨hDn,hDk⟩),(Same.fD (K:=X.K) (O:=O) sm).dom⟩;have alO:∀{H':Hp} {ys:List V},Same H2 H'->H' Dd=some (.lst ys)->∀a,(O a\/a=Dd)->∃o,H' a=some o:=λ sm e a z=>z.elim (λ q=>let ⟨o,h⟩:=j2.al a q;⟨o,sm _ _ h⟩) λ q=>by rw[q];exact⟨_,e⟩
 have j4:In (cM X scope ts C s2 H2 fp) (λ a=>O a\/a=Dd) (upd H2 Dd (.lst [])) ρ0 (pull X.N (d8 scope) ts.length σ):=by
  rw[<-eρ];exact In.go (adK B j2.vals) JQ (adU sD) (alO sD upd_same)
 have hv0:∀(i:Nat) e,ρ0[i]?=some (some e)->e.Tr=true:=by rw[<-eρ];exact JQ
 have hn0:∀i,i < ts.length->ρ0[i]?=some none:=by rw[<-eρ];exact λ i h=>Xi h
 have afD:∀b o,s2.heap.get? b=some o->h4.get? b=some o:=λ b o e=>by
  rw[<-e4];exact pushCells_keeps _ _ b o (Heap.get?_push_of_some _ (Heap.get?_push_of_some _ e))
 have st4:tn 0 h4:=T.keep _ _ _ st2 λ b _ o e=>afD b o e;have stat:∀{H':Hp},(∀b∈fp,H' b=none)->∀b∈fp,FpOk (cM X scope ts C s2 H2 fp) [] H' b:=λ {H'} hn b hb=>by
  have hl: @LT.lt Nat _ b Dd:=hlt b hb;obtain⟨_,a1,a2,a3,a4,_⟩:=f2 b hb;refine⟨hn b hb,by show @Ne Nat b C;omega,λ z=>?_,.inl hb,λ x c h=>?_,λ p hp=>absurd (show p∈([]:List (Addr×Obj)) from hp) (by simp)⟩
  ·rcases List.mem_cons.mp (I2.stkSub b z) with z |z
   ·exact a1 z
   ·exact a2 z
  ·rcases kW B I2.ok.has h with⟨_,q⟩ |⟨_,q⟩
   ·show @Ne Nat c b;omega
   ·exact a4 x c q
 have fr4:∀b∈fp,(upd H2 Dd (.lst [])) b=none:=λ b hb=>by
  have hl: @LT.lt Nat _ b Dd:=hlt b hb;rw[upd_ne (show @Ne Nat b Dd by omega)];exact (f2 b hb).1
 have loop : ∀ s0:Shared,s0={s2 with heap:=h4}->codeAny (model X.prog X.w) X.A (.compLoop (.ListComp elt [⟨tg,iter,ifs,0⟩] scope pos) 0 (.ref it) (.ref Dd) (gj scope X.env C)) (compPost (model X.prog X.w) X.A X.xe use Qr (.ref Dd) C) s0:=by
  intro s0 e0;refine codeAny_loop rfl (λ n s'=>aaF (cM X scope ts C s2 H2 fp) X.K (λ a=>O a\/a=Dd) H2 Dd fp tn ρ0 xs (pI gt ft fe ρ0) all n s') (λ n s' hI=>?_) (xs.length+1)
   ⟨0,_,_,[],[],all,rfl,Nat.zero_le _,e0▸I4,e0▸st4,fr4,j4,sD,upd_same,.nil,by simpa using hall,rfl⟩
  obtain⟨i,σ',H',ys,ds,rest,rfl,hil,I',st',fr',j',sm',hD',rp',hm',hr'⟩:=hI;show wpAny (model X.prog X.w) X.A ((compTurn (.ListComp elt [⟨tg,iter,ifs,0⟩] scope pos) 0 (.ref it) (.ref Dd) (gj scope X.env C)).onRaise (λ x=>do noteFrame x (gj scope X.env C);theTreesLotGoes x)) _ _ s';refine wpAny_noted ?_;rw[compTurn_list];have Xj:=yr _ H' (adU sm') i;refine wpAny_bind (wpAny_standAt (wpAny_bind ?_));by_cases hlt':i < xs.length
  ·-- a turn
   have ex:xs[i]?=some xs[i]:=by simp[hlt']
   have ed:xs.drop i=xs[i]::xs.drop (i+1):=List.drop_eq_getElem_cons hlt';rw[ed] at hm';obtain⟨o,rest',k1,k2,k3⟩:=Xh hm';obtain⟨jgo,jy⟩:=Xj.1 _ ex;refine wpAny_mono (T.item (cM X scope ts C s2 H2 fp) rfl rfl rfl hc i [] s' σ' H' (λ _ _=>False) I' (stat fr') st' jgo) (λ r s4 ⟨u,hr,h4'⟩=>?_) λ _ _ z=>z.elim;subst hr;refine wpAny_bind (wpAny_mono h4' (λ _ s5 ⟨x,H5,I5,r5,y5,st5,fr5⟩=>?_) λ _ _ z=>z.elim);obtain⟨NZ,agw⟩:=jy x H5 y5;have I5':=I5.pinned (stat fr5) (T.obj _ _ st5);have k1:(gt xs[i] ρ0).bind (λ ρ1=>(ft ρ1).bind λ b=>if b=true then (fe ρ1).bind λ d=> .ok (some d) else .ok none)= .ok o:=k1;cases q1:gt xs[i] ρ0 with
   |bad=>rw[q1] at k1;cases k1
   |err c=>rw[q1] at k1;cases k1
   | ok ρ1 =>
    rw[q1] at k1;have k1:(ft ρ1).bind (λ b=>if b=true then (fe ρ1).bind λ d=> .ok (some d) else .ok none)= .ok o:=k1;refine wpAny_bind (wpAny_mono (hg C s2 H2 fp B.nd _ s5 σ' H5 x u (λ σ6 H6=>H6=H5/\In (cM X scope ts C s2 H2 fp) (λ a=>O a\/a=Dd) H5 ρ1 σ6) I5' r5 ⟨ρ0,_,xs[i],ρ1,j'.same NZ,agw,q1,λ σ6 j6=>⟨rfl,j6⟩⟩) (λ _ s6 ⟨σ6,H6,I6,eH,j6⟩=>?_) λ _ _ z=>(show False from z).elim);subst eH;cases q2:ft ρ1 with
    |bad=>rw[q2] at k1;cases k1
    |err c=>rw[q2] at k1;cases k1
    | ok bb =>
     rw[q2] at k1;have k1:(if bb=true then (fe ρ1).bind λ d=>R.ok (some d) else .ok none)= .ok o:=k1;have gtest:tG (cM X scope ts C s2 H2 fp) rB ft σ6 H6 (λ b H7=>b=bb/\Same H6 H7):=⟨ρ1,_,j6,by rw[q2];exact λ b H7 s7 e7=>⟨e7.symm,s7⟩⟩;refine wpAny_bind (wpAny_mono (ht C s2 H2 fp tb2 _ s6 σ6 H6 _ I6 gtest) (λ ok s7 ⟨H7,I7,ok7,Gh⟩=>?_) λ _ _ z=>(show False from z).elim);subst ok7;have back:∀{H8:Hp} {s8:Shared} {ys':List V} {ds':List D},Inv (cM X scope ts C s2 H2 fp) ([]++pinsAt fp s5.heap) σ6 H8 s8->Same H2 H8->In (cM X scope ts C s2 H2 fp) (λ a=>O a\/a=Dd) H8 ρ0 σ6->H8 Dd=some (.lst ys')->aU X.K (λ a=>O a\/a=Dd) H8 ds' ys'->ds'++rest'=all->
       ∃m,m < xs.length+1 - i/\aaF (cM X scope ts C s2 H2 fp) X.K (λ a=>O a\/a=Dd) H2 Dd fp tn ρ0 xs (pI gt ft fe ρ0) all m s8:=by
      intro H8 s8 ys' ds' I8 T8 j8 hD8 rp8 hr8;refine⟨xs.length+1 - (i+1),by omega,i+1,σ6,H8,ys',ds',rest',rfl,by omega,I8.unpinned,T.keep _ _ _ st5 λ b hb o e=>(I8.pin (b,o) (List.mem_append_right _ (List.mem_append_right _ (mem_pinsAt hb e)))).1,λ b hb=>?_,j8,T8,hD8,rp8,k2,hr8⟩;obtain⟨o,e,d⟩:=T.obj _ _ st5 b hb;exact (I8.pin (b,o) (List.mem_append_right _ (List.mem_append_right _ (mem_pinsAt hb e)))).2.1
     have j60:In (cM X scope ts C s2 H2 fp) (λ a=>O a\/a=Dd) H6 ρ0 σ6:=In.back (n:=ts.length) j6 hn0 (λ k hk'=>hk _ _ _ q1 k hk') lρ0;cases ok with
     | false=>
      have k1:R.ok none=R.ok o:=k1;cases k1;refine wpAny_pure ⟨rfl,?_⟩;refine back I7 (sm'.trans (NZ.trans Gh)) (j60.same Gh) (Gh _ _ (NZ _ _ hD')) (rp'.same (NZ.trans Gh)) ?_;rw[<-hr',k3];rfl
     | true =>
      have k1:(fe ρ1).bind (λ d=>R.ok (some d))= .ok o:=k1;cases q3:fe ρ1 with
      |bad=>rw[q3] at k1;cases k1
      |err c=>rw[q3] at k1;cases k1
      | ok d =>
       rw[q3] at k1;have k1:R.ok (some d)=R.ok o:=k1;cases k1;have agx:tG (cM X scope ts C s2 H2 fp) (rD (cM X scope ts C s2 H2 fp)) fe σ6 H7 (λ v H8=>Same H7 H8/\Rep X.K (λ a=>O a\/a=Dd) H8 d v):=⟨ρ1,_,j6.same Gh,by rw[q3];exact λ v H8 s8 r8=>⟨s8,r8⟩⟩;refine wpAny_bind (wpAny_bind (wpAny_mono (he C s2 H2 fp tb2 _ s7 σ6 H7 _ I7 agx) (λ xv s8 ⟨v8,H8,I8,r8,T8,agy⟩=>?_) λ _ _ z=>(show False from z).elim));have hD8:H8 Dd=some (.lst ys):=T8 _ _ (Gh _ _ (NZ _ _ hD'));have rp8:aU X.K (λ a=>O a\/a=Dd) H8 ds ys:=rp'.same (NZ.trans (Gh.trans T8));have hds:ds++d::rest'=all:=by rw[<-hr',k3];rfl
       have hyl:ys.length < sizeLine:=by
        have:=gH;have e1:=rp8.length;have e2:=congrArg List.length hds;rw[List.length_append,List.length_cons] at e2;omega
       refine wpAny_bind (wpAny_mono (mt_append (X:=cM X scope ts C s2 H2 fp) _ s8 σ6 H8 (.ref Dd) [v8] (.ref Dd) [xv] (λ _ H9=>H9=upd H8 Dd (.lst (ys++[v8]))) I8 rfl (.cons r8 .nil) ⟨_,ys,v8,rfl,rfl,hD8,hyl,rfl⟩) (λ _ s9 ⟨_,H9,I9,_,eH9⟩=>?_) λ _ _ z=>(show False from z).elim);subst eH9;have agz:Same H2 H8:=sm'.trans (NZ.trans (Gh.trans T8));have adV:fU X.K (λ a=>O a\/a=Dd) H8 (λ a=>O a\/a=Dd) (upd H8 Dd (.lst (ys++[v8]))):=by
        refine⟨⟨λ b zs h=>?_,λ b zs n h=>?_⟩,λ a z=> .inl z,λ a z=>?_⟩
        ·have nb:b≠Dd:=λ e=>by
          rw[e] at h;rcases h with h |⟨o,h⟩ <;> rw[hD8] at h <;> cases h
         rcases h with h |⟨o,h⟩
         ·exact .inl (by rw[upd_ne nb];exact h)
         ·exact .inr ⟨o,by rw[upd_ne nb];exact h⟩
        ·have nb:b≠Dd:=λ e=>n (.inr e);rcases h with h |⟨o,h⟩
         ·exact .inl (by rw[upd_ne nb];exact h)
         ·exact .inr ⟨o,by rw[upd_ne nb];exact h⟩
        ·by_cases ea:a=Dd
         ·rw[ea,upd_same] at z;cases z
         ·rw[upd_ne ea] at z;exact z
       have sm9:Same H2 (upd H8 Dd (.lst (ys++[v8]))):=λ b o e=>by
        rw[upd_ne (ne_of_none e hDn)];exact agz _ _ e
       refine wpAny_pure (wpAny_pure ⟨rfl,?_⟩);refine back I9 sm9 (In.go (j60.same (Gh.trans T8)) hv0 adV (alO sm9 upd_same)) upd_same ((rp8.append (.cons agy .nil)).go adV) ?_;rw[List.append_assoc];exact hds
  ·-- the end
   have ei:i=xs.length:=by omega
   subst ei;have hrest:rest=[]:=by
    have hm':kj (pI gt ft fe ρ0) (xs.drop xs.length)= .ok rest:=hm';rw[List.drop_length] at hm';cases hm';rfl
   subst hrest;rw[List.append_nil] at hr';subst hr';refine wpAny_mono (T.done (cM X scope ts C s2 H2 fp) rfl rfl rfl hc _ [] s' σ' H' (λ _ _=>False) I' (stat fr') st' (Xj.2 (Nat.le_refl _))) (λ r s5 ⟨hr,I5⟩=>?_) λ _ _ z=>z.elim;subst hr;refine wpAny_pure ?_;obtain⟨m,hns,_⟩:=I5.loc;have hCn:H' C=none:=I5.free;have I6:Inv X pins σ H' s5:=by
    refine I2.call' (s':=s5) (ch:=fp) I5.os ⟨λ b o e n hb hx=>I5.base.keep b o e n hb hx,λ b o e n hb hx=>I5.base.slot b o e n hb hx,I5.base.free,λ b o e hx=>I5.base.there b o e hx,I5.base.tups,I5.base.frzs,I5.base.tbls⟩ (λ b u e=>I5.hok b u e) I5.bare λ b hb=>⟨(f2 b hb).2.2.2.1,(f2 b hb).2.1,(f2 b hb).2.2.2.2.1,(f2 b hb).2.2.2.2.2⟩
   exact hQ (.ref Dd) H' s5 C m _ (.ref Dd) (g3 _ _ sm' (sY (SqL.of hD') hOn (rp'.fewer λ a z=> .inl z))) I6 hns (I2.fpOk (show @LE.le Nat _ _ C by omega) hCn) rfl
 exact codeAny_compStart_list (loop _ rfl) (T.self _ 0 _ _ _ st4 (loop _ rfl))
theorem N5 {tg iter elt:Expr} {ifs:List Expr} {scope:Scope} {pos pos2:Pos} {fi:aA->R (List D)} {gt:D->aA->R aA} {ft:aA->R Bool} {fe:aA->R D} (ts:List Str) (caps:List Nat)
  (hc:X.calm=true) (hb:En X.env.scope scope ts X.N=true) (hcap:(d8 scope).map (λ x=>nH x X.N)=caps)
  (hi:DI X tg iter fi) (hk:qX ts.length gt) (hg:∀C s H ex,(cM X scope ts C s H ex).N.Nodup->DG (cM X scope ts C s H ex) tg gt) (ht:∀C s H ex,M4 (cM X scope ts C s H ex) ifs ft) (he:∀C s H ex,DE (cM X scope ts C s H ex) elt fe)
  (hs:∀x,foldedSetIterable iter X.env x=pure x) {use:Option (Value->Sem Unit)} {Qr:Value->Shared->Prop} {pins:List (Addr×Obj)} {s:Shared} {σ:St} {H:Hp} {ρ:aA} {O:Addr->Prop} {Q:VK} (I:Inv X pins σ H s) (j:In X O H ρ σ)
  (hQ:∀(v:V) (H':Hp) (s5:Shared) (C:Addr) (m:Str->Option Value) (f:Flow) (acc:Value),Q v H'->Inv X pins σ H' s5->s5.heap.Ns C m->FpOk X pins H' C->RelV v acc->compPost (model X.prog X.w) X.A X.xe use Qr acc C (.ok f) s5)
  (h:good X (rD X) O (bU ts.length caps fi gt ft fe ρ) σ H Q):
  wpAny (model X.prog X.w) X.A (comprehension (.ListComp elt [⟨tg,iter,ifs,0⟩] scope pos) scope X.env pos2 (newList []) false (eval iter X.env) use) Qr X.xe s:=
 Ka (Gg:=[]) ts caps hc hb hcap hi hk hg (λ _ z=>absurd z List.not_mem_nil) (λ C s H ex _=>ht C s H ex) (λ C s H ex _=>he C s H ex) hs I j hQ h
theorem bY {tg iter elt:Expr} {ifs:List Expr} {scope:Scope} {pos:Pos} {fi:aA->R (List D)} {gt:D->aA->R aA} {ft:aA->R Bool} {fe:aA->R D} (ts:List Str) (caps:List Nat)
  (hc:X.calm=true) (hb:En X.env.scope scope ts X.N=true) (hcap:(d8 scope).map (λ x=>nH x X.N)=caps)
  (hi:DI X tg iter fi) (hk:qX ts.length gt) (hg:∀C s H ex,(cM X scope ts C s H ex).N.Nodup->DG (cM X scope ts C s H ex) tg gt) (ht:∀C s H ex,M4 (cM X scope ts C s H ex) ifs ft) (he:∀C s H ex,DE (cM X scope ts C s H ex) elt fe)
  (hs:∀x,foldedSetIterable iter X.env x=pure x:=by intro _;rfl):
  DE X (.ListComp elt [⟨tg,iter,ifs,0⟩] scope pos) (bU ts.length caps fi gt ft fe):=by
 intro pins s σ H Q I h;obtain⟨ρ,O,j,h⟩:=h;rw[eval_ListComp];exact N5 ts caps hc hb hcap hi hk hg ht he hs (use:=none) (Qr:=EP X pins σ Q) I j (λ v H' s5 C m f acc hv I6 hns fp rv=>⟨m,hns,λ h' sb=>⟨v,H',I6.fp fp sb,rv,hv⟩⟩) h
theorem ach (i:Nat) {x:Str} {pos' cpos pos:Pos} {tg iter elt:Expr} {ifs:List Expr} {scope:Scope} {fi:aA->R (List D)} {gt:D->aA->R aA} {ft:aA->R Bool} {fe:aA->R D} (hN:X.N.Nodup) (ts:List Str) (caps:List Nat)
  (hc:X.calm=true) (hb:En X.env.scope scope ts X.N=true) (hcap:(d8 scope).map (λ x=>nH x X.N)=caps)
  (hi:DI X tg iter fi) (hk:qX ts.length gt) (hg:∀C s H ex,(cM X scope ts C s H ex).N.Nodup->DG (cM X scope ts C s H ex) tg gt) (ht:∀C s H ex,M4 (cM X scope ts C s H ex) ifs ft) (he:∀C s H ex,DE (cM X scope ts C s H ex) elt fe)
  (hix:X.N[i]?=some x:=by rfl) (hx:Loc X.env.scope x:=by first |exact Or.inl rfl |exact Or.inr rfl) (hf:X.fn x=true\/X.env.scope.names.lookup x=some .local:=by first |exact .inl rfl |exact .inr rfl)
  (hsw:swapsWith (.ListComp elt [⟨tg,iter,ifs,0⟩] scope cpos) (some (.Name x pos')) pos.line X.env=pure true:=by rfl)
  (hs:∀x,foldedSetIterable iter X.env x=pure x:=by intro _;rfl):
  DS X (.Assign [.Name x pos'] (.ListComp elt [⟨tg,iter,ifs,0⟩] scope cpos) pos) (bF (bU ts.length caps fi gt ft fe) (aM i)):=by
 intro pins s σ H E I h;obtain⟨H0,O0,O,ρ,j,h⟩:=h;rw[exec_Assign_Name_used _ _ _ _ hsw];refine wpAny_bind (wpAny_standAt (wpAny_bind ?_));show wpAny _ _ (comprehension (.ListComp elt [⟨tg,iter,ifs,0⟩] scope cpos) scope X.env _ (newList []) false (eval iter X.env) (some (assign (.Name x pos') X.env)) >>=λ _=>pure ()) _ _ _;unfold bF kI at h;refine wpAny_bind (N5 (Q:=λ v H'=>∃d,bU ts.length caps fi gt ft fe ρ= .ok d/\Same H H'/\Rep X.K O H' d v) (Qr:=λ _ s'=>wpAny (model X.prog X.w) X.A (pure ()) (λ _ s1=>wpAny (model X.prog X.w) X.A (pure Flow.next) (SP X pins E) X.xe s1) X.xe s') ts caps hc hb hcap hi hk hg ht he hs I j.inn ?_ ?_)
 ·intro v H' s5 C m f acc hq I5 hns fC rel;obtain⟨d,ed,sm,rd⟩:=hq;rw[ed] at h;have h:wY X H0 O0 O H E (.nx (ρ.set i (some (.val d)))):=h;obtain⟨o,es,ep,ho,hd,hr⟩:=hns;have Ip:=I5.pinned (fp:=[C]) (λ b hb=>by rw[List.mem_singleton.mp hb];exact fC) (λ b hb=>by rw[List.mem_singleton.mp hb];exact⟨o,ho,λ v z=>by rw[hd] at z;cases z⟩);show wpAny (model X.prog X.w) X.A (assign (.Name x pos') X.env acc) _ X.xe s5;refine wpAny_mono (pg_name hN hix hx hf _ s5 σ H' v acc (λ σ' H''=>σ'=σ.set i (some v)/\H''=H') Ip rel ⟨rfl,rfl⟩) (λ _ s6 ⟨σ',H'',I',e1,e2⟩=>?_) λ _ _ z=>z;subst e1 e2;have pn:=(I'.pin (C,o) (List.mem_append_right _ (List.mem_append_right _ (mem_pinsAt (List.mem_singleton.mpr rfl) ho)))).1;refine⟨m,⟨o,es,ep,pn,hd,hr⟩,λ h' sb=>wpAny_pure (wpAny_pure ⟨_,H'',(I'.unpinned).fp fC sb,h _ H'' O ((j.grow sm).set (List.getElem?_eq_some_iff.mp hix).1 rd) (Same.fD sm)⟩)⟩
 ·cases e1:bU ts.length caps fi gt ft fe ρ with
  |bad=>rw[e1] at h;exact h
  |err c=>rw[e1] at h;exact h σ H O j
  |ok d=>exact λ v H' sm r=>⟨d,rfl,sm,r⟩
end
noncomputable def okN (F:List D->R D) (n:Nat) (ds:List D):R D:=if ds.length=n then F ds else .bad
noncomputable def vK (sub:Str->Str->Bool) (i:Nat) (t:Str):aA->R D:=λ ρ=>match ρ[i]? with
 |some (some (.obj (.exc c)))=>if sub c c=true then .ok (.bl (sub c t)) else .bad
 |_=> .bad
noncomputable def N6 (sub:Str->Str->Bool) (t:Str) (i:Nat) (g h:aA->So):aA->So:=λ ρ=>match g ρ with
 | .ex c ρ1=>if sub c t=true then (match h (ρ1.set i (some (.obj (.exc c)))) with
  | .rt d=> .rt d
  |_=> .bad) else .bad
 |o=>o
noncomputable def aaG:List D->R (List D)
 |[.lst ds]=> .ok ds.reverse
 |_=> .bad
section
variable {ρ ρ1:aA} {fa:aA->R (List D)} {F:List D->R D} {ds:List D} {n:Nat} {d:D} {c:Str} {f:aA->R D} {gt:D->aA->R aA} {p:aA->R Bool} {s t:aA->So} {o:So}
theorem CQ (e:f (cR ρ)= .err c):mC f ρ= .ex c ρ:=by rw[mC,e];rfl
theorem X8 (e:f ρ= .err c):bF f gt ρ= .ex c ρ:=by rw[bF,e];rfl
theorem N7 (e:s ρ= .ex c ρ1):aQ s t ρ= .ex c ρ1:=by rw[aQ,e]
theorem xK {m:Nat} (e:s (ds.map (λ d=>some (.val d))++List.replicate m none)= .ex c ρ1):bV m s ds= .err c:=by rw[bV,e]
theorem N8 {sub:Str->Str->Bool} {i:Nat} {t:Str} (h:ρ[i]?=some (some (.obj (.exc c)))) (hk:sub c c=true):vK sub i t ρ= .ok (.bl (sub c t)):=by
 unfold vK;rw[h];show (if sub c c=true then R.ok (D.bl (sub c t)) else .bad)=_;rw[if_pos hk]
theorem adW {sub:Str->Str->Bool} {i:Nat} {u:Str} (e1:s ρ= .ex c ρ1) (hs:sub c u=true) (e2:t (ρ1.set i (some (.obj (.exc c))))= .rt d):N6 sub u i s t ρ= .rt d:=by
 unfold N6;rw[e1];simp only[hs,if_true,e2]
end
structure xM (fs:List Addr) (h h':Heap) (a C:Addr) (T:Option Addr) (t':Addr):Prop where
 exc:Exc h' a C (some t')
 old:T=some t'\/h.get? t'=none
 keep:∀b o,h.get? b=some o->b≠a->T≠some b->b∉fs->h'.get? b=some o
 slot:∀b o,h.get? b=some o->b∈fs->∃sl,h'.get? b=some {o with slots:=sl}
section
variable {M:Model} {A:Around} {E:Value->Shared->Prop} {s:Shared}
theorem zZ {h h1 b0 b1:Heap}:∀{l:List PySem.Env},h.FunFrames b0 l->(∀b∈frs l,b1.get? b=none)->(∀b o,h.get? b=some o->b∈frs l->h1.get? b=some o)->h1.FunFrames b1 l
 |[],_,_,_=>trivial
 | env::r,hl,hn,hs=>by
  obtain⟨hk,⟨L,o,hf,_,ho,hd⟩,hr⟩:=hl;have e:frs (env::r)=L::frs r:=by unfold frs;rw[List.filterMap_cons,hf]
  rw[e] at hn hs;exact⟨hk,⟨L,o,hf,hn L List.mem_cons_self,hs L o ho List.mem_cons_self,hd⟩,zZ hr (λ b hb=>hn b (List.mem_cons_of_mem _ hb)) λ b o q hb=>hs b o q (List.mem_cons_of_mem _ hb)⟩
theorem Yb {o:Obj} {g:Array Value->Array Value}:(o.mapFields g).dict=o.dict:=by
 obtain⟨c,d,dt,sl⟩:=o;cases dt <;> rfl
theorem Kc {env:PySem.Env} {outer:List PySem.Env} {L a C:Addr} {oe:Obj} {vs:Array Value} {hd0:Value} {had:Bool} {b0:Heap} {Q:Unit->Shared->Prop} (hfr:A.frames=some (env::outer)) (hl:s.heap.FunFrames b0 (env::outer)) (hf:env.frame=some L)
  (he:s.heap.get? a=some oe) (hc:oe.cls= .ref C) (hn:oe.dict=none) (hv:oe.data= .fields vs) (hz:1 < vs.size)
  (h:∀h' t',xM (frs (env::outer)) s.heap h' a C none t'->Q () {s with heap:=h'}):
  wpAny M A (do let x <-frameOf env;let y <-entryPlaceOf L had;let z <-EntryCells.newEntry hd0 x .none (rawInt L) .none y;setField (.ref a) 1 z) (λ _ s'=>wpAny M A (setFlight (.ref a) none) Q E s') E s:=by
 have na:a∉frs (env::outer):=λ z=>by
  obtain⟨_,o',ho',hd'⟩:=hl.mem z;rw[he] at ho';cases ho';exact hd' vs hv
 refine wpAny_bind (wpAny_frameOf_fun hfr hl hf λ g1 sl1=>wpAny_bind (wpAny_entryPlaceOf λ pl ok=>?_));unfold EntryCells.newEntry newFields;refine wpAny_bind (wpAny_newObj_type ?_ (ok.sizeOk5 _ _ _ _ _));have e1:g1.get? a=some oe:=(sl1.2.1 a na).trans he
 generalize hob:({cls:= .type "traceback",dict:=none,data:= .fields ([hd0,.ref L,.none,rawInt L,.none]++(if pl.isEmpty then List.replicate 6 Value.none else pl)).toArray}:Obj)=ob
 have aaH:ob.data= .fields ([hd0,.ref L,.none,rawInt L,.none]++(if pl.isEmpty then List.replicate 6 Value.none else pl)).toArray:=by rw[<-hob]
 have agA:ob.isFreed=false:=by rw[<-hob];rfl
 have e2:(g1.push ob).get? a=some oe:=Heap.get?_push_of_some ob e1;refine wpAny_setField e2 hv hz ?_;have nT:g1.objs.size≠a:=Nat.ne_of_gt (Heap.lt_size e1);have d3:=Obj.data_mapFields hv (·.setIfInBounds 1 (Value.ref g1.objs.size));have e3:=Heap.get?_update_self (Obj.mapFields (·.setIfInBounds 1 (Value.ref g1.objs.size))) e2 (Obj.isFreed_of_fields d3);have T3:=(Heap.get?_update_other (g1.push ob) (Obj.mapFields (·.setIfInBounds 1 (Value.ref g1.objs.size))) (Ne.symm nT)).trans (Heap.get?_push_size g1 agA);unfold setFlight;refine wpAny_bind (wpAny_field e3 d3 (x:= .ref g1.objs.size) (by simp[hz]) ?_);rw[if_pos (show (Value.ref g1.objs.size !=Value.none)=true from by simp)];have hsz:3 < (([hd0,.ref L,.none,rawInt L,.none]++(if pl.isEmpty then List.replicate 6 Value.none else pl)).toArray).size:=by
  rw[List.size_toArray,List.length_append];show 3 < 5+_;omega
 refine wpAny_setField T3 aaH hsz (h _ g1.objs.size ⟨⟨_,_,(Heap.get?_update_other _ _ nT).trans e3,(Obj.cls_mapFields _ _).trans hc,Yb.trans hn,d3,by simp[hz],nT,_,_,Heap.get?_update_self _ T3 (Obj.isFreed_of_fields (Obj.data_mapFields aaH _)),Obj.data_mapFields aaH _,?_⟩,.inr (Heap.get?_none_of_le (by rw[sl1.1];exact Nat.le_refl _)),λ b o hb n1 _ n3=>?_,λ b o hb hm=>?_⟩)
 ·rw[Array.getElem?_setIfInBounds,if_pos rfl,if_pos hsz];rfl
 ·have q1:g1.get? b=some o:=(sl1.2.1 b n3).trans hb;rw[Heap.get?_update_other _ _ (Nat.ne_of_gt (Heap.lt_size q1)),Heap.get?_update_other _ _ (Ne.symm n1)];exact Heap.get?_push_of_some _ q1
 ·obtain⟨sl,q1⟩:=sl1.2.2 b o hb;refine⟨sl,?_⟩;rw[Heap.get?_update_other _ _ (Nat.ne_of_gt (Heap.lt_size q1)),Heap.get?_update_other _ _ (λ z=>na (by rw[z];exact hm))];exact Heap.get?_push_of_some _ q1
theorem Oa {env:PySem.Env} {outer:List PySem.Env} {L a C:Addr} {T:Option Addr} {b0:Heap} {Q:Unit->Shared->Prop} (hfr:A.frames=some (env::outer)) (hl:s.heap.FunFrames b0 (env::outer)) (hf:env.frame=some L) (x:Exc s.heap a C T)
  (h:∀h' t',xM (frs (env::outer)) s.heap h' a C T t'->Q () {s with heap:=h'}):wpAny M A (noteFrame (.ref a) env) (λ _ s2=>wpAny M A (setFlight (.ref a) none) Q E s2) E s:=by
 obtain⟨oe,vs,he,hc,hn,hd,hx⟩:=x;unfold noteFrame;simp only[hf];cases T with
 | none=>
  have h1:vs[1]?=some Value.none:=hx;refine wpAny_bind (wpAny_field he hd h1 ?_);rw[if_neg (by decide)];exact Kc hfr hl hf he hc hn hd (Array.getElem?_eq_some_iff.mp h1).1 h
 | some t=>
  obtain⟨h1,hne,ot,ts,ht,hdt,h3⟩:=hx;have nt:t∉frs (env::outer):=λ z=>by
   obtain⟨_,o',ho',hd'⟩:=hl.mem z;rw[ht] at ho';cases ho';exact hd' ts hdt
  refine wpAny_bind (wpAny_field he hd h1 ?_);rw[if_pos (show (Value.ref t !=Value.none)=true from by simp)];refine wpAny_bind (wpAny_field ht hdt h3 ?_);rw[if_neg (show ¬((Value.none ==rawInt L)=true) from by simp[rawInt])];refine wpAny_bind (wpAny_setField ht hdt (Array.getElem?_eq_some_iff.mp h3).1 ?_);have other:∀b o,s.heap.get? b=some o->b≠t->(s.heap.update t (Obj.mapFields (·.setIfInBounds 3 Value.none))).get? b=some o:=λ b o q hb=>(Heap.get?_update_other _ _ (Ne.symm hb)).trans q;refine Kc (s:={s with heap:=s.heap.update t (Obj.mapFields (·.setIfInBounds 3 Value.none))}) (b0:=b0) hfr (zZ hl (λ b hb=>(hl.mem hb).1) λ b o q hb=>other b o q λ z=>nt (z▸hb)) hf (other a oe he (Ne.symm hne)) hc hn hd (Array.getElem?_eq_some_iff.mp h1).1 λ h' t' ld=>?_;refine h h' t' ⟨ld.exc,?_,λ b o q n1 n2 n3=>ld.keep b o (other b o q λ z=>n2 (by rw[z])) n1 (by simp) n3,λ b o q hm=>ld.slot b o (other b o q λ z=>nt (z▸hm)) hm⟩;by_cases z:t'=t
  ·exact .inl (by rw[z])
  ·refine .inr ?_;rcases ld.old with q |q
   ·cases q
   ·cases q2:s.heap.get? t' with
    |none=>rfl
    | some o=>
     have q3:=other t' o q2 z;have q:(s.heap.update t (Obj.mapFields (·.setIfInBounds 3 Value.none))).get? t'=none:=q;rw[q] at q3;cases q3
theorem Yc {env:PySem.Env} {outer:List PySem.Env} {L a C:Addr} {T:Option Addr} {b0:Heap} {Q:Unit->Shared->Prop} (hfr:A.frames=some (env::outer)) (hl:s.heap.FunFrames b0 (env::outer)) (hf:env.frame=some L) (x:Exc s.heap a C T)
  (h:∀h' t',xM (frs (env::outer)) s.heap h' a C T t'->Q () {s with heap:=h'}):wpAny M A (leaving env (.ref a)) Q E s:=by
 unfold leaving;exact wpAny_bind (Oa hfr hl hf x h)
end
section
variable {P:Program} {w:World} {fs fs':List Addr} {H H' H0:Hp} {s s' s0:Shared} {a C:Addr} {T:Option Addr} {h':Heap} {t':Addr}
theorem ObjOk.ex {H:Hp} {h:Heap} {a:Addr} {o:HO} (x:ObjOk P w H h a o):∃ob,h.get? a=some ob:=by
 induction o with
 |lst xs=>obtain⟨_,_,_,_,e⟩:=x;exact⟨_,e⟩
 |tup xs=>obtain⟨_,_,_,ob,e,_⟩:=x;exact⟨_,e⟩
 |dK kvs=>obtain⟨_,_,_,_,ob,_,_,e,_⟩:=x;exact⟨_,e⟩
 |dT kvs=>obtain⟨_,_,_,_,ob,_,_,e,_⟩:=x;exact⟨_,e⟩
 |set S n=>obtain⟨ob,_,_,_,e,_⟩:=x;exact⟨_,e⟩
 |ins C dx fs=>obtain⟨_,_,_,e,_⟩:=x;exact⟨_,e⟩
 |own y=>exact x
 |xd fs=>obtain⟨_,⟨_,_,_,e,_⟩,_⟩:=x;exact⟨_,e⟩
 |rng lo hi=>obtain⟨_,_,_,e⟩:=x;exact⟨_,e⟩
 |frz ob u ih=>exact⟨_,x.1⟩
 |tbl ps=>obtain⟨_,e,_⟩:=x;exact⟨_,e⟩
 |met f y=>exact⟨_,x⟩
 |ext φ=>exact x.2.1
theorem Et {h:Heap} {b:Addr} (x:HOk P w H h) (e:h.get? b=none):H b=none:=by
 cases q:H b with
 |none=>rfl
 | some u=>
  obtain⟨o,z⟩:=ObjOk.ex (x b u q);rw[e] at z;cases z
theorem xM.hok {h:Heap} (ld:xM fs h h' a C T t') (x:HOk P w H h) (ha:H a=none) (ht:∀t,T=some t->H t=none) (hf:∀b∈fs,H b=none):HOk P w H h':=λ b u e=>by
 have ne:∀c v,H c=some v->c≠a/\T≠some c/\c∉fs:=λ c v q=>⟨λ z=>(by rw[z,ha] at q;cases q),λ z=>(by rw[ht c z] at q;cases q),λ z=>(by rw[hf c z] at q;cases q)⟩;refine (x b u e).stay (λ c v hc q=>?_) (λ _ q=>q) (λ _ _ q=>q) λ _ _ _ _ q=>q;rcases hc with rfl |hc
 ·obtain⟨n1,n2,n3⟩:=ne _ _ e;exact ld.keep _ _ q n1 n2 n3
 ·obtain⟨n1,n2,n3⟩:=ne _ _ hc;exact ld.keep _ _ q n1 n2 n3
theorem zp.land (r:zp P w fs H s a C T s' H') (hs:∀b∈fs',b∈fs) (ld:xM fs' s'.heap h' a C T t') (hf:∀b∈fs,H' b=none):zp P w fs H s a C (some t') {s' with heap:=h'} H':=by
 have ne:∀b o,s.heap.get? b=some o->b≠a/\T≠some b:=λ b o q=>⟨λ z=>(by rw[z,r.na] at q;cases q),λ z=>(by rw[(r.nt b z).1] at q;cases q)⟩;have any:∀b o,s.heap.get? b=some o->∀o',s'.heap.get? b=some o'->∃sl,h'.get? b=some {o' with slots:=sl}:=λ b o q o' q'=>by
  by_cases hb:b∈fs'
  ·exact ld.slot b o' q' hb
  ·exact⟨o'.slots,ld.keep b o' q' (ne b o q).1 (ne b o q).2 hb⟩
 refine⟨r.same,⟨λ b o q n hb hx=>?_,λ b o q n hb hx=>?_,r.un.free,λ b o q hx=>?_,r.un.tups,r.un.frzs,r.un.tbls⟩,ld.hok r.hok r.ha (λ t z=>(r.nt t z).2) λ b hb=>hf b (hs b hb),r.os,r.bare,ld.exc,r.na,r.ha,λ t z=>?_⟩
 ·exact ld.keep b o (r.un.keep b o q n hb hx) (ne b o q).1 (ne b o q).2 λ z=>hb (hs b z)
 ·obtain⟨sl,e⟩:=r.un.slot b o q n hb hx;obtain⟨sl',e'⟩:=any b o q _ e;exact⟨sl',e'⟩
 ·obtain⟨o',e⟩:=r.un.there b o q hx;obtain⟨sl',e'⟩:=any b o q _ e;exact⟨_,e'⟩
 ·cases z;rcases ld.old with z |z
  ·exact r.nt t' z
  ·refine⟨?_,Et r.hok z⟩;cases q:s.heap.get? t' with
   |none=>rfl
   | some o=>
    obtain⟨o',e⟩:=r.un.there t' o q (by simp);rw[z] at e;cases e
theorem zp.from {X:Cx} {pins:List (Addr×Obj)} {σ:St} (I:Inv X pins σ H s) (hex:X.ex=[]) (r:zp X.prog X.w (frs X.stack) H s a C T s' H') (sm:Same X.H₀ H):zp X.prog X.w X.fs X.H₀ X.s₀ a C T s' H':=by
 have J:Inv X pins σ H' s':=I.call' r.os r.un r.hok r.bare λ b z=>absurd z (by simp);have b:=J.base;rw[hex] at b;have no:∀c,s.heap.get? c=none->X.s₀.heap.get? c=none:=λ c e=>by
  cases q:X.s₀.heap.get? c with
  |none=>rfl
  | some o=>
   obtain⟨o',e'⟩:=I.base.there c o q (by rw[hex];simp);rw[e] at e';cases e'
 exact⟨sm.trans r.same,b,r.hok,J.os,r.bare,r.exc,no a r.na,r.ha,λ t z=>⟨no t (r.nt t z).1,(r.nt t z).2⟩⟩
end
noncomputable def Yd (P:Program) (w:World):CXT:=λ outer H s E e s'=>∃a C T H',e= .ref a/\E (.ref C) none H'/\zp P w (frs outer) H s a C T s' H'
noncomputable def spX (K:PySem.W.Frag) (n:Nat) (F:List D->R D):Sp:=λ vs H Q E=>∃O ds,aU K O H ds vs/\ds.length=n/\(∀a,O a->∃o,H a=some o)/\match F ds with
 | .ok d=>∀v H',Same H H'->Rep K O H' d v->Q v H'
 | .err c=>∀C H',PySem.W.nsIn K mainGlobals c=some (some (.ref C))->E (.ref C) none H'
 | .bad=>False
section
variable {P:Program} {w:World} {K:PySem.W.Frag} {mg:Str->Option Value} {base:Heap}
end
section
variable {X:Cx} {k n m:Nat} {F:List D->R D} {x:Str} {p pos:Pos} {e:Expr} {es:List Expr} {fa:aA->R (List D)}
end
abbrev adX:List Value:=[.type "ValueError",.type "Exception",.type "BaseException",.type "object"]
structure XCl (K:PySem.W.Frag) (mg:Str->Option Value) (c:Str) (C:Addr):Prop where
 ns:PySem.W.nsIn K mainGlobals c=some (some (.ref C))
 mg:mg c=some (.ref C)
 ex:PySem.W.excIn K C adX "ValueError.__new__" =true
theorem adY {K:PySem.W.Frag} {h:Heap} {C:Addr} {bmB:List Value} {newId:String} (X:K.In h) (q:PySem.W.excIn K C bmB newId=true):
  ∃bm N nm qn bs hdct sn sub ab col dd k0 k1 k2 k3 k5 mN,h.get? C=some (excClassObj nm qn C N bs bm hdct sn sub ab col dd k0 k1 k2 k3 k5 newId)/\h.Ns N mN/\mN "__init__" =none/\OwnTail h bmB bm:=by
 unfold PySem.W.excIn at q;split at q
 ·rename_i d0 cd sl0 e0;split at q
  ·rename_i C1 b1 a0 a1 a2 a3 n1 a5 e1 e2;simp only[Bool.and_eq_true,beq_iff_eq,Bool.not_eq_true'] at q;obtain⟨⟨⟨⟨⟨rfl,rfl⟩,z1⟩,z2⟩,z3⟩,z4⟩:=q;obtain⟨v1,v2,v3,v4,v5,v6,v7,v8,v9,v10,v11⟩:=cd
   dsimp only at e1 z1 z3 z4
   subst e1 z1;obtain⟨l0⟩:=sl0;simp only at e2;subst e2;exact⟨b1,v4,v1,v5,v2,v6,v7,v8,v9,v10,d0,a0,a1,a2,a3,a5,_,X _ _ e0,.of_isNs (PySem.W.isNs_of_in X z3),PySem.W.nsMap_none_of_in X z3 z4,PySem.W.tail_of_in X z2⟩
  ·cases q
 ·cases q
section
variable {X:Cx} {c:Str} {C:Addr} {np cpos pos:Pos} {e:Expr} {fa:aA->R (List D)}
end
section
variable {X:Cx} {pins:List (Addr×Obj)} {σ:St} {H:Hp} {s:Shared}
theorem _root_.L2.Inv.track {a:Addr} {o:Obj} (I:Inv X pins σ H s) (ha:H a=none) (ho:s.heap.get? a=some o) (n0:X.s₀.heap.get? a=none) (nL:a≠X.env.locals) (nc:∀x c,X.env.cells.lookup x=some c->c≠a) (np:∀p∈X.pn++pins,p.1≠a):
  Inv X pins σ (upd H a (.frz o (.own a))) s:=by
 have old:∀b u,H b=some u->upd H a (.frz o (.own a)) b=some u:=λ b u q=>by rw[upd_ne (ne_of_none q ha)];exact q
 refine⟨I.ok,I.os,I.bare,⟨I.base.keep,I.base.slot,λ b ob q n hx=>?_,I.base.there,λ b xs q=>old _ _ (I.base.tups b xs q),λ b ob u q=>old _ _ (I.base.frzs b ob u q),λ b ps q=>?_⟩,I.loc,I.cell,?_,λ x c q=>?_,λ p hp=>?_,λ b u q=>?_,I.len⟩
 ·rw[upd_ne (λ z=>by rw[z,n0] at q;cases q)];exact I.base.free b ob q n hx
 ·obtain⟨more,e⟩:=I.base.tbls b ps q;exact⟨more,old _ _ e⟩
 ·rw[upd_ne (Ne.symm nL)];exact I.free
 ·rw[upd_ne (nc x c q)];exact I.freeC x c q
 ·obtain⟨e,n,r⟩:=I.pin p hp;exact⟨e,by rw[upd_ne (np p hp)];exact n,r⟩
 ·by_cases hb:b=a
  ·subst hb;rw[upd_same] at q;cases q;exact⟨ho,o,ho⟩
  ·rw[upd_ne hb] at q;exact (I.hok b u q).stay (λ _ _ _ z=>z) (λ c z=>old _ _ z) (λ c xs z=>old _ _ z) λ c o u _ z=>old _ _ z
theorem _root_.L2.Inv.gone {h':Heap} {m':Str->Option Value} {t':Nat} (I:Inv X pins σ H s) (hn:h'.Ns X.env.locals m') (hs:Heap.SameBut X.env.locals s.heap h'):Inv X pins (List.replicate X.N.length none) H {s with heap:=h',toks:=t'}:=by
 have to:∀b ob,X.s₀.heap.get? b=some ob->b≠X.env.locals:=λ b ob q=>Nat.ne_of_lt (Nat.lt_of_lt_of_le (Heap.lt_size q) I.ok.above);refine⟨I.ok,I.os,I.bare,⟨λ b ob q n hb hx=>?_,λ b ob q n hb hx=>?_,I.base.free,λ b ob q hx=>?_,I.base.tups,I.base.frzs,I.base.tbls⟩,⟨m',hn,λ i x v _ e2 _=>?_⟩,λ x c q=>?_,I.free,I.freeC,λ p hp=>?_,λ b u q=>?_,by simp⟩
 ·exact (hs.2 b (to b ob q)).trans (I.base.keep b ob q n hb hx)
 ·obtain⟨sl,e⟩:=I.base.slot b ob q n hb hx;exact⟨sl,(hs.2 b (to b ob q)).trans e⟩
 ·obtain⟨o',e⟩:=I.base.there b ob q hx;exact⟨o',(hs.2 b (to b ob q)).trans e⟩
 ·rw[List.getElem?_replicate] at e2;split at e2 <;> cases e2
 ·obtain⟨v,z⟩:=I.cell x c q;exact⟨v,z.sameBut hs (I.cne x c q)⟩
 ·obtain⟨e,n,ne,r⟩:=I.pin p hp;exact⟨(hs.2 p.1 ne).trans e,n,ne,r⟩
 ·refine (I.hok b u q).stay (λ c w' hc z=>(hs.2 c ?_).trans z) (λ _ z=>z) (λ _ _ z=>z) λ _ _ _ _ z=>z
  rintro rfl
  rcases hc with hc |hc
  ·rw[<-hc,I.free] at q;cases q
  ·rw[I.free] at hc;cases hc
noncomputable abbrev _root_.L2.Cx.Gi (X:Cx) (a:Addr):Cx:={X with A:=X.A.mark (some (.ref a)),calm:=false,xe:=λ _ _=>False}
theorem _root_.L2.Inv.Gi (I:Inv X pins σ H s) (a:Addr):Inv (X.Gi a) pins σ H s:=
 ⟨⟨I.ok.mod,I.ok.kind,I.ok.glob,I.ok.blt,I.ok.above,I.ok.inj,I.ok.has,I.ok.cab,λ z=>Bool.noConfusion z,I.ok.frames,I.ok.stk,I.ok.exf,I.ok.bs,I.ok.bsz,I.ok.noex,I.ok.exfs,I.ok.funs,I.ok.frf⟩,I.os,I.bare,I.base,I.loc,I.cell,I.free,I.freeC,I.pin,I.hok,I.len⟩
theorem _root_.L2.Inv.agB {a:Addr} (ok:X.Ok) (I:Inv (X.Gi a) pins σ H s):Inv X pins σ H s:=⟨ok,I.os,I.bare,I.base,I.loc,I.cell,I.free,I.freeC,I.pin,I.hok,I.len⟩
theorem At.cx {Y:Cx} {H0:Hp} {O0 O:Addr->Prop} {ρ:aA} (j:At X H0 O0 O H ρ σ) (hK:Y.K=X.K) (hN:Y.N=X.N):At Y H0 O0 O H ρ σ:=
 ⟨j.same,by rw[hK];exact j.fD,j.sub,⟨by rw[hK];exact j.inn.env,j.inn.al,by rw[hN];exact j.inn.len,by rw[hN];exact j.inn.nF⟩,j.mine⟩
theorem At.agC {H0:Hp} {O0 O:Addr->Prop} {ρ:aA} (j:At X H0 O0 O H ρ σ) {i:Nat} (hi:i < X.N.length) {t:Ob} {v:V} (r:pG X.K H t v):At X H0 O0 O H (ρ.set i (some (.obj t))) (σ.set i (some v)):=by
 have h1:i < ρ.length:=by rw[j.inn.nF];exact hi
 have h2:i < σ.length:=by rw[j.inn.len];exact hi
 refine⟨j.same,j.fD,j.sub,⟨⟨λ k e q=>?_,λ k l e e' u hkl hk hl ok ol sk sl=>?_⟩,j.inn.al,by rw[List.length_set];exact j.inn.len,by rw[List.length_set];exact j.inn.nF⟩,λ k e a q ho hs=>?_⟩
 ·by_cases hki:k=i
  ·subst hki;rw[List.getElem?_set_self h1] at q;cases q;exact⟨v,List.getElem?_set_self h2,r⟩
  ·rw[List.getElem?_set_ne (Ne.symm hki)] at q |-;exact j.inn.env.get k e q
 ·by_cases hki:k=i
  ·subst hki;rw[List.getElem?_set_self h1] at hk;cases hk;cases ok
  ·by_cases hli:l=i
   ·subst hli;rw[List.getElem?_set_self h1] at hl;cases hl;cases ol
   ·rw[List.getElem?_set_ne (Ne.symm hki)] at hk sk;rw[List.getElem?_set_ne (Ne.symm hli)] at hl sl;exact j.inn.env.sep k l e e' u hkl hk hl ok ol sk sl
 ·by_cases hki:k=i
  ·subst hki;rw[List.getElem?_set_self h1] at q;cases q;cases ho
  ·rw[List.getElem?_set_ne (Ne.symm hki)] at q hs;exact j.mine k e a q ho hs
end
noncomputable abbrev _root_.L2.Cx.T9 (X:Cx) (E:Value->Shared->Prop) (pn:List (Addr×Obj)):Cx:={X with xe:=E,pn:=pn}
section
variable {X:Cx} {pins:List (Addr×Obj)} {σ:St} {H:Hp} {s:Shared} {E:Value->Shared->Prop}
theorem _root_.L2.Inv.T9 (I:Inv X pins σ H s) (E:Value->Shared->Prop):Inv (X.T9 E (X.pn++pins)) [] σ H s:=
 ⟨⟨I.ok.mod,I.ok.kind,I.ok.glob,I.ok.blt,I.ok.above,I.ok.inj,I.ok.has,I.ok.cab,I.ok.hd,I.ok.frames,I.ok.stk,I.ok.exf,I.ok.bs,I.ok.bsz,I.ok.noex,I.ok.exfs,I.ok.funs,I.ok.frf⟩,I.os,I.bare,I.base,I.loc,I.cell,I.free,I.freeC,λ p hp=>I.pin p (by rw[List.append_nil] at hp;exact hp),I.hok,I.len⟩
theorem _root_.L2.Inv.vX {p1:List (Addr×Obj)} (ok:X.Ok) (I:Inv (X.T9 E (X.pn++pins)) p1 σ H s):Inv X pins σ H s:=
 ⟨ok,I.os,I.bare,I.base,I.loc,I.cell,I.free,I.freeC,λ p hp=>I.pin p (List.mem_append_left _ hp),I.hok,I.len⟩
theorem _root_.L2.SP.vX {D:Ends} {f:Flow} {s':Shared} (ok:X.Ok) (h:SP (X.T9 E (X.pn++pins)) [] D f s'):SP X pins D f s':=by
 cases f with
 |next=>obtain⟨σ',H',I,q⟩:=h;exact⟨σ',H',I.vX ok,q⟩
 |brk=>obtain⟨σ',H',I,q⟩:=h;exact⟨σ',H',I.vX ok,q⟩
 |cont=>obtain⟨σ',H',I,q⟩:=h;exact⟨σ',H',I.vX ok,q⟩
 |ret u=>obtain⟨v,σ',H',I,r,q⟩:=h;exact⟨v,σ',H',I.vX ok,r,q⟩
end
section
variable {X:Cx} {t n:Str} {CT:Addr} {np hpos pos:Pos} {body suite:List Stmt} {b₀:Stmt} {g h:aA->So} {sub:Str->Str->Bool}
theorem adZ (i:Nat) (hN:X.N.Nodup) (hst:X.stack=X.env::X.outer) (hfr:X.env.frame=some X.env.locals) (hex:X.ex=[]) (hm:X.mg t=some (.ref CT))
  (hx:∀c C,sub c t=true->PySem.W.nsIn X.K mainGlobals c=some (some (.ref C))->PySem.W.exmOne X.K (.ref C) (.ref CT)=some true)
  (hb:∀E pn,nU (X.T9 E pn) body g) (hh:∀a,nU (X.Gi a) (b₀::suite) h) (hg:Gl X t:=by rfl) (hi:X.N[i]?=some n:=by rfl) (hl:X.env.kindOf n=some .local:=by rfl) (hdb:(t ==("__debug__" :Str))=false:=by decide):
  DS X (.Try body [.ExceptHandler (some (.Name t np)) (some n) (b₀::suite) hpos] [] [] pos) (N6 sub t i g h):=by
 intro pins s σ H E I q;obtain⟨H0,O0,O,ρ,j,q⟩:=q;refine wpAny_Try_except ?_;have hin:i < X.N.length:=(List.getElem?_eq_some_iff.mp hi).1;have hcls:(X.env.scope.kind == .class || (X.env.scope.kind == .module && X.env.locals !=X.env.globals))=false:=by rw[I.ok.kind];rfl
 refine wpAny_mono (hb _ (X.pn++pins) [] s σ H E (I.T9 _) ⟨H0,O0,O,ρ,j.cx rfl rfl,?_⟩) (λ f s1 z=>?_) λ _ _ z=>z
 ·-- the body's ends
  unfold N6 at q;cases eg:g ρ with
  |bad=>rw[eg] at q;exact q
  |nx ρ1=>rw[eg] at q;exact λ σ' H' O' j' r'=>q σ' H' O' (j'.cx rfl rfl) r'
  |bk ρ1=>rw[eg] at q;exact λ σ' H' O' j' r'=>q σ' H' O' (j'.cx rfl rfl) r'
  |ct ρ1=>rw[eg] at q;exact λ σ' H' O' j' r'=>q σ' H' O' (j'.cx rfl rfl) r'
  |rt d=>rw[eg] at q;exact q
  | ex c ρ1 =>
   rw[eg] at q;simp only at q;by_cases hs:sub c t=true
   ·rw [if_pos hs] at q;intro σ1 H1' O1 j1 H1 ag0 s1 a C T s2 H2 sm I1w hC rs;have I1:Inv X pins σ1 H1 s1:=I1w.vX I.ok;have J1:Inv X pins σ1 H2 s2:=I1.call' rs.os rs.un rs.hok rs.bare λ b z=>absurd z (by simp);refine Oa (b0:=X.base) (outer:=X.outer) (by rw[J1.ok.frames,hst]) (by have:=J1.stack;rwa [hst] at this) hfr rs.exc λ h3 t3 ld=>?_;have agD:∀b∈frs (X.env::X.outer),b∈frs X.stack:=λ b z=>by rw[hst];exact z
    have r3:zp X.prog X.w (frs X.stack) H1 s1 a C (some t3) {s2 with heap:=h3} H2:=zp.land rs agD ld J1.stkFree;have J3:Inv X pins σ1 H2 {s2 with heap:=h3}:=I1.call' r3.os r3.un r3.hok r3.bare λ b z=>absurd z (by simp);obtain⟨oe,vs,x1,x2,x3,x4,x5,x6,ot,ts,y1,y2,y3⟩:=r3.exc;refine wpAny_handleBy_cons (codeAny_handlers_test (ld_glob (X:=X.Gi a) (J3.Gi a) hg hm ?_ hdb)) (by intro z;cases z);have LT:PySem.W.Looks (model X.prog X.w) h3 (typeOf (.ref a)) (.ref C):=x2▸(PySem.W.Looks.ld x1).andThen .now;refine (PySem.W.exm_one J3.kIn LT (hx c C hs hC)).here ?_;simp only[if_true];refine codeAny_handlers_suite_as ?_;refine wpAny_setFlight_none x1 x4 x5 y1 y2 (Array.getElem?_eq_some_iff.mp y3).1 ?_;have afE:h3.update t3 (Obj.mapFields (·.setIfInBounds 3 Value.none))=h3:=Heap.update_setField_same h3 t3 ot ts 3 Value.none y1 y2 y3;show wpAny _ _ _ _ _ {s2 with heap:=h3.update t3 (Obj.mapFields (·.setIfInBounds 3 Value.none))};rw[afE];have na1:∀b ob,s1.heap.get? b=some ob->b≠a:=λ b ob z e=>by rw[e,rs.na] at z;cases z
    have K3:Inv X pins σ1 (upd H2 a (.frz oe (.own a))) {s2 with heap:=h3}:=by
     refine J3.track r3.ha x1 ?_ ?_ (λ y cc z=>?_) λ p hp=>?_
     ·cases z:X.s₀.heap.get? a with
      |none=>rfl
      | some ob=>
       obtain⟨o',e⟩:=I1.base.there a ob z (by rw[hex];simp);rw[rs.na] at e;cases e
     ·intro z;obtain⟨m,⟨ob,_,_,e,_⟩,_⟩:=I1.loc;exact na1 _ _ e z.symm
     ·obtain⟨v,ob,e,_⟩:=I1.cell y cc z;exact na1 _ _ e
     ·exact na1 _ _ (I1.pin p hp).1
    refine store_ok (X:=X.Gi a) (v:= .ref a) (K3.Gi a) hN hi (.inl hl) rfl (λ s4 J4=>?_) (.inr hl);have jx:At X H0 O0 O1 H1' ρ1 σ1:=j1.cx rfl rfl;have sm3:Same H1' (upd H2 a (.frz oe (.own a))):=(sm.trans rs.same).trans (Same.upd r3.ha);have j4:At (X.Gi a) H0 O0 O1 (upd H2 a (.frz oe (.own a))) (ρ1.set i (some (.obj (.exc c)))) (σ1.set i (some (.ref a))):=
     ((jx.grow sm3).agC (t:= .exc c) (v:= .ref a) hin ⟨a,oe,C,rfl,upd_same,x2,x3,⟨vs,x4⟩,hC⟩).cx rfl rfl
    cases eh:h (ρ1.set i (some (.obj (.exc c)))) with
    | rt d=>
     rw[eh] at q;refine wpAny_mono (hh a pins s4 _ _ {nx:=λ _ _=>False,rt:=E.rt} J4 ⟨H0,O0,O1,_,j4,by rw[eh];exact q⟩) (λ f s5 z=>?_) λ _ _ z=>z.elim;cases f with
     |next=>obtain⟨_,_,_,z⟩:=z;exact z.elim
     |brk=>obtain⟨_,_,_,z⟩:=z;exact z.elim
     |cont=>obtain⟨_,_,_,z⟩:=z;exact z.elim
     | ret u=>
      obtain⟨v,σ5,H5,J5,r5,q5⟩:=z;have J5':Inv X pins σ5 H5 s5:=J5.agB I.ok;obtain⟨m,hn,_⟩:=J5'.loc;exact wpAny_nameGoes hl hn hcls λ h6 m6 hn6 hs6=>⟨v,_,H5,J5'.gone hn6 hs6,r5,q5⟩
    |bad=>rw[eh] at q;exact q.elim
    |nx _=>rw[eh] at q;exact q.elim
    |bk _=>rw[eh] at q;exact q.elim
    |ct _=>rw[eh] at q;exact q.elim
    |ex _ _=>rw[eh] at q;exact q.elim
   ·rw[if_neg hs] at q;exact q.elim
 ·cases f with
  |next=>exact wpAny_execs_nil (z.vX I.ok)
  |brk=>exact z.vX I.ok
  |cont=>exact z.vX I.ok
  |ret u=>exact z.vX I.ok
end
structure Gj (K:PySem.W.Frag) (C:Addr):Prop where
 g1:PySem.W.findIn K (.ref C) "__getattribute__" =some (some (.builtin "BaseException.__getattribute__"))
 g2:PySem.W.findIn K (.ref C) "__getattr__" =some none
 cl:(PySem.W.clsIn K C).isSome=true
 ha:PySem.W.findIn K (.ref C) "__class__" =some (some (.builtin "object.__class__"))
 hn:PySem.W.specialIn K (.builtin "object.__class__") "__get__" =some (some (.builtin "getset_descriptor.__get__"))
 ht:PySem.W.takesIn K (.builtin "object.__class__")=some true
 hm:PySem.W.mroIn K C (.type "object")=some true
 hb:PySem.W.mroIn K C (.type "BaseException")=some true
section
variable {prog:Program} {w:World} {A:Around} {E:Value->Shared->Prop} {s:Shared} {K:PySem.W.Frag} {x C:Addr} {ox:Obj} {od:Option Obj}
theorem Ye {K:PySem.W.Frag} {C:Addr} {od:Option Obj} {name:Str} {a g:Value} (hc:(PySem.W.clsIn K C).isSome=true) (ha:PySem.W.findIn K (.ref C) name=some (some a)) (hg:PySem.W.specialIn K a "__get__" =some (some g)) (ht:PySem.W.takesIn K a=some true):PySem.W.findObj K C od name=some (.bind g a):=by
 obtain⟨cd,e⟩:=Option.isSome_iff_exists.mp hc;unfold PySem.W.findObj;rw[e,Option.bind_some,ha,Option.bind_some];simp[hg,ht]
theorem Yg {Q:Option Value->Shared->Prop} (X:K.In s.heap) (I:PySem.W.InstAt s.heap x ox C od) (F:Gj K C) (h:Q (some (.ref C)) {s with toks:=s.toks+1}):wpAny (model prog w) A (getAttr? (.ref x) "__class__") Q E s:=by
 obtain⟨hh,g,d,t,os⟩:=s;have L0:=I.type (M:=model prog w);have L1:=PySem.W.looks_findIn (M:=model prog w) X F.g1;have L2:=PySem.W.looks_findIn (M:=model prog w) X F.g2;have L4:=PySem.W.looks_find (M:=model prog w) X I (Ye (od:=od) F.cl F.ha F.hn F.ht);have LB:=PySem.W.looks_mroIn (M:=model prog w) X F.hb;have f3:=PySem.F.attrBase_ValueError.ga.bind (.ref x);unfold getAttr? getAttrBy? getAttrBy;refine wpAny_bind (wpAny_mkText (wpAny_bind (wpAny_attempt (wpAny_holding (wpAny_bind (L0.at (wpAny_bind (L1.at ?_))))))));have hx1:(onTheHeap (Value.ref C) && Value.builtin "BaseException.__getattribute__" ==Value.builtin "object.__getattribute__")=false:=by
  rw[show (Value.builtin "BaseException.__getattribute__" ==Value.builtin "object.__getattribute__")=false from by decide +kernel];exact Bool.and_false _
 dsimp only
 rw[hx1,if_neg Bool.false_ne_true];unfold getAttrByItsOwn hookBefore;rw[if_pos (show onTheHeap (Value.ref C)=true from rfl)];refine wpAny_bind (L2.at (wpAny_bind (wpAny_attempt (wpAny_holding ?_))));unfold callGetattribute;rw[Bool.false_and,if_neg Bool.false_ne_true];unfold boundAndCalled;rw[f3];refine wpAny_bind (wpAny_pure ?_);refine wpAny_call (codeAny_call_builtin PySem.F.attrBase_ValueError.ga.plain PySem.F.entry_bexc_ga ?_);have hk:builtinKind "BaseException.__getattribute__" =some .slot:=by decide +kernel
 have hsp:splitId "BaseException.__getattribute__" =some ("BaseException","__getattribute__"):=by decide +kernel
 have ha:=PySem.F.args_bexc_ga (.ref x) (.str (Str.ofString "__class__") t);simp only[checkBuiltinCall,hk,hsp,List.cons_append,List.nil_append];unfold isInstance;refine wpAny_bind (wpAny_bind (L0.at (LB.at ?_)));rw[Bool.not_true,if_neg Bool.false_ne_true];refine wpAny_of_eq (a:=()) ha ?_;unfold Builtin.«object.__getattribute__»;refine wpAny_bind (wpAny_pure ?_);refine wpAny_bind (wpAny_pure ?_);refine wpAny_bind (L0.at (wpAny_bind (L4.at ?_)));show wpAny _ _ (holding [Value.builtin "object.__class__"] (call (Value.builtin "getset_descriptor.__get__") [Value.builtin "object.__class__",.ref x,.ref C]) >>=ret) _ _ _;refine wpAny_bind (wpAny_holding (wpAny_call (PySem.W.class_get (s:=⟨hh,g,d,t+1,os⟩) (od:=od) X I F.hm (wpAny_pure ?_))));exact PySem.W.handed_on rfl (wpAny_pure h)
theorem aaI (F:Gj K C):PySem.W.KitX K (.ref x) (.ref C) (λ h=>PySem.W.InstAt h x ox C od) where
 ty:=λ _ _ _ I=>I.type
 it :=λ _ _ X _=>by
  obtain⟨cd,hcd⟩:=Option.isSome_iff_exists.mp F.cl;unfold PySem.W.clsIn at hcd;split at hcd
  ·rename_i v1 v2 v3 v4 ho;intro A' Q' E' s' k q;unfold isType loadHead;exact wpAny_bind (wpAny_loadPart (k _ _ (X _ _ ho)) (wpAny_pure q))
  ·cases hcd
 ne :=λ h tp dd its n sl X htp=>by
  obtain⟨cd,hcd⟩:=Option.isSome_iff_exists.mp F.cl;refine Bool.eq_false_iff.mpr λ q=>?_;have e:C=tp:=Value.ref.inj (beq_iff_eq.mp q);subst e;unfold PySem.W.clsIn at hcd;split at hcd
  ·rename_i v1 v2 v3 v4 ho;cases (X _ _ ho).symm.trans htp
  ·cases hcd
 ca:=λ X I k=>Yg X I F k
end
section
variable {X:Cx} {sub:Str->Str->Bool}
theorem Vm {T:Str} {vt:V} {ut:Value} (hut:∀u,RelV vt u->u=ut) (hq:∀c C,sub c c=true->PySem.W.nsIn X.K mainGlobals c=some (some (.ref C))->Gj X.K C/\PySem.W.kitOne X.K (.ref C) ut=some (sub c T)):
  CallR X (.builtin "isinstance") (λ xs H Q=>∃x c,xs=[x,vt]/\sub c c=true/\pG X.K H (.exc c) x/\Q (.bl (sub c T)) H):=by
 intro pins s σ H xs us Q I r h;obtain⟨x,c,rfl,hc,⟨a,o,C,rfl,hH,h1,h2,⟨vs,h3⟩,h4⟩,q⟩:=h;obtain⟨u,u2,rfl,rx,r2⟩:=vals2 r;cases (show u=Value.ref a from rx);cases hut u2 r2;obtain⟨F,e⟩:=hq c C hc h4;obtain⟨ho,_⟩:=I.hok a _ hH;refine PySem.W.kia_one (aaI (x:=a) (ox:=o) (od:=none) F) I.kIn ⟨ho,h1,by unfold PySem.W.notCls;rw[h3],by rw[h2];trivial⟩ e (λ z=>nomatch z) λ tk=>⟨.bl _,H,I.tok _,rfl,q⟩
theorem Oc (i:Nat) {T n:Str} {vt:V} {ut:Value} {p p1 p2 pos:Pos} (hg:Gl X "isinstance") (hm:X.mg "isinstance" =none) (hT:PE X (.Name T p2) (tC vt)) (hut:∀u,RelV vt u->u=ut)
  (hq:∀c C,sub c c=true->PySem.W.nsIn X.K mainGlobals c=some (some (.ref C))->Gj X.K C/\PySem.W.kitOne X.K (.ref C) ut=some (sub c T))
  (hN:X.N[i]?=some n:=by rfl) (hv:Vis X.env.scope n:=by first |exact Or.inl rfl |exact Or.inr (Or.inl rfl) |exact Or.inr (Or.inr rfl)) (hd:(n ==("__debug__" :Str))=false:=by decide) (hcd:(n ==("__classdict__" :Str))=false:=by decide)
  (hs:starEach [.Name n p1,.Name T p2] X.env=(false,eval (.Name n p1) X.env)::starEach [.Name T p2] X.env:=by rfl) (hs2:starEach [.Name T p2] X.env=(false,eval (.Name T p2) X.env)::starEach [] X.env:=by rfl) (hpl:(backTo pos (starEach [.Name T p2] X.env)).any (·.1)=false:=by rfl):
  DE X (.Call (.Name "isinstance" p) [.Name n p1,.Name T p2] [] pos) (vK sub i T):=by
 refine PE.imp (pe_callB (Vm (T:=T) hut hq) hg hm boot_isinstance (pa_cons (pe_var hN hv hd hcd) (pa_cons hT pa_nil hs2) hs) (by decide) (by decide) hs hpl) λ σ H Q h=>?_;obtain⟨ρ,O,j,h⟩:=h;unfold vK at h;cases q:ρ[i]? with
 |none=>rw[q] at h;exact h.elim
 | some oe =>
  rw[q] at h;cases oe with
  |none=>exact h.elim
  | some en=>
   cases en with
   |val _=>exact h.elim
   |lst _=>exact h.elim
   |zm _=>exact h.elim
   | obj t=>
    cases t with
    |fn _=>exact h.elim
    | exc c=>
     have h:good X (rD X) O (if sub c c=true then .ok (.bl (sub c T)) else .bad) σ H Q:=h;by_cases hc:sub c c=true
     ·rw[if_pos hc] at h;obtain⟨v,hv1,hv2⟩:=j.env.get i _ q;exact⟨v,hv1,v,c,rfl,hc,hv2,fin h (fG _)⟩
     ·rw[if_neg hc] at h;exact h.elim
end
noncomputable def Itv (K:PySem.W.Frag) (l:Addr) (n:Nat):It:=
 ⟨λ i H=>∃xs x,SqL K H l xs/\xs.length=n/\i < n/\xs[n - 1 - i]?=some x,λ i H x H'=>H'=H/\∀xs,SqL K H l xs->xs[n - 1 - i]?=some x,λ i _=>n<=i⟩
theorem aaJ {P:Program} {w:World} {K:PySem.W.Frag} {tg:Expr} {l it:Addr} {n:Nat}:Turn P w K tg (Itv K l n) [it] it (λ i h=>i<=n/\h.IsRevIter it l ((n:Int) - 1 - (i:Int))) where
 mem:=by simp
 obj:=λ i h st b hb=>by
  have e:b=it:=by simpa using hb
  subst e;obtain⟨_,o,e,c,d⟩:=st;exact⟨o,e,λ v z=>by rw[d] at z;cases z⟩
 keep:=λ i h h' st k=>⟨st.1,st.2.at λ o e=>k it (by simp) o e⟩
 item:=by
  intro X hP hw hK hc i pins s σ H E I hf st hg;subst hP hw hK;obtain⟨xs,x,hq,hn,hi,hx⟩:=hg;obtain⟨its,rv,p,hz⟩:=I.list hq;obtain⟨u,hu,ru⟩:=rv.get hx;obtain⟨f0,f1,f2,f3,f4,f5⟩:=hf it (by simp);have e1:(n:Int) - 1 - (i:Int)=((n - 1 - i:Nat):Int):=by omega
  have st1:=st.2;rw[e1] at st1;refine wpAny_pyNext_rev_item st1 p.isList (x:=u) (by simpa using hu) λ h' st' sb=>?_;have I1:Inv X pins σ H {s with heap:=h'}:=I.turned (t':=s.toks) (λ b o hb e=>(sb.2 b hb).trans e) f0 f1 f3 f4 f5;have e2:((n - 1 - i:Nat):Int) - 1=(n:Int) - 1 - ((i+1:Nat):Int):=by omega
  rw[e2] at st';obtain⟨o,e,c,d⟩:=id st';exact⟨u,rfl,go_of (s:={s with heap:=h'}) e c d (by decide) ⟨x,H,I1,ru,⟨rfl,λ ys hy=>by rw[I.list_inj hy hq];exact hx⟩,⟨hi,st'⟩,λ b hb=>(hf b hb).1⟩⟩
 done:=by
  intro X hP hw hK hc i pins s σ H E I hf st hg;subst hP hw hK;have hg:n=i:=Nat.le_antisymm hg st.1;subst hg;obtain⟨f0,f1,f2,f3,f4,f5⟩:=hf it (by simp);have st1:=st.2;rw[show (n:Int) - 1 - (n:Int)= -1 by omega] at st1;exact wpAny_pyNext_rev_end (I.ok.hd hc) st1 λ h' eb=>⟨rfl,I.turned (t':=s.toks) (λ b o hb e=>eb b o hb e) f0 f1 f3 f4 f5⟩
 self:=λ _ _ _ _ _ st h=>wpAny_pyIter_revIter st.2 h
section
variable {X:Cx} {tg a:Expr} {p pos:Pos} {fa:aA->R (List D)}
noncomputable def agE (K:PySem.W.Frag) (ta:TA):TI:=λ σ H R=>ta σ H λ vs H1=>∃l xs,vs=[.ref l]/\SqL K H1 l xs/\R (Itv K l xs.length) H1
theorem ad0 {ta:TA} (hg:Gl X "reversed") (hm:X.mg "reversed" =none) (ha:PA X [a] ta) (he:starEach [a] X.env=(false,eval a X.env)::starEach [] X.env:=by rfl) (hpl:(backTo pos (starEach [] X.env)).any (·.1)=false:=by rfl):
  PI X tg (.Call (.Name "reversed" p) [a] [] pos) (agE X.K ta):=by
 intro pins s σ H R I h;refine Call_ (ld_blt I hg hm boot_reversed (PyProof.Rows.callWith_type1 (thn (ha pos pins s σ H _ I h) λ us s1 ⟨vs,H1,I1,r1,q1⟩=>?_) he hpl));obtain⟨l,xs,e,hq,q⟩:=q1;subst e;cases r1 with
 | cons r rr=>
  cases rr;cases r;obtain⟨its,rv,p1,hz⟩:=I1.list hq;have hl:its.toArray.size=xs.length:=by rw[List.size_toArray,rv.length]
  refine call_reversed_list p1.isList ?_;rw[hl];have hit:(s1.heap.push (revObj l ((xs.length:Int) - 1))).IsRevIter s1.heap.objs.size l ((xs.length:Int) - 1):=⟨_,Heap.get?_push_size _ rfl,rfl,rfl⟩;refine wpAny_pyIter_revIter (s:={s1 with heap:=s1.heap.push (revObj l ((xs.length:Int) - 1))}) hit ?_;refine⟨s1.heap.objs.size,[s1.heap.objs.size],_,_,H1,rfl,I1.kept (t':=s1.toks) λ b o e=>Heap.get?_push_of_some _ e,aaJ,⟨Nat.zero_le _,?_⟩,λ b hb=>?_,q⟩
  ·rw[show (xs.length:Int) - 1 - ((0:Nat):Int)=(xs.length:Int) - 1 by omega];exact hit
  ·have e:b=s1.heap.objs.size:=by simpa using hb
   subst e;exact I1.fpOk (Nat.le_refl _) (I1.hok.fresh (Nat.le_refl _))
theorem YR.rev {K:PySem.W.Frag} {O:Addr->Prop} {H:Hp} {a:Addr} {ds:List D} {xs:List V} (h:SqL K H a xs) (n:¬O a) (r:aU K O H ds xs):YR K O H (Itv K a xs.length) ds.reverse:=by
 intro O' H' q;have h':SqL K H' a xs:=SqL.ext q.ext n h;have r':=r.go q;intro i;refine⟨λ d e=>?_,λ e=>?_⟩
 ·have hi:i < ds.length:=by
   have:=(List.getElem?_eq_some_iff.mp e).1;simpa using this
  rw[List.getElem?_reverse (by simpa using hi)] at e;have hl:=r.length;obtain⟨v,e1,rv⟩:=r'.get e;rw[hl] at e1;refine⟨⟨xs,v,h',rfl,by omega,e1⟩,λ x H2 y=>?_⟩;obtain⟨eH,y⟩:=y;subst eH;have:=y xs h';rw[e1] at this;cases this;exact⟨Same.refl _,rv⟩
 ·show xs.length<=i;rw[<-r.length];simpa using e
theorem ad1 (hg:Gl X "reversed") (hm:X.mg "reversed" =none) (ha:DA X [a] fa) (he:starEach [a] X.env=(false,eval a X.env)::starEach [] X.env:=by rfl) (hpl:(backTo pos (starEach [] X.env)).any (·.1)=false:=by rfl):
  DI X tg (.Call (.Name "reversed" p) [a] [] pos) (λ ρ=>(fa ρ).bind aaG):=by
 refine PI.imp (ad0 hg hm ha he hpl) λ σ H Q q=>?_;obtain⟨ρ,O,j,q⟩:=q;refine go j q λ ds vs H1 e1 s1 r1 j1 h1=>?_;unfold aaG at h1;split at h1
 ·rename_i xs;obtain⟨v1,rfl,w1⟩:=r1.one;obtain⟨l,us,rfl,hq,hn,rs⟩:=w1.lst;exact⟨l,us,rfl,hq,fin h1 (YR.rev hq hn rs)⟩
 ·exact h1.elim
end
section
variable {X:Cx}
end
theorem Tb.same {ts:List (Addr×Str)} {H H':Hp} (t:Tb ts H) (s:Same H H'):Tb ts H':=λ p hp=>let ⟨ps,tq,e,q⟩:=t p hp;⟨ps,tq,s _ _ e,q⟩
theorem Gk {α β:Type} {F:α->β->Prop}:∀{es:List α} {vs:List β} {i:Nat} {e:α},Paired F es vs->es[i]?=some e->∃v,vs[i]?=some v/\F e v
 |_,_,_,_,.nil,h=>by simp at h
 |_,_,0,_,.cons r _,h=>by simp at h;subst h;exact⟨_,rfl,r⟩
 | _,_,i+1,e,.cons _ t,h=>by
  obtain⟨v,h1,h2⟩:=Gk (i:=i) (e:=e) t (by simpa using h);exact⟨v,by simpa using h1,h2⟩
theorem Vn {α β:Type} {F:α->β->Prop}:∀{es:List α} {vs:List β},Paired F es vs->es.length=vs.length
 :=by
 intro es vs h
 induction h with
 |nil=>rfl
 |cons r t ih=>rw[List.length_cons,List.length_cons,ih]
theorem Gm {α β:Type} {F:α->β->Prop}:∀{es fs:List α} {vs ws:List β},Paired F es vs->Paired F fs ws->Paired F (es++fs) (vs++ws)
 :=by
 intro es fs vs ws h q
 induction h with
 |nil=>exact q
 |cons r t ih=>exact .cons r ih
noncomputable abbrev ad2 (K:PySem.W.Frag) (O:Addr->Prop) (H:Hp):Ent->V->Prop:=λ e v=>rK K O H e v/\e.own=false
theorem vL {K:PySem.W.Frag} {O:Addr->Prop} {H:Hp}:∀{ds:List D} {vs:List V},aU K O H ds vs->Paired (ad2 K O H) (ds.map .val) vs
 |[],vs,r=>by rw[r.nil_inv];exact .nil
 | d::ds,vs,r=>by
  obtain⟨x,t,rfl,h1,h2⟩:=r.cons_inv;exact .cons ⟨h1,rfl⟩ (vL h2)
theorem Eu {X:Cx} {O:Addr->Prop} {H:Hp} {es:List Ent} {vs:List V} {m:Nat} (hl:X.N.length=es.length+m) (r:Paired (ad2 X.K O H) es vs) (al:∀a,O a->∃o,H a=some o):
  At X H O O H (es.map some++List.replicate m none) (vs.map some++List.replicate m none):=by
 have hlen:=Vn r;have get:∀(i:Nat) e,(es.map some++List.replicate m none)[i]?=some (some e)->∃v,(vs.map some++List.replicate m none)[i]?=some (some v)/\rK X.K O H e v/\e.own=false:=λ i e q=>by
  by_cases hi:i < es.length
  ·rw[List.getElem?_append_left (by simpa using hi),List.getElem?_map] at q;cases z:es[i]? with
   |none=>rw[z] at q;cases q
   | some e'=>
    rw[z] at q;cases q;obtain⟨v,h1,h2,h3⟩:=Gk r z;exact⟨v,by rw[List.getElem?_append_left (by rw[List.length_map,<-hlen];exact hi),List.getElem?_map,h1];rfl,h2,h3⟩
  ·rw[List.getElem?_append_right (by simpa using hi),List.getElem?_replicate] at q;split at q <;> cases q
 refine⟨Same.refl _,.refl,λ _ z=>z,⟨⟨λ i e q=>?_,λ i k e e' v _ hi _ oi=>?_⟩,al,?_,?_⟩,λ i e a q ho=>?_⟩
 ·obtain⟨v,h1,h2,_⟩:=get i e q;exact⟨v,h1,h2⟩
 ·obtain⟨_,_,_,h3⟩:=get i e hi;rw[h3] at oi;cases oi
 ·rw[List.length_append,List.length_map,List.length_replicate,<-hlen];exact hl.symm
 ·rw[List.length_append,List.length_map,List.length_replicate];exact hl.symm
 ·obtain⟨_,_,_,h3⟩:=get i e q;rw[h3] at ho;cases ho
theorem Ew {N:List Str} {vs:List V} {m:Nat} (h:N.length=vs.length+m):L2.start N vs=vs.map some++List.replicate m none:=by
 unfold L2.start;rw[show N.length - vs.length=m by omega]
noncomputable def spT (ts:List (Addr×Str)) (K:PySem.W.Frag) (n:Nat) (F:List D->R D):Sp:=λ vs H Q E=>Tb ts H/\M7 K n F vs H Q E
section
variable {P:Program} {w:World} {K:PySem.W.Frag} {mg:Str->Option Value} {base:Heap}
noncomputable def jh (m:Nat) (g:aA->So) (es:List Ent):R D:=match g (es.map some++List.replicate m none) with
 | .rt d=> .ok d
 | .nx _=> .ok .non
 |_=> .bad
theorem Ua {X:Cx} {H:Hp} {O:Addr->Prop} {m:Nat} {g:aA->So} {es:List Ent} {Q:VK} (h:match jh m g es with | .ok d=>∀v H',Same H H'->Rep X.K O H' d v->Q v H' |_=>False):
  wY X H O O H {nx:=λ _ H'=>Q .non H',rt:=Q} (g (es.map some++List.replicate m none)):=by
 unfold jh at h;cases e2:g (es.map some++List.replicate m none) with
 |rt d=>rw[e2] at h;exact λ v H' s' r'=>h v H' s' r'
 |nx ρ'=>rw[e2] at h;exact λ σ' H' O' j' _=>h .non H' j'.same pF
 |bk _=>rw[e2] at h;exact h.elim
 |ct _=>rw[e2] at h;exact h.elim
 |ex _ _=>rw[e2] at h;exact h.elim
 |bad=>rw[e2] at h;exact h.elim
theorem Ub {x qual:Str} {st:Stmt} {f:Addr} {fd:FuncData} {N ps:List Str} {k n m:Nat} {g:aA->So} {ts:List (Addr×Str)} (Fn:Fun K x qual st f fd) (S:FnScope N ps (defScope st)) (hn:ps.length=n) (hm:N.length=n+m)
  (hb:∀(cdv:Value) (A:Around) (outer:List PySem.Env) (s:Shared) (H:Hp) (E:XK),fd.code=cdv->Room k (A.deeper (envOfC qual (defScope st) s.heap.objs.size f cdv))->Tb ts H->nU (cxOf CX0 P w K mg base N qual (defScope st) f cdv A outer s H E).nox (defBody st) g):
  FnOk P w K mg base CX0 (k+1) f fd ps (spT ts K n (λ ds=>jh m g (ds.map .val))):=by
 obtain⟨oc,od,kV,doc,pm,an,cdv,ct,osl,rfl,lk,hcd⟩:=Fn.ex;refine fn_of lk hcd S (λ vs H Q E h=>?_) λ A outer s H vs Q E hr h=>?_
 ·obtain⟨_,O,ds,r,hl,_⟩:=h;rw[hn,<-hl,r.length]
 ·obtain⟨hT,O,ds,r,hl,al,h⟩:=h;have Dq:N.length=vs.length+m:=by rw[hm,<-hl,r.length]
  refine⟨_,(hb cdv A outer s H E rfl hr hT).nox,H,O,O,(ds.map Ent.val).map some++List.replicate m none,?_,Ua h⟩;rw[Ew Dq];exact Eu (X:=(cxOf CX0 P w K mg base N qual (defScope st) f cdv A outer s H E).nox) (by rw[List.length_map,r.length];exact Dq) (vL r) al
end
noncomputable def rO (P:Program) (w:World) (K:PySem.W.Frag) (mg:Str->Option Value) (base:Heap) (k:Nat) (x:Str) (n:Nat) (F:List D->R D) (fd:FuncData) (ps:List Str) (ts:List (Addr×Str)):Prop:=
 ∃f,FnOk P w K mg base CX0 k f fd ps (spT ts K n F)/\mg x=some (.ref f)/\PySem.W.keepIn K (.ref f)=true
section
variable {X:Cx} {k m n:Nat} {fd:FuncData} {ps ks:List Str} {F:List D->R D} {x:Str} {p pos:Pos} {e:Expr} {es:List Expr} {kws:List Keyword} {fa fk:aA->R (List D)} {ts:List (Addr×Str)}
theorem Aa (G:rO X.prog X.w X.K X.mg X.base k x n F fd ps ts) (hT:Tb ts X.H₀) (hr:Room m X.A) (hkm:k<=m) (hb:Binds X.K fd ps []) (ha:DA X (e::es) fa) (hg:Gl X x:=by rfl)
  (hdb:(x ==("__debug__" :Str))=false:=by decide) (he:starEach (e::es) X.env=(false,eval e X.env)::starEach es X.env:=by rfl) (hpl:(backTo pos (starEach es X.env)).any (·.1)=false:=by rfl):
  DE X (.Call (.Name x p) (e::es) [] pos) (aF (aW F n) fa):=by
 obtain⟨f,ok,hm,hk⟩:=G;intro pins s σ H Q I h;refine pe_call (dvs:=[]) (ok.mono hkm) hr hg hm hk hb .nil pass0 ha hdb he hpl pins s σ H Q I ?_;obtain⟨ρ,O,j,h⟩:=h;refine go j h λ ds vs H1 e1 s1 r1 j1 h1=>?_;unfold aW at h1;by_cases hl:ds.length=n
 ·rw[if_pos hl] at h1;rw[List.append_nil];refine⟨(hT.un I.base).same s1,O,ds,r1,hl,j1.al,?_⟩;cases q:F ds with
  |ok d=>rw[q] at h1;exact h1
  |err c=>rw[q] at h1;exact h1
  |bad=>rw[q] at h1;exact h1
 ·rw[if_neg hl] at h1;exact h1.elim
end
theorem Rw {a b:Int} {s t:Tok} {c:Value} (l:List Value) (h:TriplesOk l):TriplesOk (l++[.int a s,.int b t,c]):=by
 fun_induction TriplesOk l with
 |case1=>simp[TriplesOk]
 |case2 x1 x2 x3 x4 x5 rest ih=>simp only[List.cons_append,TriplesOk];exact ih h
 |case3=>exact h.elim
theorem Yh {a b:Int} {s t:Tok} {c cv:Value} {pos:Pos} (l:List Value) (h:TriplesOk l) (e:codeAmong pos (l++[.int a s,.int b t,c])=some cv):codeAmong pos l=some cv\/cv=c:=by
 fun_induction TriplesOk l with
 | case1=>
  simp only[List.nil_append,codeAmong] at e;split at e
  ·cases e;exact .inr rfl
  ·cases e
 | case2 x1 x2 x3 x4 x5 rest ih=>
  simp only[List.cons_append,codeAmong] at e |-;split at e
  ·rename_i z;rw[if_pos z];exact .inl e
  ·rename_i z;rw[if_neg z];exact ih h e
 |case3=>exact h.elim
inductive lF (H:Hp) (a:Addr) (name qual:Str) (params:Arguments) (body:List Stmt) (scope:Scope) (clos:List (Str×Addr)):Prop
 |mk (fo:Obj) (doc pm:Value) (c':Addr) (ctv:Value) (oc:Obj) (vs:Array Value) (t:Tok) (h1:H a=some (.frz fo (.own a))) (h2:fo.data= .func (PySem.W.fnX name qual params body scope clos .none .none doc pm none (.ref c') ctv)) (h3:H c'=some (.frz oc (.own c'))) (h4:oc.data= .fields vs) (h5:vs[1]?=some (.str qual t)):lF H a name qual params body scope clos
theorem lF.fz {H H':Hp} {a:Addr} {name qual:Str} {params:Arguments} {body:List Stmt} {scope:Scope} {clos:List (Str×Addr)} (h:lF H a name qual params body scope clos) (s:∀b o u,H b=some (.frz o u)->H' b=some (.frz o u)):lF H' a name qual params body scope clos:=
 by
 obtain⟨fo,doc,pm,c',ctv,oc,vs,t,h1,h2,h3,h4,h5⟩:=h;exact⟨fo,doc,pm,c',ctv,oc,vs,t,s _ _ _ h1,h2,s _ _ _ h3,h4,h5⟩
structure qJ (base:Heap) (mg:Str->Option Value) (c P:Addr):Prop where
 code:PySem.W.CodeHd base c P
 blt:∃bm ob,mg "__builtins__" =some (.ref bm)/\bm≠builtinsNs/\base.get? bm=some ob/\ob.cls= .type "module"/\ob.dict=some builtinsNs/\ob.data= .plain
section
variable {X:Cx} {pins:List (Addr×Obj)} {σ:St} {H:Hp} {s:Shared}
theorem aci {M:Model} {A:Around} {E:Value->Shared->Prop} {name qual:Str} {params:Arguments} {body:List Stmt} {scope:Scope} {clos:List (Str×Addr)} {pos:Pos} {line:Nat} {c P:Addr} {ps:Array Value} {tq:Tok}
  (I:Inv X pins σ H s) (hB:qJ X.base X.mg c P) (hc:X.env.code= .ref c) (e0:H P=some (.tbl ps)) (q0:ps[0]?=some (.str qual tq)) (hcl:closureFor scope X.env=pure clos):
  wpAny M A (makeFunction name qual params (.stmts body) scope X.env [] [] [] pos line) (λ v s'=>∃a H1,v= .ref a/\Inv X pins σ H1 s'/\Same H H1/\lF H1 a name qual params body scope clos) E s:=by
 obtain⟨qs,hP,tr,al⟩:=I.hok P _ e0;have hgs:s.heap.Ns mainGlobals X.mg:=I.mod.glob.keeps I.bk;have C:PySem.W.CodeHd s.heap c P:=hB.code.keeps I.bk;obtain⟨bm,ob,b1,b2,b3,b4,b5,b6⟩:=hB.blt;have hgP:mainGlobals≠P:=λ q=>by
  obtain⟨o,es,ep,e,hd,_⟩:=hgs;rw[q,hP] at e;cases e;cases hd
 have hbP:bm≠P:=λ q=>by
  have e:=I.bk _ _ b3;rw[q,hP] at e;cases e;cases b4
 have hbG:bm≠mainGlobals:=λ q=>by
  obtain⟨o,es,ep,e,hd,_⟩:=I.mod.glob;rw[q,e] at b3;cases b3;rw[hd] at b6;cases b6
 have hbb:s.heap.BuiltinsAt X.mg P:=⟨bm,ob,b1,b2,hbG,hbP,I.bk _ _ b3,b4,b5,b6⟩;cases hf:codeAmong pos qs.toList with
 | some cv=>
  obtain⟨c',oc,vs,q,t,tq',rfl,h1,h2,h3,h4⟩:=al pos cv hf;rw[q0] at h4;cases h4;refine PySem.W.makeFunction_hit (mg:=X.mg) hcl I.ok.glob hgs hc C hP tr hf hbb λ ctv doc h' tk hk hsz=>?_;have I1:Inv X pins σ H {s with heap:=h',toks:=tk}:=I.kept (t':=tk) hk;have hn:H h'.objs.size=none:=I1.hok.fresh (Nat.le_refl _);refine⟨h'.objs.size,upd H h'.objs.size (.frz _ (.own h'.objs.size)),rfl,I1.laid (t':=tk) (λ b u z=>Heap.get?_push_of_some _ z) (Nat.le_refl _) ⟨Heap.get?_push_size _ rfl,_,Heap.get?_push_size _ rfl⟩,Same.upd hn,?_⟩;exact⟨_,doc,_,c',ctv,oc,vs,t,upd_same,rfl,by rw[upd_ne (ne_of_none h1 hn)];exact h1,h2,h3⟩
 | none =>
  refine PySem.W.makeFunction_K (mg:=X.mg) hcl I.ok.glob hgs hc C hP tr hf hgP hbb λ c' ctv doc h' tk hx hge hlt hrec htb=>?_;obtain⟨c2,oc,vs,t,e2,hoc,hd,hv⟩:=hrec;cases e2;have hn:H c'=none:=I.hok.fresh hge;have old:∀b u,H b=some u->upd H c' (.frz oc (.own c')) b=some u:=λ b u z=>by rw[upd_ne (ne_of_none z hn)];exact z
  have I1 : Inv X pins σ (upd H c' (.frz oc (.own c'))) {s with heap:=h',toks:=tk}:=by
   refine I.call' (ch:=[]) rfl ⟨λ b o q n _ _=>hx b o (λ z=>by rw[z,e0] at n;cases n) q,λ b o q n _ _=>⟨o.slots,hx b o (λ z=>by rw[z,e0] at n;cases n) q⟩,λ b o q n _=>?_,λ b o q _=>?_,λ b xs q=>old _ _ q,λ b o u q=>old _ _ q,λ b p q=>⟨#[],by rw[old _ _ q];simp⟩⟩ (λ b u q=>?_) I.bare (λ b z=>absurd z (by simp))
   ·rw[upd_ne (Nat.ne_of_lt (Nat.lt_of_lt_of_le (Heap.lt_size q) hge))];exact n
   ·by_cases hb:b=P
    ·rw[hb];exact⟨_,htb⟩
    ·exact⟨o,hx b o hb q⟩
   ·by_cases hb:b=c'
    ·subst hb;rw[upd_same] at q;cases q;exact⟨hoc,oc,hoc⟩
    ·rw [upd_ne hb] at q;by_cases hp:b=P
     ·subst hp;rw[e0] at q;cases q;refine⟨_,htb,?_,λ p cv z=>?_⟩
      ·have:=Rw (a:=pos.line) (s:=0) (b:=pos.col) (t:=0) (c:=Value.ref c') qs.toList tr;simpa[rawInt] using this
      ·have z':codeAmong p (qs.toList++[.int pos.line 0,.int pos.col 0,.ref c'])=some cv:=by simpa[rawInt] using z
       rcases Yh _ tr z' with z1 |z1
       ·obtain⟨c3,o3,v3,q3,t3,tq3,y1,y2,y3⟩:=al p cv z1;exact⟨c3,o3,v3,q3,t3,tq3,y1,old _ _ y2,y3⟩
       ·exact⟨c',oc,vs,qual,t,tq,z1,upd_same,hd,hv,q0⟩
     ·exact (I.hok b u q).stay (λ d v hd z=>hx d v (λ y=>hd.elim (λ x=>hp (x.symm.trans y)) λ x=>by rw[y,e0] at x;cases x) z) (λ d z=>old _ _ z) (λ d xs z=>old _ _ z) λ d o u _ z=>old _ _ z
  have hn2:upd H c' (.frz oc (.own c')) h'.objs.size=none:=I1.hok.fresh (Nat.le_refl _);refine⟨h'.objs.size,upd (upd H c' (.frz oc (.own c'))) h'.objs.size (.frz _ (.own h'.objs.size)),rfl,I1.laid (t':=tk) (λ b u z=>Heap.get?_push_of_some _ z) (Nat.le_refl _) ⟨Heap.get?_push_size _ rfl,_,Heap.get?_push_size _ rfl⟩,(Same.upd hn).trans (Same.upd hn2),?_⟩;exact⟨_,doc,_,c',ctv,oc,vs,t,upd_same,rfl,by rw[upd_ne (Nat.ne_of_lt hlt),upd_same],hd,hv⟩
noncomputable def agF (i:Nat) (name qual:Str) (params:Arguments) (body:List Stmt) (scope:Scope) (clos:List (Str×Addr)):TS:=λ D σ H=>∀a H1,Same H H1->lF H1 a name qual params body scope clos->D.nx (σ.set i (some (.ref a))) H1
theorem ad3 (i:Nat) {name qual:Str} {params:Arguments} {body:List Stmt} {scope:Scope} {clos:List (Str×Addr)} {pos:Pos} {c P:Addr} (hN:X.N.Nodup) (hB:qJ X.base X.mg c P) (hT:Tb [(P,qual)] X.H₀) (hc:X.env.code= .ref c) (hcl:closureFor scope X.env=pure clos)
  (hi:X.N[i]?=some name:=by rfl) (hl:Loc X.env.scope name:=by first |exact Or.inl rfl |exact Or.inr rfl) (hq:qualnameIn X.env name name=qual:=by rfl) (hd0:params.defaults=[]:=by rfl) (hk0:params.kw_defaults=[]:=by rfl) (ha:annTrees params none X.env=[]:=by rfl)
  (hf:X.fn name=true\/X.env.scope.names.lookup name=some .local:=by first |exact .inl rfl |exact .inr rfl):PS X (.FunctionDef name params body [] none [] scope none name pos) (agF i name qual params body scope clos):=by
 intro pins s σ H D I h;obtain⟨ps,tq,e0,q0⟩:=(hT.un I.base) (P,qual) (by simp);refine PySem.W.nestDef_K hd0 hk0 ha ?_;rw[hq];refine wpAny_mono (aci I hB hc e0 q0 hcl) (λ v s1 ⟨a,H1,ev,I1,sm,fh⟩=>?_) λ _ _ z=>z;subst ev;exact store_ok I1 hN hi hl (v:= .ref a) rfl (λ s2 I2=>⟨_,H1,I2,h a H1 sm fh⟩) hf
end
noncomputable def Ab (P:Program) (w:World) (K:PySem.W.Frag) (mg:Str->Option Value) (base:Heap) (k:Nat) (G:List D->R D) (n:Nat) (a:Addr) (H:Hp):Prop:=
 ∀ (A:Around) (outer:List PySem.Env) (s:Shared) (H1:Hp) (us:List Value) (vs:List V) (Q:VK) (E:XK),Room k A->Env0 P w K mg base A outer s H1->(∀b o u,H b=some (.frz o u)->H1 b=some (.frz o u))->Vals vs us->M7 K n G vs H1 Q E->
  codeAny (model P w) A (.call (.ref a) ⟨us,[]⟩) (CR CX0 outer P w H1 s Q E) s
noncomputable def CV (i a:Nat) (G:List D->R D) (n:Nat) (fa:aA->R (List D)):aA->R D:=λ ρ=>match ρ[i]? with
 |some (some (.obj (.fn b)))=>if b=a then (fa ρ).bind (aW G n) else .bad
 |_=> .bad
section
variable {X:Cx} {k m n:Nat} {G:List D->R D} {x:Str} {p pos:Pos} {e:Expr} {es:List Expr} {fa:aA->R (List D)} {a:Addr}
theorem Od (i:Nat) (hc:Ab X.prog X.w X.K X.mg X.base k G n a X.H₀) (hr:Room m X.A) (hkm:k<=m) (ha:DA X (e::es) fa) (hN:X.N[i]?=some x:=by rfl) (hv:Vis X.env.scope x:=by first |exact Or.inl rfl |exact Or.inr (Or.inl rfl) |exact Or.inr (Or.inr rfl))
  (hd:(x ==("__debug__" :Str))=false:=by decide) (hcd:(x ==("__classdict__" :Str))=false:=by decide) (he:starEach (e::es) X.env=(false,eval e X.env)::starEach es X.env:=by rfl) (hpl:(backTo pos (starEach es X.env)).any (·.1)=false:=by rfl):
  DE X (.Call (.Name x p) (e::es) [] pos) (CV i a G n fa):=by
 intro pins s σ H Q I h;obtain⟨ρ,O,j,h⟩:=h;unfold CV at h;split at h
 ·rename_i b q;by_cases hb:b=a
  ·subst hb;rw[if_pos rfl] at h;obtain⟨v,hv1,rfl,o,fd,ho,hod⟩:=j.env.get i _ q;have at':∀{s':Shared} {H':Hp},Inv X pins σ H' s'->Same H H'->PySem.W.FnAt b s'.heap:=λ {s' H'} I' sm=>by
    obtain⟨ho',_⟩:=I'.hok b _ (sm _ _ ho);obtain⟨v1,v2,v3,v4⟩:=o;have hod:v3= .func fd:=hod;subst hod;exact⟨v1,v2,fd,v4,ho'⟩
   refine wpAny_Call_Name_kw (thn (pe_var hN hv hd hcd pins s σ H (λ v H1=>v= .ref b/\H1=H) I ⟨_,hv1,rfl,rfl⟩) λ u s1 bM=>?_);obtain⟨v',H1,I1,r1,e1,e2⟩:=bM;subst e1 e2;cases (show u=Value.ref b from r1);have key:tG X (JL X) fa σ H1 (λ vs H2=>Same H1 H2/\M7 X.K n G vs H2 Q E0):=by
    refine go j h λ ds vs H2 e1 s2 r2 j2 h2=>⟨s2,?_⟩;unfold aW at h2;by_cases hl:ds.length=n
    ·rw[if_pos hl] at h2;refine⟨O,ds,r2,hl,j2.al,?_⟩;cases q:G ds with
     |ok d=>rw[q] at h2;exact h2
     |err c=>rw[q] at h2;exact h2
     |bad=>rw[q] at h2;exact h2
    ·rw[if_neg hl] at h2;exact h2.elim
   refine PySem.W.callWith_F (at' I1 (Same.refl _)) (thn (ha pos pins s1 σ H1 _ I1 key) λ us s2 ⟨vs,H2,I2,r,sm,q2⟩=>⟨at' I2 sm,?_⟩) he hpl;refine wpAny_call (codeAny_mono (hc X.A X.stack s2 H2 us vs Q E0 (hr.mono hkm) I2.env0 I2.base.frzs r q2) λ r s' hq=>?_);cases r with
   |error e=>exact pass0 pins σ H2 s2 e s' I2 hq
   | ok fl=>
    cases fl with
    |ret u=>exact I2.after hq
    |next=>exact False.elim hq
    |brk=>exact False.elim hq
    |cont=>exact False.elim hq
  ·rw[if_neg hb] at h;exact h.elim
 ·exact h.elim
end
inductive SpS (P:Program) (w:World) (mg:Str->Option Value) (base:Heap) (k:Nat) (K:PySem.W.Frag) (n q:Nat) (F:Addr->(List D->R D)->List D->R D) (vs:List V) (H:Hp) (Q:VK):Prop
 | mk (O:Addr->Prop) (ds:List D) (xs:List V) (a:Addr) (G:List D->R D) (e:vs=xs++[.ref a]) (r:aU K O H ds xs) (hl:ds.length=n) (al:∀b,O b->∃o,H b=some o) (ro:pG K H (.fn a) (.ref a)) (hc:Ab P w K mg base k G q a H) (h:match F a G ds with
  | .ok d=>∀v H',Same H H'->Rep K O H' d v->Q v H'
  |_=>False):SpS P w mg base k K n q F vs H Q
noncomputable def spS (P:Program) (w:World) (mg:Str->Option Value) (base:Heap) (k:Nat) (K:PySem.W.Frag) (n q:Nat) (F:Addr->(List D->R D)->List D->R D):Sp:=λ vs H Q _=>SpS P w mg base k K n q F vs H Q
section
variable {P:Program} {w:World} {K:PySem.W.Frag} {mg:Str->Option Value} {base:Heap}
theorem fnS {x qual:Str} {st:Stmt} {f:Addr} {fd:FuncData} {N ps:List Str} {k kG n m q:Nat} {g:Addr->(List D->R D)->aA->So} (Fn:Fun K x qual st f fd) (S:FnScope N ps (defScope st)) (hn:ps.length=n+1) (hm:N.length=n+1+m)
  (hb:∀(cdv:Value) (A:Around) (outer:List PySem.Env) (s:Shared) (H:Hp) (E:XK) (a:Addr) (G:List D->R D),Room k (A.deeper (envOfC qual (defScope st) s.heap.objs.size f cdv))->Ab P w K mg base kG G q a H->nU (cxOf CX0 P w K mg base N qual (defScope st) f cdv A outer s H E).nox (defBody st) (g a G)):
  FnOk P w K mg base CX0 (k+1) f fd ps (spS P w mg base kG K n q (λ a G ds=>jh m (g a G) (ds.map .val++[.obj (.fn a)]))):=by
 obtain⟨oc,od,kV,doc,pm,an,cdv,ct,osl,rfl,lk,hcd⟩:=Fn.ex;refine fn_of lk hcd S (λ vs H Q E h=>?_) λ A outer s H vs Q E hr h=>?_
 ·obtain⟨O,ds,xs,a,G,rfl,r,hl,_⟩:=h;rw[hn,List.length_append,<-r.length,hl];rfl
 ·obtain⟨O,ds,xs,a,G,rfl,r,hl,al,ro,hc,h⟩:=h;have Dq:N.length=(xs++[V.ref a]).length+m:=by rw[hm,List.length_append,<-r.length,hl];rfl
  refine⟨_,(hb cdv A outer s H E a G hr hc).nox,H,O,O,(ds.map Ent.val++[Ent.obj (.fn a)]).map some++List.replicate m none,?_,Ua h⟩;rw[Ew Dq];refine Eu (X:=(cxOf CX0 P w K mg base N qual (defScope st) f cdv A outer s H E).nox) (by rw[List.length_append,List.length_map,r.length];rw[List.length_append] at Dq;exact Dq) (Gm (vL r) (.cons ⟨ro,rfl⟩ .nil)) al
end
noncomputable def del (H:Hp) (c:Addr):Hp:=λ b=>if b=c then none else H b
theorem jA {H:Hp} {c:Addr}:del H c c=none:=if_pos rfl
theorem dF {H:Hp} {b c:Addr} (h:b≠c):del H c b=H b:=if_neg h
theorem aaK {H:Hp} {b c:Addr} {u:HO} (h:del H c b=some u):b≠c/\H b=some u:=by
 by_cases e:b=c
 ·rw[e,jA] at h;cases h
 ·rw[dF e] at h;exact⟨e,h⟩
section
variable {P:Program} {w:World} {H:Hp} {h:Heap} {c:Addr} {co:Obj} {u:Option Value}
theorem Uc (x:HOk P w H h) (hc:H c=some (.frz co (.own c))) (hd:co.data= .cell u):HOk P w (del H c) h:=λ b v q=>by
 obtain⟨nb,q⟩:=aaK q;refine (x b v q).stay (λ _ _ _ z=>z) (λ d z=>?_) (λ d xs z=>?_) λ d o v' hv z=>?_
 ·rw[dF (λ e=>by rw[e,hc] at z;cases z)];exact z
 ·rw[dF (λ e=>by rw[e,hc] at z;cases z)];exact z
 ·rw[dF (λ e=>by rw[e,hc] at z;cases z;obtain⟨vs,y⟩:=hv;rw[hd] at y;cases y)];exact z
theorem Ud (x:HOk P w H h) (hn:H c=none) (ho:h.get? c=some co):HOk P w (upd H c (.frz co (.own c))) h:=λ b v q=>by
 have old:∀b u,H b=some u->upd H c (.frz co (.own c)) b=some u:=λ b u z=>by rw[upd_ne (ne_of_none z hn)];exact z
 by_cases hb:b=c
 ·subst hb;rw[upd_same] at q;cases q;exact⟨ho,co,ho⟩
 ·rw[upd_ne hb] at q;exact (x b v q).stay (λ _ _ _ z=>z) (λ d z=>old _ _ z) (λ d xs z=>old _ _ z) λ d o v' _ z=>old _ _ z
theorem Ue {O:Addr->Prop} (hc:H c=some (.frz co (.own c))):Ext O H (del H c):=by
 refine⟨λ b xs z=>?_,λ b xs _ z=>?_⟩
 ·have nb:b≠c:=λ e=>by rcases z with z |⟨o,z⟩ <;> rw[e,hc] at z <;> cases z
  rcases z with z |⟨o,z⟩
  ·exact .inl (by rw[dF nb];exact z)
  ·exact .inr ⟨o,by rw[dF nb];exact z⟩
 ·have nb:b≠c:=λ e=>by rcases z with z |⟨o,z⟩ <;> rw[e,hc] at z <;> cases z
  rcases z with z |⟨o,z⟩
  ·exact .inl (by rw[dF nb];exact z)
  ·exact .inr ⟨o,by rw[dF nb];exact z⟩
end
section
variable {M:Model} {A:Around} {E:Value->Shared->Prop} {s:Shared}
theorem Gn {env env':PySem.Env} (f f':Str×Value->PUnit->Sem (ForInStep PUnit)) (hf:∀n v u,f (n,v) u=(do storeName env n v;pure (.yield ⟨⟩))) (hf':∀n v u,f' (n,v) u=(do storeName env' n v;pure (.yield ⟨⟩))):
  ∀binds:List (Str×Value),(∀x∈binds,∀v,storeName env x.1 v=storeName env' x.1 v)->(forIn binds (⟨⟩:PUnit) f:Sem PUnit)=forIn binds (⟨⟩:PUnit) f'
 |[],_=>rfl
 | (n,v)::r,h=>by
  rw[List.forIn_cons,List.forIn_cons,hf,hf',h (n,v) List.mem_cons_self v];simp only[bind_assoc,pure_bind];rw[Gn f f' hf hf' r λ x hx=>h x (List.mem_cons_of_mem _ hx)]
theorem Ug {env:PySem.Env} {n:Str} {v:Value} (hk:env.scope.kind= .function) (h:env.scope.names.lookup n=some .local):storeName env n v=nsSet env.locals n v:=by
 have h:env.kindOf n=some .local:=h;simp[storeName,h,hk]
theorem Uh {env:PySem.Env} {n:Str} {v:Value} {d:Addr} (hk:env.scope.kind= .function) (h:env.scope.names.lookup n=some .cell) (hd:env.cells.lookup n=some d):storeName env n v=cellSet d (some v):=by
 have h:env.kindOf n=some .cell:=h;simp[storeName,h,hk,cellOf,hd]
theorem Rx {scope:Scope} {globals:Addr} {clos:List (Str×Addr)} {binds:List (Str×Value)} {qual:Str} {func:Option Addr} {code:Value} {builtins:Addr} {Q:PySem.Env->Shared->Prop}
  (hk:scope.kind= .function)
  (hkind:∀x∈binds,scope.names.lookup x.1=some .local\/(scope.names.lookup x.1=some .cell/\((cellsFrom (s.heap.objs.size+1) scope.names []).lookup x.1).isSome=true))
  (hQ:∀s',InCallC s s.heap.objs.size (bindL (λ q=>scope.names.lookup q) binds λ _=>none) (cellsFrom (s.heap.objs.size+1) scope.names []) (bindC (λ q=>scope.names.lookup q) binds λ _=>none) s'->
   Q (newEnv scope s.heap.objs.size globals (cellsFrom (s.heap.objs.size+1) scope.names []++clos) qual func code none builtins) s'):
  wpAny M A (newFunctionEnv scope globals clos binds qual func code none builtins) Q E s:=by
 simp only[newFunctionEnv,Option.isSome_none,Bool.false_eq_true,if_false];refine wpAny_bind (wpAny_alloc ?_);refine wpAny_bind (wpAny_layCells _ (λ name kind cells=>by cases hkc:kind ==NameKind.cell <;> simp[hkc]) _ _ _ _ ?_);have ok:=cellsFrom_ok scope.names (s.heap.push {cls:= .type "frame",data:= .dict #[]}) (s.heap.objs.size+1) [] ⟨λ _ _ hm=>(nomatch hm),List.Pairwise.nil⟩ (by rw[Heap.size_push];exact Nat.le_refl _);rw[Heap.size_push] at ok;rw[show ({s with heap:=s.heap.push {cls:= .type "frame",data:= .dict #[]}}:Shared).heap.objs.size=s.heap.objs.size+1 from Heap.size_push ..];rw[dW];have eq:=Gn (env:=newEnv scope s.heap.objs.size globals (cellsFrom (s.heap.objs.size+1) scope.names []++clos) qual func code none builtins) (env':=newEnv scope s.heap.objs.size globals (cellsFrom (s.heap.objs.size+1) scope.names []) qual func code none builtins)
  (λ x _=>do storeName (newEnv scope s.heap.objs.size globals (cellsFrom (s.heap.objs.size+1) scope.names []++clos) qual func code none builtins) x.1 x.2;pure (.yield ⟨⟩))
  (λ x _=>do storeName (newEnv scope s.heap.objs.size globals (cellsFrom (s.heap.objs.size+1) scope.names []) qual func code none builtins) x.1 x.2;pure (.yield ⟨⟩)) (λ _ _ _=>rfl) (λ _ _ _=>rfl) binds (λ x hx v=>by
   rcases hkind x hx with z |⟨z,z2⟩
   ·rw[Ug hk z,Ug hk z];rfl
   ·obtain⟨d,hd⟩:=Option.isSome_iff_exists.mp z2;have e1:(cellsFrom (s.heap.objs.size+1) scope.names []++clos).lookup x.1=some d:=by rw[List.lookup_append,hd];rfl
    rw[Uh hk z e1,Uh hk z hd])
 refine wpAny_bind ?_;show wpAny M A (forIn binds (⟨⟩:PUnit) (λ x _=>do storeName (newEnv scope s.heap.objs.size globals (cellsFrom (s.heap.objs.size+1) scope.names []++clos) qual func code none builtins) x.1 x.2;pure (.yield ⟨⟩))) _ E _;rw[eq];exact wpAny_bindParams (s₀:=s) (env:=newEnv scope s.heap.objs.size globals (cellsFrom (s.heap.objs.size+1) scope.names []) qual func code none builtins)
  _ (λ _ _ _=>rfl) hk binds (λ _=>none) (λ _=>none) _ _
  ⟨⟨⟨_,_,rfl⟩,(Heap.Ns.new s.heap (.type "frame")).keeps (pushCells_keeps _ _),λ b o e=>pushCells_keeps _ _ b o (Heap.get?_push_of_some _ e),Nat.le_refl _⟩,
   λ n c hc=>(ok.empty n c (mem_of_lookup hc)).1,ok.apart,λ n c hm=>(ok.empty n c hm).2⟩
  hkind λ s' x=>wpAny_pure (hQ s' x)
end
structure Ii (N P:List Str) (y:Str) (sc:Scope):Prop where
 kind:sc.kind= .function
 co:sc.isCoroutine=false
 gen:sc.isGenerator=false
 nd:N.Nodup
 pre:N.take (P.length+1)=P++[y]
 par:∀x∈P,sc.names.lookup x=some .local\/sc.names.lookup x=some .cell
 JN:sc.names.lookup y=some .free
 only:∀z∈sc.names,z.2= .free->z.1=y
 cel:∀z∈sc.names,z.2= .cell->sc.names.lookup z.1=some .cell
section
variable (P:Program) (w:World) (K:PySem.W.Frag) (mg:Str->Option Value) (base:Heap) (N:List Str) (qual:Str) (scope:Scope) (f:Addr) (cd:Value) (A:Around) (outer:List PySem.Env) (s:Shared) (H:Hp) (y:Str) (c:Addr)
noncomputable abbrev yC:PySem.Env:=PySem.W.envX qual scope s.heap.objs.size f cd (cellsFrom (s.heap.objs.size+1) scope.names []++[(y,c)])
noncomputable def yD:Cx where
 prog:=P
 w:=w
 K:=K
 mg:=mg
 base:=base
 A:=A.deeper (yC qual scope f cd s y c)
 N:=N
 s₀:=s
 H₀:=H
 env:=yC qual scope f cd s y c
 outer:=outer
 stack:=yC qual scope f cd s y c::outer
 ex:=[]
 calm:=true
 fn:=λ x=>decide (x≠y)
 pn:=[]
 xe:=λ _ _=>False
end
section
variable {P:Program} {w:World} {K:PySem.W.Frag} {mg:Str->Option Value} {base:Heap}
theorem ad4 {N ps:List Str} {qual:Str} {scope:Scope} {f:Addr} {cd:Value} {A:Around} {outer:List PySem.Env} {s s1:Shared} {H:Hp} {us:List Value} {vs:List V} {y:Str} {c:Addr} {vy:V} {uy:Value}
  (S:Ii N ps y scope) (hd:A.handled=none) (e0:Env0 P w K mg base A outer s H) (hl:vs.length=ps.length) (r:Vals vs us) (hc:s.heap.IsCell c (some uy)) (hy:RelV vy uy) (hHc:H c=none)
  (x:InCallC s s.heap.objs.size (bindL (λ q=>scope.names.lookup q) (ps.zip us) λ _=>none) (cellsFrom (s.heap.objs.size+1) scope.names []) (bindC (λ q=>scope.names.lookup q) (ps.zip us) λ _=>none) s1):
  Inv (yD P w K mg base N qual scope f cd A outer s H y c) [] (start N (vs++[vy])) H s1:=by
 have hpl:ps.length+1<=N.length:=by have:=congrArg List.length S.pre;rw[List.length_take,List.length_append,List.length_singleton] at this;omega
 obtain⟨h1,tk,rfl,hk⟩:=x.done;have noA:∀b:Addr,b∉(yD P w K mg base N qual scope f cd A outer s H y c).ex:=λ b z=>absurd (show b∈([]:List Addr) from z) (by simp);have clt:c < s.heap.objs.size:=hc.lt;have cells:∀z d,(yC qual scope f cd s y c).cells.lookup z=some d->((cellsFrom (s.heap.objs.size+1) scope.names []).lookup z=some d/\scope.names.lookup z=some .cell)\/(z=y/\d=c):=λ z d q=>by
  have q:(cellsFrom (s.heap.objs.size+1) scope.names []++[(y,c)]).lookup z=some d:=q;rw[List.lookup_append] at q;cases e:(cellsFrom (s.heap.objs.size+1) scope.names []).lookup z with
  | some d'=>
   rw[e] at q;have q:d'=d:=by simpa using q
   subst q;obtain⟨m1,_⟩:=jH _ _ (PySem.mem_of_lookup e);exact .inl ⟨rfl,S.cel _ m1 rfl⟩
  | none=>
   rw[e] at q;have q:List.lookup z [(y,c)]=some d:=by simpa using q
   rw[List.lookup_cons] at q;cases hz:z ==y with
   |true=>rw[hz] at q;cases q;exact .inr ⟨by simpa using hz,rfl⟩
   |false=>rw[hz] at q;cases q
 have kept:(yC qual scope f cd s y c).cells.lookup y=some c:=by
  show (cellsFrom (s.heap.objs.size+1) scope.names []++[(y,c)]).lookup y=some c;rw[List.lookup_append];cases e:(cellsFrom (s.heap.objs.size+1) scope.names []).lookup y with
  | some d=>
   obtain⟨m1,_⟩:=jH _ _ (PySem.mem_of_lookup e);have:=S.cel _ m1 rfl;rw[S.JN] at this;cases this
  |none=>simp[List.lookup_cons]
 refine⟨⟨e0.mod,S.kind,rfl,rfl,Nat.le_refl _,λ z z' d h1 h2=>?_,λ z hz=>?_,λ z d hf h=>?_,λ _=>hd,Around.frames_deeper e0.frames,.inr ⟨rfl,rfl⟩,λ b z=>absurd z (noA b),e0.bs,e0.bsz,λ b _ _=>noA b,λ b z=>absurd z (noA b),e0.funs,e0.frf⟩,
  rfl,e0.bare,Un.kept hk,⟨_,x.toInCall.ns,λ i z v h1 h2 h3=>?_⟩,λ z d h=>?_,e0.hok.fresh (Nat.le_refl _),λ z d h=>?_,λ p hp=>absurd (show p∈([]:List (Addr×Obj)) from hp) (by simp),e0.hok.kept hk,?_⟩
 ·rcases cells z d h1 with⟨q1,_⟩ |⟨q1,q2⟩ <;> rcases cells z' d h2 with⟨q3,_⟩ |⟨q3,q4⟩
  ·exact name_of_addr x.apart (PySem.mem_of_lookup q1) (PySem.mem_of_lookup q3)
  ·have:=x.above z d (PySem.mem_of_lookup q1);rw[q4] at this;exact absurd (Nat.lt_trans clt this) (Nat.lt_irrefl _)
  ·have:=x.above z' d (PySem.mem_of_lookup q3);rw[q2] at this;exact absurd (Nat.lt_trans clt this) (Nat.lt_irrefl _)
  ·rw[q1,q3]
 ·have hz:scope.names.lookup z=some .cell\/scope.names.lookup z=some .free:=hz;rcases hz with hz |hz
  ·obtain⟨d,e⟩:=cell_has (n:=s.heap.objs.size+1) hz;exact⟨d,by show (cellsFrom (s.heap.objs.size+1) scope.names []++[(y,c)]).lookup z=some d;rw[List.lookup_append,e];rfl⟩
  ·have e:=S.only _ (PySem.mem_of_lookup hz) rfl;have e:z=y:=e;rw[e];exact⟨c,kept⟩
 ·have hf:z≠y:=of_decide_eq_true hf;rcases cells z d h with⟨q1,_⟩ |⟨q1,_⟩
  ·exact Nat.le_of_lt (x.above z d (PySem.mem_of_lookup q1))
  ·exact absurd q1 hf
 ·have hi:i < vs.length+1:=by
   unfold L2.start at h2;by_cases hi:i < vs.length+1
   ·exact hi
   ·rw[List.getElem?_append_right (by simpa using hi)] at h2;rw[List.getElem?_replicate] at h2;split at h2 <;> cases h2
  have ha:(vs++[vy])[i]?=some v:=by
   unfold L2.start at h2;rw[List.getElem?_append_left (by simpa using hi),List.getElem?_map] at h2;cases e:(vs++[vy])[i]? with
   |none=>rw[e] at h2;cases h2
   |some a=>rw[e] at h2;cases h2;rfl
  have hp:(ps++[y])[i]?=some z:=by
   rw[<-S.pre,List.getElem?_take_of_lt (by omega)];exact h1
  by_cases hiv:i < vs.length
  ·rw [List.getElem?_append_left hiv] at ha;rw[List.getElem?_append_left (by omega)] at hp;obtain⟨u,hu,rv⟩:=r.get ha;have ndP:ps.Nodup:=by
    have q:(ps++[y]).Nodup:=by rw[<-S.pre];exact S.nd.sublist (List.take_sublist _ _)
    exact (List.nodup_append.mp q).1
   refine⟨u,rv,?_⟩;rcases S.par z (List.mem_of_getElem? hp) with k |k
   ·exact .inl ⟨k,bindL_get ndP hp hu k⟩
   ·obtain⟨d,e⟩:=cell_has (n:=s.heap.objs.size+1) k;refine .inr ⟨.inl k,d,?_,?_⟩
    ·show (cellsFrom (s.heap.objs.size+1) scope.names []++[(y,c)]).lookup z=some d;rw[List.lookup_append,e];rfl
    ·have q:=x.cell z d e;rw[bindC_get ndP hp hu (by rw[k];decide)] at q;exact q
  ·have ei:i=vs.length:=by omega
   subst ei;rw[List.getElem?_append_right (Nat.le_refl _)] at ha;rw[hl,List.getElem?_append_right (Nat.le_refl _)] at hp;have ha:vy=v:=by simpa using ha
   have hp:y=z:=by simpa using hp
   subst ha hp;exact⟨uy,hy,.inr ⟨.inr S.JN,c,kept,hc.keeps hk⟩⟩
 ·rcases cells z d h with⟨q1,_⟩ |⟨_,q2⟩
  ·exact⟨_,x.cell z d q1⟩
  ·rw[q2];exact⟨_,hc.keeps hk⟩
 ·rcases cells z d h with⟨q1,_⟩ |⟨_,q2⟩
  ·exact e0.hok.fresh (Nat.le_of_lt (x.above z d (PySem.mem_of_lookup q1)))
  ·rw[q2];exact hHc
 ·unfold L2.start;show _=N.length;rw[List.length_append,List.length_map,List.length_replicate,List.length_append,List.length_singleton];omega
theorem ad5 {N ps:List Str} {name qual:Str} {params:Arguments} {body:List Stmt} {scope:Scope} {y:Str} {k n m:Nat} {g:aA->So} {my:Int} {a c:Addr} {H:Hp} {co:Obj} {uy:Value}
  (S:Ii N ps y scope) (hn:ps.length=n) (hm:N.length=n+1+m)
  (hbind:∀(doc pm:Value) (cl:List (Str×Addr)) (cdv ct:Value) (us:List Value),us.length=ps.length->bindArgs (PySem.W.fnX name qual params body scope cl .none .none doc pm none cdv ct) ⟨us,[]⟩=pure (ps.zip us))
  (hb:∀(cdv:Value) (A:Around) (outer:List PySem.Env) (s:Shared) (H:Hp) (f c:Addr),Room k (A.deeper (yC qual scope f cdv s y c))->nU (yD P w K mg base N qual scope f cdv A outer s H y c) body g)
  (fh:lF H a name qual params body scope [(y,c)]) (hc:H c=some (.frz co (.own c))) (hcd:co.data= .cell (some uy)) (hy:RelV (.int my) uy):
  Ab P w K mg base (k+1) (λ ds=>jh m g (ds.map .val++[.val (.int my)])) n a H:=by
 intro A outer s H1 us vs Q E hr e0 hz r sp;obtain⟨O,ds,rs,hl,al,sp⟩:=sp;have sp:(match jh m g (ds.map Ent.val++[Ent.val (.int my)]) with | .ok d=>∀v H',Same H1 H'->Rep K O H' d v->Q v H' |_=>False):=sp;obtain⟨fo,doc,pm,c',ctv,oc,vq,t,f1,f2,f3,f4,f5⟩:=fh.fz hz;have hc1:=hz _ _ _ hc;obtain⟨hco,_⟩:=e0.hok c _ hc1;obtain⟨hfo,_⟩:=e0.hok a _ f1;obtain⟨hoc,_⟩:=e0.hok c' _ f3;have KX:K.In s.heap:=e0.mod.kin.keeps λ b o e=>(e0.bs b o e).1;have lim:s.heap.NoLimit:=e0.mod.nolimit.keeps λ b o e=>(e0.bs b o e).1;have e1:Env0 P w K mg base A outer s (del H1 c):=⟨e0.frames,e0.mod,λ b o e=>⟨(e0.bs b o e).1,by
  by_cases q:b=c
  ·rw[q];exact jA
  ·rw[dF q];exact (e0.bs b o e).2⟩,e0.bsz,e0.funs,λ b hb=>by
  by_cases q:b=c
  ·rw[q];exact jA
  ·rw[dF q];exact e0.frf b hb,Uc e0.hok hc1 hcd,e0.bare⟩
 have hlu:us.length=ps.length:=by rw[<-r.length,<-rs.length,hl,hn]
 have hkind:∀z∈ps.zip us,scope.names.lookup z.1=some .local\/(scope.names.lookup z.1=some .cell/\((cellsFrom (s.heap.objs.size+1) scope.names []).lookup z.1).isSome=true):=λ ⟨q,v⟩ hy=>by
  rcases S.par q (List.of_mem_zip hy).1 with z |z
  ·exact .inl z
  ·exact .inr ⟨z,PySem.W.cellsFrom_some _ _ _ (.inl z)⟩
 refine codeAny_call_function hr.depth hfo f2 S.co S.gen rfl ⟨c',oc,vq,t,rfl,hoc,f4,f5⟩ ?_;rw[hbind doc pm _ _ _ us hlu];refine wpAny_pure (Rx S.kind hkind λ s1 x=>?_);refine⟨lim.keeps x.toInCall.keep,codeAny_func ?_⟩;have I:Inv (yD P w K mg base N qual scope a (.ref c') A outer s (del H1 c) y c) [] (start N (vs++[.int my])) (del H1 c) s1:=
  ad4 S hr.hd e1 (by rw[<-rs.length,hl,hn]) r ⟨co,hco,hcd⟩ hy jA x
 have Dq:N.length=(vs++[V.int my]).length+m:=by rw[hm,List.length_append,<-rs.length,hl];rfl
 have rs':aU K (λ b=>O b/\b≠c) (del H1 c) ds vs:=aU.ext (Ue hc1) (λ b xs nb _ z=>nb z.1) ds vs rs;have J:At (yD P w K mg base N qual scope a (.ref c') A outer s (del H1 c) y c) (del H1 c) (λ b=>O b/\b≠c) (λ b=>O b/\b≠c) (del H1 c) ((ds.map Ent.val++[Ent.val (.int my)]).map some++List.replicate m none) (start N (vs++[.int my])):=by
  rw[Ew Dq];refine Eu (by show N.length=_;rw[List.length_append,List.length_map,rs.length];rw[List.length_append] at Dq;exact Dq) (Gm (vL rs') (.cons ⟨(cJ (K:=K) (O:=λ b=>O b/\b≠c) (H:=del H1 c) my:rK K (λ b=>O b/\b≠c) (del H1 c) (.val (.int my)) (.int my)),rfl⟩ .nil)) λ b z=>?_;obtain⟨o,q⟩:=al b z.1;exact⟨o,by rw[dF z.2];exact q⟩
 have run:=hb (.ref c') A outer s (del H1 c) a c (hr.deeper _) [] s1 _ _ {nx:=λ _ H'=>jh m g (ds.map .val++[.val (.int my)])= .ok .non/\Same (del H1 c) H',rt:=λ v H'=>∃d,jh m g (ds.map .val++[.val (.int my)])= .ok d/\Same (del H1 c) H'/\Rep K (λ b=>O b/\b≠c) H' d v} I ⟨_,_,_,_,J,by
  unfold jh at sp |-;cases e2:g ((ds.map Ent.val++[Ent.val (.int my)]).map some++List.replicate m none) with
  |rt d=>exact λ v H' s' r'=>⟨d,by simp only[e2],s',r'⟩
  |nx ρ'=>exact λ σ' H' O' j' _=>⟨by simp only[e2],j'.same⟩
  |bk _=>rw[e2] at sp;exact sp.elim
  |ct _=>rw[e2] at sp;exact sp.elim
  |ex _ _=>rw[e2] at sp;exact sp.elim
  |bad=>rw[e2] at sp;exact sp.elim⟩
 have cfr:c∉frs outer:=λ z=>by rw[e0.frf c z] at hc1;cases hc1
 have fin:∀{σ':St} {H':Hp} {v:V} {u:Value} {s':Shared} {d:D},Inv (yD P w K mg base N qual scope a (.ref c') A outer s (del H1 c) y c) [] σ' H' s'->RelV v u->jh m g (ds.map .val++[.val (.int my)])= .ok d->Same (del H1 c) H'->Rep K (λ b=>O b/\b≠c) H' d v->CE outer P w H1 s Q u s':=λ {σ' H' v u s' d} J rv ed sm rd=>by
  have hn':H' c=none:=J.base.free c co hco jA (by simp[yD]);have hc':s'.heap.get? c=some co:=J.base.keep c co hco jA cfr (by simp[yD]);have ol:∀b,b≠c->upd H' c (.frz co (.own c)) b=H' b:=λ b z=>upd_ne z;have kIn:K.In s'.heap:=J.kIn;refine⟨v,upd H' c (.frz co (.own c)),J.os,J.bare,⟨λ b o q nb hb hx=>?_,λ b o q nb hb hx=>?_,λ b o q nb hx=>?_,λ b o q hx=>J.base.there b o q hx,λ b xs q=>?_,λ b o u q=>?_,λ b ps q=>?_⟩,Ud J.hok hn' hc',rv,?_⟩
  ·exact J.base.keep b o q (show del H1 c b=none by by_cases z:b=c;(rw[z];exact jA);rw[dF z];exact nb) hb hx
  ·exact J.base.slot b o q (show del H1 c b=none by by_cases z:b=c;(rw[z];exact jA);rw[dF z];exact nb) hb hx
  ·have nc:b≠c:=λ z=>by rw[z,hc1] at nb;cases nb
   rw[ol b nc];exact J.base.free b o q (show del H1 c b=none by rw[dF nc];exact nb) hx
  ·have nc:b≠c:=λ z=>by rw[z,hc1] at q;cases q
   rw[ol b nc];exact J.base.tups b xs (show del H1 c b=some _ by rw[dF nc];exact q)
  ·by_cases nc:b=c
   ·rw[nc,hc1] at q;cases q;rw[nc,upd_same]
   ·rw[ol b nc];exact J.base.frzs b o u (show del H1 c b=some _ by rw[dF nc];exact q)
  ·have nc:b≠c:=λ z=>by rw[z,hc1] at q;cases q
   rw[ol b nc];exact J.base.tbls b ps (show del H1 c b=some _ by rw[dF nc];exact q)
  ·rw [ed] at sp;have s2:Same H' (upd H' c (.frz co (.own c))):=Same.upd hn';refine sp v _ (λ b o q=>?_) ?_
   ·by_cases nc:b=c
    ·rw[nc,hc1] at q;cases q;rw[nc,upd_same]
    ·exact s2 _ _ (sm b o (by rw[dF nc];exact q))
   ·refine Rep.ext ⟨λ b xs z=>Same.rd s2 z,λ b xs _ z=>Same.rd s2 z⟩ (λ b xs nb hq z=>?_) d v rd;by_cases nc:b=c
    ·subst nc;rcases hq with (hq |⟨o,hq⟩) |⟨o,its,n',hq,h4,_⟩
     ·rw[hn'] at hq;cases hq
     ·rw[hn'] at hq;cases hq
     ·have:=kIn _ _ hq;rw[hc'] at this;cases this;simp_all
    ·exact nb ⟨z,nc⟩
 refine wpAny_mono run (λ fl s' hs=>?_) λ e s' hs=>hs.elim;cases fl with
 | ret u=>
  obtain⟨v,σ',H',J,rv,d,q1,q2,q3⟩:=hs;exact fin J rv q1 q2 q3
 | next=>
  obtain⟨σ',H',J,q1,q2⟩:=hs;exact fin (v:=V.non) (u:=Value.none) J rfl q1 q2 pF
 |brk=>obtain⟨_,_,_,q⟩:=hs;exact False.elim q
 |cont=>obtain⟨_,_,_,q⟩:=hs;exact False.elim q
end
section
variable {X:Cx} {name qual:Str} {params:Arguments} {body:List Stmt} {scope:Scope} {y xS:Str} {c fS:Addr} {Oe:FuncData} {Kd:List Str} {kS kG n q iy:Nat} {FS:Addr->(List D->R D)->List D->R D} {GG:Int->List D->R D} {p pos:Pos} {e:Expr} {es:List Expr} {ta:TA}
inductive abC (K:PySem.W.Frag) (name qual:Str) (params:Arguments) (body:List Stmt) (scope:Scope) (y:Str) (c:Addr) (iy n:Nat) (FS:Addr->(List D->R D)->List D->R D) (GG:Int->List D->R D) (σ:St) (Q:VK) (vs:List V) (H1:Hp):Prop
 |mk (O:Addr->Prop) (ds:List D) (xs:List V) (a:Addr) (my:Int) (d:D) (e:vs=xs++[.ref a]) (r:aU K O H1 ds xs) (hl:ds.length=n) (al:∀b,O b->∃o,H1 b=some o) (fh:lF H1 a name qual params body scope [(y,c)]) (hσ:σ[iy]?=some (some (.int my))) (hF:∀a,FS a (GG my) ds= .ok d) (hQ:∀v H',Same H1 H'->Rep K O H' d v->Q v H'):abC K name qual params body scope y c iy n FS GG σ Q vs H1
noncomputable def afF (K:PySem.W.Frag) (name qual:Str) (params:Arguments) (body:List Stmt) (scope:Scope) (y:Str) (c:Addr) (iy n:Nat) (FS:Addr->(List D->R D)->List D->R D) (GG:Int->List D->R D) (ta:TA):TE:=λ σ H Q=>ta σ H λ vs H1=>abC K name qual params body scope y c iy n FS GG σ Q vs H1
theorem aaL (Sw:FnOk X.prog X.w X.K X.mg X.base CX0 kS fS Oe Kd (spS X.prog X.w X.mg X.base kG X.K n q FS)) (hr:Room kS X.A) (hg:Gl X xS) (hm:X.mg xS=some (.ref fS)) (hk:PySem.W.keepIn X.K (.ref fS)=true) (hb:Binds X.K Oe Kd [])
  (aaM:∀my a c H co uy,lF H a name qual params body scope [(y,c)]->H c=some (.frz co (.own c))->co.data= .cell (some uy)->RelV (.int my) uy->Ab X.prog X.w X.K X.mg X.base kG (GG my) q a H)
  (hc:X.env.cells.lookup y=some c) (hyk:X.env.scope.names.lookup y=some .cell) (hfn:X.fn y=true) (hiy:X.N[iy]?=some y) (ha:PA X (e::es) ta) (hdb:(xS ==("__debug__" :Str))=false:=by decide)
  (he:starEach (e::es) X.env=(false,eval e X.env)::starEach es X.env:=by rfl) (hpl:(backTo pos (starEach es X.env)).any (·.1)=false:=by rfl):
  PE X (.Call (.Name xS p) (e::es) [] pos) (afF X.K name qual params body scope y c iy n FS GG ta):=by
 intro pins s σ H Q I h;refine wpAny_Call_Name_kw (ld_glob I hg hm ?_ hdb);refine PySem.W.callWith_K (h₀:=X.base) I.ok.mod.kin hk (thn (ha pos pins s σ H _ I h) λ us s1 ⟨vs,H1,I1,r,hq⟩=>⟨I1.kIn,?_⟩) he hpl;obtain⟨O,ds,xs,a,my,d,rfl,rs,hl,al,fh,hσ,hF,hQ⟩:=hq;obtain⟨m,hn,hl'⟩:=I1.loc;obtain⟨uy,ry,look⟩:=hl' iy y (.int my) hiy hσ (.inr (.inl hyk));have hcell:s1.heap.IsCell c (some uy):=by
  rcases look with⟨z,_⟩ |⟨_,c2,z,hz⟩
  ·have z:X.env.scope.names.lookup y=some .local:=z;rw[hyk] at z;cases z
  ·rw[hc] at z;cases z;exact hz
 obtain⟨co,hco,hcd⟩:=hcell;have hnc:H1 c=none:=I1.freeC y c hc;have cab:X.s₀.heap.objs.size<=c:=I1.ok.cab y c hfn hc;have sm:Same H1 (upd H1 c (.frz co (.own c))):=Same.upd hnc;have nfr:∀b∈frs X.stack,b≠c:=λ b hb z=>by
  rcases List.mem_cons.mp (I1.stkSub b hb) with e |hb'
  ·exact I1.cne y c hc (z.symm.trans e)
  ·obtain⟨_,o,ho,_⟩:=I1.ok.funs.mem hb';exact absurd (Nat.lt_of_lt_of_le (Heap.lt_size ho) cab) (by rw[z];exact Nat.lt_irrefl _)
 have e0:=I1.env0;have e1:Env0 X.prog X.w X.K X.mg X.base X.A X.stack s1 (upd H1 c (.frz co (.own c))):=⟨e0.frames,e0.mod,λ b o z=>⟨(e0.bs b o z).1,by
  rw[upd_ne (λ w=>by
   have:=Heap.lt_size (I1.ok.bs b o z).1;rw[w] at this;exact absurd (Nat.lt_of_lt_of_le this cab) (Nat.lt_irrefl _))]
  exact (e0.bs b o z).2⟩,e0.bsz,e0.funs,λ b hb=>by rw[upd_ne (nfr b hb)];exact e0.frf b hb,Ud e0.hok hnc hco,e0.bare⟩
 obtain⟨fo,doc,pm,c',ctv,oc,vq,t,f1,f2,f3,f4,f5⟩:=id fh;have fh1:=fh.fz λ b o u z=>sm b _ z;have sp:spS X.prog X.w X.mg X.base kG X.K n q FS (xs++[.ref a]) (upd H1 c (.frz co (.own c))) (λ v H'=>Same (upd H1 c (.frz co (.own c))) H'/\Rep X.K O H' d v) E0:=by
  refine⟨O,ds,xs,a,GG my,rfl,rs.same sm,hl,λ b z=>let ⟨o,w⟩:=al b z;⟨o,sm _ _ w⟩,⟨rfl,fo,_,sm _ _ f1,f2⟩,aaM my a c _ co uy fh1 upd_same hcd ry,?_⟩;rw[hF a];exact λ v H' s' r'=>⟨s',r'⟩
 have hll:us.length=Kd.length:=by rw[<-r.length];exact Sw.len _ _ _ _ sp
 have hbb:=hb s1 us I1.kIn (by rw[List.append_nil];exact hll);rw[List.append_nil] at hbb;refine wpAny_call (codeAny_mono (Sw.run X.A X.stack s1 _ ⟨us,[]⟩ us _ _ E0 hr e1 hbb r sp) λ rr s' hq=>?_);cases rr with
 |error ev=>exact hq.elim
 | ok fl =>
  cases fl with
  |next=>exact False.elim hq
  |brk=>exact False.elim hq
  |cont=>exact False.elim hq
  | ret u =>
   obtain⟨v,H',os,bare,un,hok,rv,q1,q2⟩:=hq;have hc':H' c=some (.frz co (.own c)):=un.frzs c co _ upd_same;have up:∀b,b≠c->upd H1 c (.frz co (.own c)) b=H1 b:=λ b z=>upd_ne z;have un':Un (frs X.stack) [] H1 (del H' c) s1.heap s'.heap:=by
    refine⟨λ b o z nb hb hx=>?_,λ b o z nb hb hx=>?_,λ b o z nb hx=>?_,un.there,λ b xs z=>?_,λ b o u z=>?_,λ b ps z=>?_⟩
    ·by_cases bc:b=c
     ·subst bc;rw[hco] at z;cases z;exact (hok b _ hc').1
     ·exact un.keep b o z (by rw[up b bc];exact nb) hb hx
    ·exact un.slot b o z (by rw[up b (nfr b hb)];exact nb) hb hx
    ·by_cases bc:b=c
     ·rw[bc];exact jA
     ·rw[dF bc];exact un.free b o z (by rw[up b bc];exact nb) hx
    ·have bc:=ne_of_none z hnc;rw[dF bc];exact un.tups b xs (by rw[up b bc];exact z)
    ·have bc:=ne_of_none z hnc;rw[dF bc];exact un.frzs b o u (by rw[up b bc];exact z)
    ·have bc:=ne_of_none z hnc;rw[dF bc];exact un.tbls b ps (by rw[up b bc];exact z)
   have J:Inv X pins σ (del H' c) s':=I1.call' os un' (Uc hok hc' hcd) bare λ b z=>absurd z (by simp);refine⟨v,del H' c,J,rv,hQ v _ (λ b o z=>?_) ?_⟩
   ·have bc:=ne_of_none z hnc;rw[dF bc];exact q1 b o (by rw[up b bc];exact z)
   ·exact Rep.ext (Ue hc') (λ b xs nb _ z=>nb z) d v q2
end
open Classical in
noncomputable def allOf (f:Addr->R D):R D:=if h:∃d,∀a,f a= .ok d then .ok h.choose else .bad
theorem aaN {f:Addr->R D} {d:D} (h:∀a,f a= .ok d):allOf f= .ok d:=by
 have e:∃d,∀a,f a= .ok d:=⟨d,h⟩;unfold allOf;rw[dif_pos e];have:=e.choose_spec 0;rw[h 0] at this;exact this.symm
theorem aaO {f:Addr->R D} {d:D} (h:allOf f= .ok d) (a:Addr):f a= .ok d:=by
 unfold allOf at h;by_cases e:∃d,∀a,f a= .ok d
 ·rw[dif_pos e] at h;cases h;exact e.choose_spec a
 ·rw[dif_neg e] at h;cases h
noncomputable def Vo (i iy:Nat) (f1 f2 f3:aA->R D) (FS:Addr->(List D->R D)->List D->R D) (GG:Int->List D->R D):aA->So:=λ ρ=>match ρ[i]?,ρ[iy]? with
 | some none,some (some (.val (.int my)))=>(match f1 ρ,f2 ρ,f3 ρ with
  | .ok a,.ok b,.ok d=>(match allOf (λ x=>FS x (GG my) [a,b,d]) with
   | .ok r=> .rt r
   |_=> .bad)
  |_,_,_=> .bad)
 |_,_=> .bad
section
variable {X:Cx} {name qual:Str} {params:Arguments} {body:List Stmt} {scope:Scope} {y xS:Str} {c cc P fS:Addr} {Oe:FuncData} {Kd:List Str} {kS kG q:Nat} {FS:Addr->(List D->R D)->List D->R D} {GG:Int->List D->R D} {p p4 pos pos2 ad6:Pos} {e1 e2 e3:Expr} {f1 f2 f3:aA->R D}
theorem In.agG {O:Addr->Prop} {H:Hp} {ρ:aA} {σ:St} {i:Nat} {v:V} (j:In X O H ρ σ) (hn:ρ[i]?=some none):In X O H ρ (σ.set i (some v)):=by
 have ne:∀(k:Nat) e,ρ[k]?=some (some e)->i≠k:=λ k e h z=>by rw[<-z,hn] at h;cases h
 refine⟨⟨λ k e h=>?_,λ k l e e' u hkl hk hl ok ol sk sl=>?_⟩,j.al,by rw[List.length_set];exact j.len,j.nF⟩
 ·rw[List.getElem?_set_ne (ne k e h)];exact j.env.get k e h
 ·rw[List.getElem?_set_ne (ne k e hk)] at sk;rw[List.getElem?_set_ne (ne l e' hl)] at sl;exact j.env.sep k l e e' u hkl hk hl ok ol sk sl
theorem aaP (i iy:Nat) (hN:X.N.Nodup) (hB:qJ X.base X.mg cc P) (hT:Tb [(P,qual)] X.H₀) (hcode:X.env.code= .ref cc) (Sw:FnOk X.prog X.w X.K X.mg X.base CX0 kS fS Oe Kd (spS X.prog X.w X.mg X.base kG X.K 3 q FS)) (hr:Room kS X.A) (hm:X.mg xS=some (.ref fS)) (hk:PySem.W.keepIn X.K (.ref fS)=true) (hb:Binds X.K Oe Kd [])
  (aaM:∀my a c H co uy,lF H a name qual params body scope [(y,c)]->H c=some (.frz co (.own c))->co.data= .cell (some uy)->RelV (.int my) uy->Ab X.prog X.w X.K X.mg X.base kG (GG my) q a H)
  (h1:DE X e1 f1) (h2:DE X e2 f2) (h3:DE X e3 f3)
  (hcl:closureFor scope X.env=pure [(y,c)]) (hc:X.env.cells.lookup y=some c) (hyk:X.env.scope.names.lookup y=some .cell) (hfn:X.fn y=true) (hii:i≠iy) (hnv:Vis X.env.scope name)
  (hiy:X.N[iy]?=some y:=by rfl) (hi:X.N[i]?=some name:=by rfl) (hl:Loc X.env.scope name:=by first |exact Or.inl rfl |exact Or.inr rfl) (hq:qualnameIn X.env name name=qual:=by rfl) (hd0:params.defaults=[]:=by rfl) (hk0:params.kw_defaults=[]:=by rfl) (ha:annTrees params none X.env=[]:=by rfl)
  (hg:Gl X xS:=by rfl) (hdb:(xS ==("__debug__" :Str))=false:=by decide) (hdn:(name ==("__debug__" :Str))=false:=by decide) (hdc:(name ==("__classdict__" :Str))=false:=by decide)
  (he1:starEach [e1,e2,e3,.Name name p4] X.env=(false,eval e1 X.env)::starEach [e2,e3,.Name name p4] X.env:=by rfl) (he2:starEach [e2,e3,.Name name p4] X.env=(false,eval e2 X.env)::starEach [e3,.Name name p4] X.env:=by rfl)
  (he3:starEach [e3,.Name name p4] X.env=(false,eval e3 X.env)::starEach [.Name name p4] X.env:=by rfl) (he4:starEach [.Name name p4] X.env=(false,eval (.Name name p4) X.env)::starEach [] X.env:=by rfl)
  (hpl:(backTo pos2 (starEach [e2,e3,.Name name p4] X.env)).any (·.1)=false:=by rfl) (hf:X.fn name=true\/X.env.scope.names.lookup name=some .local:=by first |exact .inl rfl |exact .inr rfl):
  nU X [.FunctionDef name params body [] none [] scope none name pos,.Return (some (.Call (.Name xS p) [e1,e2,e3,.Name name p4] [] pos2)) ad6] (Vo i iy f1 f2 f3 FS GG):=by
 have A:=pa_cons h1 (pa_cons h2 (pa_cons h3 (pa_cons (pe_var (X:=X) (pos:=p4) hi hnv hdn hdc) pa_nil he4) he3) he2) he1;refine PSs.imp (pss_cons (ad3 i hN hB hT hcode hcl hi hl hq hd0 hk0 ha hf) (pss_one (ps_ret (aaL (iy:=iy) (p:=p) (pos:=pos2) Sw hr hg hm hk hb aaM hc hyk hfn hiy A hdb he1 hpl)))) λ σ H E h=>?_;obtain⟨H0,O0,O,ρ,j,h⟩:=h;intro a H1 sm fh;unfold Vo at h;split at h
 ·rename_i my en em;have hil:i < X.N.length:=(List.getElem?_eq_some_iff.mp hi).1;obtain⟨v,hv,rv⟩:=j.inn.env.get iy _ em;have rv:v= .int my:=Rep.int (show Rep X.K O H (.int my) v from rv);subst rv;split at h
  ·rename_i d1 d2 d3 q1 q2 q3;cases q4:allOf (λ x=>FS x (GG my) [d1,d2,d3]) with
   |bad=>rw[q4] at h;exact h.elim
   |err _=>rw[q4] at h;exact h.elim
   | ok d=>
    rw[q4] at h;have jn:In X O H1 ρ (σ.set i (some (.ref a))):=In.agG (j.inn.same sm) en;refine⟨ρ,O,jn,?_⟩;rw[q1];intro v1 H2 s2 r1;refine⟨ρ,O,jn.same s2,?_⟩;rw[q2];intro v2 H3 s3 r2;refine⟨ρ,O,(jn.same s2).same s3,?_⟩;rw[q3];intro v3 H4 s4 r3;have jl:i < σ.length:=by rw[j.inn.len];exact hil
    refine⟨.ref a,List.getElem?_set_self jl,?_⟩;have s14:Same H1 H4:=(s2.trans s3).trans s4;refine⟨O,[d1,d2,d3],[v1,v2,v3],a,my,d,rfl,.cons (r1.same (s3.trans s4)) (.cons (r2.same s4) (.cons r3 .nil)),rfl,(jn.same s14).al,fh.fz λ b o u z=>s14 _ _ z,?_,aaO q4,λ v' H' s' r'=>?_⟩
    ·rw[List.getElem?_set_ne hii];exact hv
    ·exact h v' H' (j.same.trans (sm.trans (s14.trans s'))) (r'.fewer j.sub)
  ·exact h.elim
 ·exact h.elim
end
noncomputable def nZ (a:Addr) (o:Option HO) (T:Addr) (q:Str):Hp:=λ b=>if b=T then some (.tbl #[.str q 0]) else if b=a then o else none
theorem Yi {P:Program} {w:World} {K:PySem.W.Frag} {mg mb:Str→Option Value} {k:Nat} {fa a c T:Addr} {q:Str} {fd:FuncData} {x:Str} {sp:Sp} {s₁:Shared} {vs:List Value} {ns:List Int}
    (KX:K.In s₁.heap) (hns:s₁.heap.Ns mainGlobals mg) (hb:s₁.heap.Ns builtinsNs mb) (hbb:∀x:Str,x≠"__name__"→mb x=bootBuiltins x) (hlim:s₁.heap.NoLimit) (hg:s₁.gens= #[])
    (ha:s₁.heap.get? a=some {cls:= .type "list",data:= .seq vs.toArray}) (hi:IntsAre vs ns) (hl:ns.length≤sizeLine) (hr:Room k callerA)
    (hC:PySem.W.CodeHd s₁.heap c T) (hT:s₁.heap.get? T=some (PySem.W.tabObj #[])) (hnt:PySem.W.noTabs K=true)
    (hbm:∃bm ob,mg "__builtins__" =some (.ref bm)∧bm≠builtinsNs∧s₁.heap.get? bm=some ob∧ob.cls= .type "module"∧ob.dict=some builtinsNs∧ob.data= .plain)
    (F:∀base:Heap,K.In base→base.Ns mainGlobals mg→qJ base mg c T→FnOk P w K mg base CX0 k fa fd [x] sp) (hbind:∀(s:Shared) (u:Value),BindsTo s fd ⟨[u],[]⟩ [(x,u)])
    (hsp:∀H:Hp,Tb [(T,q)] H→SqL K H a (ns.map V.int)→sp [.ref a] H (fun v _=>v= .bl true) fun _ _ _=>False):
    codeAny (model P w) callerA (.call (.ref fa) ⟨[.ref a],[]⟩) (fun r s'=>r= .ok (.ret (.bool true))∧OldK s₁.heap s'.heap∧s'.os=s₁.os∧AllBare s'.gens) s₁:=by
  have rv:=vals_ints hi
  have lenV:=hi.length
  have aT:a≠T:=fun z=>by rw[z,hT] at ha;cases ha
  have core : ∀o:Option HO,(o=none∨o=some (.frz {cls:= .type "list",data:= .seq vs.toArray} (.lst (ns.map V.int))))→SqL K (nZ a o T q) a (ns.map V.int)→(o≠none→K.lookup a=none)→
      codeAny (model P w) callerA (.call (.ref fa) ⟨[.ref a],[]⟩) (fun r s'=>r= .ok (.ret (.bool true))∧OldK s₁.heap s'.heap∧s'.os=s₁.os∧AllBare s'.gens) s₁:=by
    intro o ho hS hK
    have hH:∀b u,nZ a o T q b=some u→(b=T∧u= .tbl #[.str q 0])∨(b=a∧u= .frz {cls:= .type "list",data:= .seq vs.toArray} (.lst (ns.map V.int))∧o≠none):=fun b u z=>by
      unfold nZ at z
      by_cases h1:b=T
      · rw[if_pos h1] at z;cases z;exact .inl ⟨h1,rfl⟩
      · rw[if_neg h1] at z
        by_cases h2:b=a
        · rw[if_pos h2] at z
          rcases ho with ho |ho
          · rw[ho] at z;cases z
          · rw[ho] at z;cases z;exact .inr ⟨h2,rfl,by rw[ho];simp⟩
        · rw[if_neg h2] at z;cases z
    have hok:HOk P w (nZ a o T q) s₁.heap:=fun b u z=>by
      rcases hH b u z with⟨rfl,rfl⟩ |⟨rfl,rfl,_⟩
      · exact⟨#[],hT,trivial,fun p cv y=>by cases y⟩
      · exact⟨ha,by rw[List.length_map];exact hl,vs,_,rv,ha⟩
    have tb:Tb [(T,q)] (nZ a o T q):=fun p hp=>by
      have e:p=(T,q):=by simpa using hp
      subst e
      exact⟨#[.str q 0],0,if_pos rfl,rfl⟩
    have base_of:∀{b:Addr} {u:Obj},s₁.heap.get? b=some u→nZ a o T q b=none→(hidT s₁.heap (nZ a o T q)).get? b=some u:=fun e n=>hidT_get e n
    have free:∀{b:Addr} {u:Obj},s₁.heap.get? b=some u→u.cls≠.type "list"→u.cls≠.none→nZ a o T q b=none:=fun {b u} e n1 n2=>by
      cases z:nZ a o T q b with
      |none=>rfl
      | some y=>
        rcases hH b y z with⟨rfl,_⟩ |⟨rfl,_,_⟩
        · rw[hT] at e;cases e;exact absurd rfl n2
        · rw[ha] at e;cases e;exact absurd rfl n1
    have afG:∀{b:Addr} {u:Obj} {es:Array DictEntry} {ep:Nat},s₁.heap.get? b=some u→u.data= .dict es ep→nZ a o T q b=none:=fun {b u es ep} e d=>by
      cases z:nZ a o T q b with
      |none=>rfl
      | some y=>
        rcases hH b y z with⟨rfl,_⟩ |⟨rfl,_,_⟩
        · rw[hT] at e;cases e;cases d
        · rw[ha] at e;cases e;cases d
    have nsK:∀{b:Addr} {m:Str→Option Value},s₁.heap.Ns b m→(hidT s₁.heap (nZ a o T q)).Ns b m:=fun {b m} ⟨u,es,ep,e,d,r⟩=>⟨u,es,ep,base_of e (afG e d),d,r⟩
    have hKb:K.In (hidT s₁.heap (nZ a o T q)):=fun b u e=>base_of (KX b u e) (by
      cases z:nZ a o T q b with
      |none=>rfl
      | some y=>
        rcases hH b y z with⟨rfl,_⟩ |⟨rfl,_,no⟩
        · have e1:=KX b u e
          rw[hT] at e1;cases e1
          have h2:=List.all_eq_true.mp hnt (b,PySem.W.tabObj #[]) (PySem.W.mem_of_lookupK e)
          exact absurd (show false=true from h2) Bool.false_ne_true
        · rw[hK no] at e;cases e)
    have hM:Mod K mg (hidT s₁.heap (nZ a o T q)):=⟨hKb,nsK hns,⟨mb,nsK hb,hbb⟩,let ⟨mc,h1,h2⟩:=hlim;⟨mc,nsK h1,h2⟩⟩
    have nb:qJ (hidT s₁.heap (nZ a o T q)) mg c T:=by
      refine⟨?_,?_⟩
      · obtain⟨oc,v,file,tf,flags,tg,inF,text,tt,e1,e2,r⟩:=hC
        exact⟨oc,v,file,tf,flags,tg,inF,text,tt,base_of e1 (free e1 (by rw[e2];nofun) (by rw[e2];nofun)),e2,r⟩
      · obtain⟨bm,ob,b1,b2,b3,b4,r⟩:=hbm
        exact⟨bm,ob,b1,b2,base_of b3 (free b3 (by rw[b4];nofun) (by rw[b4];nofun)),b4,r⟩
    have e0:Env0 P w K mg (hidT s₁.heap (nZ a o T q)) callerA [] s₁ (nZ a o T q):=⟨rfl,hM,fun b o e=>of_hidT e,Nat.le_of_eq (hidT_size _ _),trivial,fun b hb=>absurd (show b∈([]:List Addr) from hb) (by simp),hok,.of_eq hg⟩
    refine codeAny_mono ((F _ hKb (nsK hns) nb).run callerA [] s₁ (nZ a o T q) ⟨[.ref a],[]⟩ [.ref a] [.ref a] _ _ hr e0 (hbind s₁ (.ref a)) (.cons rfl .nil) (hsp _ tb hS)) fun r s' h=>?_
    cases r with
    |error e=>exact h.elim
    | ok fl =>
      cases fl with
      |next=>exact False.elim h
      |brk=>exact False.elim h
      |cont=>exact False.elim h
      | ret u =>
        obtain⟨v,H',os,bare,un,hok',r',z⟩:=h
        have z:v= .bl true:=z
        subst z
        obtain rfl:u=Value.bool true:=r'
        have each:∀b o,s₁.heap.get? b=some o→s'.heap.get? b=some o∨(b=T∧o=PySem.W.tabObj #[]∧∃qs,s'.heap.get? b=some (PySem.W.tabObj qs)):=fun b ob e=>by
          cases z:nZ a o T q b with
          |none=>exact .inl (un.keep b ob e z (by intro y;exact absurd (show b∈([]:List Addr) from y) (by simp)) (by simp))
          | some y=>
            rcases hH b y z with⟨rfl,rfl⟩ |⟨rfl,rfl,_⟩
            · obtain⟨more,z2⟩:=un.tbls _ _ z
              obtain⟨qs,e2,_⟩:=hok' _ _ z2
              rw[hT] at e;cases e
              exact .inr ⟨rfl,rfl,qs,e2⟩
            · have z2:=un.frzs _ _ _ z
              obtain⟨e1,_⟩:=hok _ _ z
              obtain⟨e2,_⟩:=hok' _ _ z2
              rw[e] at e1;cases e1
              exact .inl e2
        refine⟨rfl,⟨fun b ob e=>?_,fun b ob e=>?_⟩,os,bare⟩
        · rcases each b ob e with z |⟨rfl,rfl,qs,z⟩
          · exact .inl z
          · exact .inr (.inl ⟨(hC.tab hT).isCodeTable,rfl,#[],qs,rfl,by rw[Array.empty_append];exact z⟩)
        · rcases each b ob e with z |⟨rfl,rfl,qs,z⟩
          · exact⟨_,z⟩
          · exact⟨_,z⟩
  cases hk:K.lookup a with
  | some o=>
    have e:=KX a o hk
    rw[ha] at e
    cases e
    exact core none (.inl rfl) (.inr ⟨_,vs.toArray,_,hk,rfl,rfl,rfl,by rw[List.size_toArray,lenV];exact hl,by simpa using rv⟩) fun z=>absurd rfl z
  |none=>exact core _ (.inr rfl) (.inl (.inr ⟨_,(if_neg aT).trans (if_pos rfl)⟩)) fun _=>hk
noncomputable def Ac (K:PySem.W.Frag) (mg:Str->Option Value) (x:Str) (c:Addr):Prop:=∀f oc od fd osl,mg x=some (.ref f)->K.lookup f=some ⟨oc,od,.func fd,osl⟩->fd.code= .ref c
theorem afH {l:PySem.W.OpenLaw} {n k:Nat} {p:Program} {loose:List Str} {XP:(Str->Option Value)->Heap->Prop} {YP:World->Heap->Prop} {d:DefRec} {K:Params->PySem.W.Frag} {x y q:Str} {FL:List D->R D}
  (hn:l.most=some n) (hn2:n<=sizeLine) (hdf:d.params.defaults=[]) (hr:Room k callerA)
  (hY:∀(w:World) (h:Heap),YP w h->(K w.params).In h) (hnt:∀w:World,PySem.W.noTabs (K w.params)=true) (hrec:∃dy∈recsOf p,dy.name=y)
  (F:∀(w:World) (mg:Str->Option Value) (fa:Addr) (h:Heap),(K w.params).In h->h.Ns mainGlobals mg->mg d.name=some (.ref fa)->
   ∃ fd:FuncData,(∀(s:Shared) (u:Value),BindsTo s fd ⟨[u],[]⟩ [(x,u)])/\
    ∀(base:Heap) (c T:Addr),(K w.params).In base->base.Ns mainGlobals mg->qJ base mg c T->Ac (K w.params) mg y c->FnOk l.prog w (K w.params) mg base CX0 k fa fd [x] (spT [(T,q)] (K w.params) 1 FL))
  (hL:∀ns:List Int,ns.length<=n->FL [.lst (ns.map D.int)]= .ok (.bl true)):
  PySem.W.WalkO p loose XP YP l.row.toRowW d [] (λ f vs=>PySem.call f vs):=by
 refine Att.attach_call hn hdf λ w s₀ s₁ mg mb fa o pm cd doc a vs ns G Y ho hd hcd hmg hobj hints hlen hg=>?_;have KX:=hY w _ Y;obtain⟨fd,hb,hF⟩:=F w mg fa _ KX G.T.g hmg;obtain⟨dy,hdy,rfl⟩:=hrec;obtain⟨f',o',fd',c,T,t1,t2,t3,t4,t5,t6⟩:=G.T.tab dy hdy;have hci:Ac (K w.params) mg dy.name c:=λ f oc od fd2 osl e1 e2=>by
  rw[t1] at e1;cases e1;have e3:=KX _ _ e2;rw[t2] at e3;cases e3;cases t3;exact t4
 exact Yi (q:=q) KX G.T.g G.T.b G.T.builtins G.T.nolimit hg hobj hints (Nat.le_trans hlen hn2) hr (PySem.W.CodeHd.of t5 t6) t6.2 (hnt w) G.T.bmain (λ base h1 h2 h3=>hF base c T h1 h2 h3 hci) hb λ H tb hS=>⟨tb,sp_law hS (hL ns hlen)⟩
section
variable {X:Cx} {e lo hi:Expr} {f g:aA->R D} {fl fu:aA->R (Option Int)} {pos p2 p3 p4:Pos}
noncomputable def acj (d:D) (lo hi:Option Int):R D:=match d with
 | .lst ds=> .ok (.lst (jz ds lo hi))
 |_=> .bad
noncomputable def pX (f:aA->R D) (fl fu:aA->R (Option Int)):aA->R D:=λ ρ=>(f ρ).bind λ d=>(fl ρ).bind λ l=>(fu ρ).bind λ u=>acj d l u
theorem Ke {lo hi:Option Expr} (he:DE X e f) (hl:TX X lo fl) (hu:TX X hi fu):DE X (.Subscript e (.Slice lo hi none p2) pos) (pX f fl fu):=by
 refine PE.imp (pe_slice sl_list he hl hu) λ σ H Q h=>?_;obtain⟨ρ,O,j,h⟩:=h;refine go j h λ d v H1 e1 s1 r1 j1 h1=>?_;refine go j1 h1 λ l l' H2 e2 s2 r2 j2 h2=>?_;refine go j2 h2 λ u u' H3 e3 s3 r3 j3 h3=>?_;have r2:l=l':=r2;have r3:u=u':=r3;subst r2 r3;cases d with
 | lst ds=>
  have r1':=(r1.same s2).same s3;obtain⟨a,xs,rfl,hq,hn,rs⟩:=r1'.lst;have hlen:=rs.length;refine⟨a,xs,rfl,hq,λ p hp=>?_⟩;refine h3 _ _ (Same.upd hp) (Rep.tu hp (j3.zO hp) ?_);unfold jz cutV;rw[hlen];exact (rs.drop _).take _
 |_=>exact h3.elim
theorem acn {kk} {te:TE} (he:PE X e te):PE X (.Subscript e (.Slice none none (some (.UnaryOp .USub (.Constant (.int 1) kk p3) p4)) p2) pos) (λ σ H Q=>te σ H λ x H1=>∃a xs,x= .ref a/\SqL X.K H1 a xs/\∀p,H1 p=none->Q (.ref p) (upd H1 p (.lst xs.reverse))):=by
 intro pins s σ H Q I h;refine Subscript_ (thn (he pins s σ H _ I h) λ v s1 bM=>?_);obtain⟨x,H1,I1,r1,q1⟩:=bM;obtain⟨a,xs,rfl,hq,q⟩:=q1;cases r1;refine wpAny_Slice ?_;rw[evalPart_none,evalPart_some];refine wpAny_pure (wpAny_pure ?_);refine thn (pe_un (X:=X) un_neg pe_int pins s1 σ H1 (λ y H2=>y= .int (-1)/\H2=H1) I1 ⟨1,rfl,rfl,rfl⟩) λ vs s2 bM=>?_;obtain⟨y,H2,I2,r2,ey,eH⟩:=bM;subst ey;subst eH;obtain⟨t,rfl⟩:=r2;have I4:Inv X pins σ H2 {s2 with heap:=s2.heap.push {cls:= .type "slice",data:= .fields #[.none,.none,.int (-1) t]}}:=I2.kept (t':=s2.toks) λ b ob q=>Heap.get?_push_of_some _ q;obtain⟨its,rv,ht,hz⟩:=I4.list hq;have hlen:=rv.length;show wpAny (model X.prog X.w) X.A (subscriptTail e (.Slice none none (some (.UnaryOp .USub (.Constant (.int 1) kk p3) p4)) p2) (.ref a) (.ref s2.heap.objs.size)) (EP X pins σ Q) X.xe {s2 with heap:=s2.heap.push {cls:= .type "slice",data:= .fields #[.none,.none,.int (-1) t]}};refine tail_any (ops:=[.ref a,.ref s2.heap.objs.size]) ht.isList.typeIs slot_list_getitem.lookup (wpAny_getItem_list_slice ht.isList (Heap.IsSliceOf.new ..) .none .none (.int (-1) t) (by simp) ?_ (by rw[List.size_toArray];omega)) (by with_unfolding_all rfl);rw[PySem.W.krv_pick];refine⟨.ref _,_,I4.laid (t':=s2.toks) (o:= .lst xs.reverse) (λ b ob q=>Heap.get?_push_of_some _ q) (Nat.le_refl _) ?_,rfl,q _ (I4.hok.fresh (Nat.le_refl _))⟩;exact⟨by rw[List.length_reverse];exact hz,its.reverse,0,Vals.rev rv,(by have e:its.toArray.toList.reverse=its.reverse:=(by simp);rw[e];exact Heap.get?_push_size _ rfl)⟩
noncomputable def afI:D->R D
 | .lst ds=> .ok (.lst ds.reverse)
 |_=> .bad
noncomputable def Mx (f:aA->R D):aA->R D:=λ ρ=>(f ρ).bind afI
theorem aco {kk} (he:DE X e f):DE X (.Subscript e (.Slice none none (some (.UnaryOp .USub (.Constant (.int 1) kk p3) p4)) p2) pos) (Mx f):=by
 refine PE.imp (acn he) λ σ H Q h=>?_;obtain⟨ρ,O,j,h⟩:=h;refine go j h λ d v H1 e1 s1 r1 j1 h1=>?_;cases d with
 | lst ds=>
  obtain⟨a,xs,rfl,hq,hn,rs⟩:=r1.lst;exact⟨a,xs,rfl,hq,λ p hp=>h1 _ _ (Same.upd hp) (Rep.tu hp (j1.zO hp) rs.reverse)⟩
 |_=>exact h1.elim
noncomputable def Yj (i:Nat) (f:aA->R D):aA->R D:=λ ρ=>match ρ[i]? with
 |some (some (.lst ds))=>(f ρ).bind λ d=>bN (.lst ds) d
 |_=> .bad
theorem ad7 (i:Nat) {x:Str} {px:Pos} (hb:DE X e f) (hs:PlainIx e:=by exact λ _ _=>rfl) (hN:X.N[i]?=some x:=by rfl) (hv:Vis X.env.scope x:=by first |exact Or.inl rfl |exact Or.inr (Or.inl rfl) |exact Or.inr (Or.inr rfl))
  (hd:(x ==("__debug__" :Str))=false:=by decide) (hcd:(x ==("__classdict__" :Str))=false:=by decide):DE X (.Subscript (.Name x px) e pos) (Yj i f):=by
 refine PE.imp (pe_ix ix_seq (pe_var hN hv hd hcd) hb hs) λ σ H Q h=>?_;obtain⟨ρ,O,j,h⟩:=h;unfold Yj at h;split at h
 ·rename_i ds q;obtain⟨v,hv1,a,xs,rfl,hO,hH,rs⟩:=j.env.get i _ q;refine⟨.ref a,hv1,?_⟩;refine go j h λ d y H1 e1 s1 r1 j1 h1=>?_;cases d with
  | int k=>
   have h':good X (rD X) O (match L2.atI ds k with |some d=>R.ok d |none=>R.bad) σ H1 Q:=h1;cases e2:L2.atI ds k with
   |none=>rw[e2] at h';exact h'.elim
   | some d=>
    rw[e2] at h';obtain⟨v,e3,rv⟩:=(rs.same s1).atI e2;exact .inl ⟨a,xs,k,v,rfl,r1.int,SqL.of (s1 _ _ hH),e3,fin h' rv⟩
  |_=>exact h1.elim
 ·exact h.elim
end
section
variable {X:Cx} {pos:Pos}
noncomputable def Og (i k:Nat):aA->So:=λ ρ=>match ρ[i]?,ρ[k]? with
 |some (some (.lst ds)),some (some (.lst es))=>if ds.length < 1000000 then .nx ((ρ.set i (some (.lst (ds++[.lst es])))).set k (some (.val (.lst es)))) else .bad
 |_,_=> .bad
theorem At.give {H0 H:Hp} {O0 O:Addr->Prop} {ρ:aA} {σ:St} (j:At X H0 O0 O H ρ σ) {k:Nat} {es:List D} {b:Addr} (hk:ρ[k]?=some (some (.lst es))) (hb:σ[k]?=some (some (.ref b))):
  At X H0 O0 (λ a=>O a/\a≠b) H (ρ.set k (some (.val (.lst es)))) σ/\fU X.K O H (λ a=>O a/\a≠b) H:=by
 obtain⟨hH0,hO0⟩:=j.mine k _ b hk rfl hb;have rc:fU X.K O H (λ a=>O a/\a≠b) H:=⟨⟨λ _ _ z=>z,λ _ _ _ z=>z⟩,λ a z=> .inl z.1,λ _ z=>z⟩;have hkl:k < ρ.length:=(List.getElem?_eq_some_iff.mp hk).1;obtain⟨v,hv,b',xs,e1,hO,hH,rs⟩:=j.inn.env.get k _ hk;rw[hb] at hv;cases hv;cases e1;refine⟨⟨j.same,j.fD.trans rc,λ a z=>⟨j.sub a z,λ e=>hO0 (e▸z)⟩,⟨⟨λ m e q=>?_,λ m l e e' u hml hm hl om ol sm sl=>?_⟩,λ a z=>j.inn.al a z.1,j.inn.len,by rw[List.length_set];exact j.inn.nF⟩,λ m e a q ho hs=>?_⟩,rc⟩
 ·by_cases hmk:m=k
  ·subst hmk;rw[List.getElem?_set_self hkl] at q;cases q;exact⟨_,hb,sY (SqL.of hH) (λ z=>z.2 rfl) (rs.go rc)⟩
  ·rw[List.getElem?_set_ne (Ne.symm hmk)] at q;obtain⟨v,q1,q2⟩:=j.inn.env.get m e q;refine⟨v,q1,?_⟩;have nb:e.own=true->v≠.ref b:=λ oe z=>by subst z;exact j.inn.env.sep m k _ _ _ hmk q hk oe rfl q1 hb
   cases e with
   |val d=>exact Rep.go rc q2
   |obj t=>exact q2
   | lst ds=>
    obtain⟨a,ys,e2,o2,h2,r2⟩:=q2;exact⟨a,ys,e2,⟨o2,λ z=>nb rfl (by rw[e2,z])⟩,h2,r2.go rc⟩
   | zm kvs=>
    obtain⟨a,ys,e2,o2,h2,kk,r2⟩:=q2;exact⟨a,ys,e2,⟨o2,λ z=>nb rfl (by rw[e2,z])⟩,h2,kk,r2.go rc⟩
 ·have un:∀{m:Nat} {x:Ent},(ρ.set k (some (.val (.lst es))))[m]?=some (some x)->x.own=true->ρ[m]?=some (some x):=λ {m x} h ho=>by
   by_cases hmk:m=k
   ·subst hmk;rw[List.getElem?_set_self hkl] at h;cases h;cases ho
   ·rw[List.getElem?_set_ne (Ne.symm hmk)] at h;exact h
  exact j.inn.env.sep m l e e' u hml (un hm om) (un hl ol) om ol sm sl
 ·by_cases hmk:m=k
  ·subst hmk;rw[List.getElem?_set_self hkl] at q;cases q;cases ho
  ·rw[List.getElem?_set_ne (Ne.symm hmk)] at q;exact j.mine m e a q ho hs
theorem acp (i k:Nat) {x y:Str} {px py apos cpos:Pos} (hik:i≠k) (hN:X.N[i]?=some x:=by rfl) (hNk:X.N[k]?=some y:=by rfl) (hv:Vis X.env.scope x:=by first |exact Or.inl rfl |exact Or.inr (Or.inl rfl) |exact Or.inr (Or.inr rfl)) (hvk:Vis X.env.scope y:=by first |exact Or.inl rfl |exact Or.inr (Or.inl rfl) |exact Or.inr (Or.inr rfl))
  (hd:(x ==("__debug__" :Str))=false:=by decide) (hcd:(x ==("__classdict__" :Str))=false:=by decide) (hdk:(y ==("__debug__" :Str))=false:=by decide) (agH:(y ==("__classdict__" :Str))=false:=by decide)
  (hbase:attributeBase (.Name x px) "append" X.env (eval (.Name x px) X.env)=eval (.Name x px) X.env:=by rfl)
  (hfew:((backTo cpos (starEach [.Name y py] X.env)).all (λ x=> !x.1) && (backToKw cpos (keywordEach [] X.env)).all (λ x=>x.1.isSome)
   && decide ([Expr.Name y py].length+([]:List Keyword).length+(if ([]:List Keyword).isEmpty then 0 else 1) < 30))=true:=by rfl)
  (hline:(apos.endLine ==cpos.line)=true:=by rfl) (hs1:starEach [.Name y py] X.env=(false,eval (.Name y py) X.env)::starEach [] X.env:=by rfl) (hplain:(backTo cpos (starEach [] X.env)).any (·.1)=false:=by rfl)
  (hs:swapsWith (.Call (.Attribute (.Name x px) "append" apos) [.Name y py] [] cpos) none pos.line X.env=pure false:=by rfl):
  DS X (.Expr (.Call (.Attribute (.Name x px) "append" apos) [.Name y py] [] cpos) pos) (Og i k):=by
 refine PS.imp (ps_expr (pe_bm PySem.F.plainAttrs_list PySem.F.slot_list_append PySem.F.type_list_append mt_append (pe_var hN hv hd hcd) (pa_cons (pe_var hNk hvk hdk agH) pa_nil hs1) hbase hfew hline hs1 hplain) hs) λ σ H E h=>?_;obtain⟨H0,O0,O,ρ,j,h⟩:=h;unfold Og at h;split at h
 ·rename_i ds es q1 q2;by_cases hl:ds.length < 1000000
  ·rw[if_pos hl] at h;obtain⟨v,hv1,a,xs,rfl,hO,hH,rs⟩:=j.inn.env.get i _ q1;obtain⟨v,hv2,b,ys,rfl,hO2,hH2,FW⟩:=j.inn.env.get k _ q2;have hab:a≠b:=λ z=>j.inn.env.sep i k _ _ _ hik q1 q2 rfl rfl hv1 (by rw[z];exact hv2);refine⟨.ref a,hv1,.inl ⟨rfl,xs,SqL.of hH⟩,.ref b,hv2,?_⟩;have hlen:=rs.length;refine⟨a,xs,.ref b,rfl,rfl,hH,by have:=gH;omega,?_⟩;obtain⟨j1,r1⟩:=j.give q2 hv2;have q1':(ρ.set k (some (.val (.lst es))))[i]?=some (some (.lst ds)):=by rw[List.getElem?_set_ne (Ne.symm hik)];exact q1
   obtain⟨j2,r2⟩:=j1.chg (o:= .lst (xs++[.ref b])) (en:= .lst (ds++[.lst es])) q1' rfl hv1 ⟨hO,hab⟩ hH trivial rfl λ r=>⟨a,xs++[.ref b],rfl,⟨hO,hab⟩,upd_same,by
    have z1:aU X.K (λ c=>O c/\c≠b) H (ds++[.lst es]) (xs++[.ref b]):=(rs.go r1).append (.cons (sY (SqL.of hH2) (λ z=>z.2 rfl) (FW.go r1)) .nil);exact z1.go r⟩
   rw[List.set_comm _ _ (Ne.symm hik)] at j2;exact h _ _ _ j2 (r1.trans r2)
  ·rw[if_neg hl] at h;exact h.elim
 ·exact h.elim
end
section
open PySem
theorem Vp (l b:Addr) (items:Array Value) (n:Nat) (items2:Array Value) (n2:Nat) (dd:Option Addr) (sl:Array (Option Value)) (hs0:¬(!items.isEmpty && Builtin.List.listTooLong (items.size+items2.size))=true) (hs1:items.size<=sizeLine) (hs2:items.size+items2.size<=sizeLine+1):
  Meets (Builtin.«list.__iadd__» ⟨[.ref l,.ref b],[]⟩) (λ _ R s=>s.heap.get? l=some {cls:= .type "list",dict:=none,data:= .seq items n,slots:= #[]}/\s.heap.get? b=some {cls:= .type "list",dict:=dd,data:= .seq items2 n2,slots:=sl}/\R (.ok (.ret (Value.ref l))) {s with heap:=s.heap.update l (Obj.mapSeq λ x=>x++items2),toks:=s.toks}):=
 .of_wp λ prog w A R s h=>by
  obtain⟨hp,g,d,tk,os⟩:=s;obtain⟨hl,hb,h⟩:=h;have f1:=AutoSeq1.idx_int;have f2:=AutoSeq1.sub_tuple_tuple;have f3:=AutoSeq1.sub_list_list;have f4:=AutoSeq1.sub_tuple_list;have f5:=AutoSeq1.sub_list_tuple;
  have hz':(items++items2).size<=sizeLine+1:=by rw[Array.size_append];exact hs2
  wp_walk using (wpAny_updateSeq hl rfl (hz:=hs1) (_hz':=hz')),wpAny_loadPart' hl,wpAny_loadPart' hb;exact⟨_,rfl,h⟩
end
section
variable {X:Cx} {e:Expr} {f:aA->R D} {pos:Pos}
theorem acq:PIp X .Add (λ x y H Q=>∃a b xs ys,x= .ref a/\y= .ref b/\H a=some (.lst xs)/\SqL X.K H b ys/\xs.length+ys.length<=1000000/\Q (.ref a) (upd H a (.lst (xs++ys)))):=by
 intro pins s σ H x y v u Q I rx ry h;obtain⟨a,b,xs,ys,rfl,rfl,ha,hb,hz,q⟩:=h;cases rx;cases ry;obtain⟨its,n,r,ho,hzl⟩:=I.lst ha;obtain⟨its2,r2,p2,hz2⟩:=I.list hb;obtain⟨⟨cls2,dd2,data2,sl2⟩,ho2,hc2,n2,hd2⟩:=id p2.isList;simp only at hc2 hd2;subst hc2 hd2;have l1:=r.length;have l2:=r2.length;have hsl:=gH;have hT:s.TypeIs (.ref a) "list" :=⟨_,ho,rfl⟩;have hT2:s.TypeIs (.ref b) "list" :=⟨_,ho2,rfl⟩;unfold inplaceOp;refine wpAny_holding ?_;have hfi:fillsInplaceSlot (.type "list") "add" (Operator.Add == .Add)=pure false:=by
  unfold fillsInplaceSlot;show (typeLookup (.type "list") (dunderI "add") >>=λ fi=>pure (fi.isSome && !isSeqSlot fi))=pure false;rw[PySem.F.slot_list_iadd.lookup,pure_bind,show isSeqSlot (some (.builtin "list.__iadd__"))=true from by decide +kernel];rfl
 refine wpAny_bind (wpAny_typeOf hT (wpAny_bind (wpAny_of_eq hfi ?_)));show wpAny _ _ (if false=true then _ else _) _ _ s;rw[if_neg Bool.false_ne_true];refine wpAny_bind (binaryOp1_none (nm:= "add") hT hT2 PySem.noFill_list_add ?_);refine wpAny_bind (wpAny_of_eq (PySem.seqSlot_of (T:= "list") (name:=dunderI "add") (id:= "list.__iadd__") PySem.F.slot_list_iadd.lookup (by decide +kernel)) ?_);refine wpAny_bind (wpAny_rule ?_);refine call_meets PySem.F.slot_list_iadd hT PySem.F.entry_list_iadd (PySem.F.args_list_iadd_2 _ _) (Vp a b its.toArray n its2.toArray n2 dd2 sl2 ?_ (by rw[List.size_toArray];omega) (by rw[List.size_toArray,List.size_toArray];omega)) ⟨ho,ho2,?_⟩
 ·rw[List.size_toArray,List.size_toArray];have:Builtin.List.listTooLong (its.length+its2.length)=false:=by unfold Builtin.List.listTooLong;exact decide_eq_false (by omega)
  rw[this];simp
 ·refine⟨.ref a,upd H a (.lst (xs++ys)),I.lset (its':=its++its2) ha ho (by simp) (r.append r2) (by rw[List.length_append];omega),rfl,q⟩
noncomputable def Ey (i:Nat) (f:aA->R D):aA->So:=λ ρ=>match ρ[i]? with
 | some (some (.lst ds))=>kI (MP (f ρ)) ρ λ d=>match d with
  | .lst es=>if ds.length+es.length<=1000000 then .nx (ρ.set i (some (.lst (ds++es)))) else .bad
  |_=> .bad
 |_=> .bad
theorem Ui (i:Nat) {x:Str} {pos':Pos} (hN:X.N.Nodup) (he:DE X e f) (hi:X.N[i]?=some x:=by rfl) (hx:Loc X.env.scope x:=by first |exact Or.inl rfl |exact Or.inr rfl)
  (hf:X.fn x=true\/X.env.scope.names.lookup x=some .local:=by first |exact .inl rfl |exact .inr rfl):DS X (.AugAssign (.Name x pos') .Add e pos) (Ey i f):=by
 refine PS.imp (ps_aug hN hi hx he acq hf) λ σ H E h=>?_;obtain⟨H0,O0,O,ρ,j,h⟩:=h;unfold Ey at h;split at h
 ·rename_i ds q;obtain⟨v,hv1,a,xs,rfl,hO,hH,rs⟩:=j.inn.env.get i _ q;refine⟨.ref a,hv1,ρ,O,j.inn,?_⟩;unfold kI at h;cases e1:f ρ with
  |bad=>rw[e1] at h;exact h.elim
  |err c=>rw[e1] at h;exact h.elim
  | ok d =>
   rw[e1] at h;intro w H1 s1 rw1;cases d with
   | lst es=>
    have h:wY X H0 O0 O H E (if ds.length+es.length<=1000000 then .nx (ρ.set i (some (.lst (ds++es)))) else .bad):=h;by_cases hl:ds.length+es.length<=1000000
    ·rw[if_pos hl] at h;have j1:=j.grow s1;obtain⟨b,ys,rfl,hb,hnb,FW⟩:=rw1.lst;have rs1:=rs.same s1;have hH1:=s1 _ _ hH;refine⟨a,b,xs,ys,rfl,rfl,hH1,hb,by rw[<-rs1.length,<-FW.length];exact hl,?_⟩;obtain⟨j2,r2⟩:=j1.chg (o:= .lst (xs++ys)) (en:= .lst (ds++es)) q rfl hv1 hO hH1 trivial rfl λ r=>⟨a,xs++ys,rfl,hO,upd_same,(rs1.append FW).go r⟩;have eσ:σ.set i (some (V.ref a))=σ:=by
      apply List.ext_getElem?;intro m;by_cases hm:m=i
      ·subst hm;rw[List.getElem?_set_self (List.getElem?_eq_some_iff.mp hv1).1,hv1]
      ·rw[List.getElem?_set_ne (Ne.symm hm)]
     rw[eσ];exact h _ _ _ j2 ((Same.fD s1).trans r2)
    ·rw[if_neg hl] at h;exact h.elim
   |_=>exact h.elim
 ·exact h.elim
end
noncomputable def Its (lo:Int) (n:Nat) (c:Int):It:=⟨λ i _=>i < n,λ i H x H'=>H'=H/\x= .int (lo+i*c),λ i _=>n<=i⟩
theorem Yk {P:Program} {w:World} {K:PySem.W.Frag} {tg:Expr} (it:Addr) (lo:Int) (n:Nat) (c:Int):Turn P w K tg (Its lo n c) [it] it (λ i h=>IsRangeIter h it (lo+(i:Nat)*c) ((n:Int) - (i:Nat)) c) where
 mem:=by simp
 obj :=λ i h st b hb=>by
  have e:b=it:=by simpa using hb
  subst e;exact⟨_,st,λ v z=>by
   have z':Data.fields _=Data.cell v:=z;cases z'⟩
 keep:=λ i h h' st k=>k it (by simp) _ st
 item:=by
  intro X hP hw hK hc i pins s σ H E I hf st hg;subst hP hw hK;obtain⟨f0,f1,f2,f3,f4,f5⟩:=hf it (by simp);have W:=Walks.range (prog:=X.prog) (w:=X.w) (I.ok.hd hc) it lo c n;refine W.item i s _ _ hg st λ v h' tk hv st' kk=>?_;obtain⟨t,rfl⟩:=hv;have I1:Inv X pins σ H {s with heap:=h',toks:=tk}:=I.turned (λ b o hb e=>kk b o (by simpa using hb) e) f0 f1 f3 f4 f5;exact⟨_,rfl,go_of (s:={s with heap:=h',toks:=tk}) (n:= "range_iterator") st' rfl rfl (by decide) ⟨.int (lo+i*c),H,I1,⟨t,rfl⟩,⟨rfl,rfl⟩,st',λ b hb=>(hf b hb).1⟩⟩
 done:=by
  intro X hP hw hK hc i pins s σ H E I hf st hg;subst hP hw hK;obtain⟨f0,f1,f2,f3,f4,f5⟩:=hf it (by simp);exact wpAny_pyNext_range_end (I.ok.hd hc) st (by have:n<=i:=hg;omega) λ h' eb=>⟨rfl,I.turned (t':=s.toks) (λ b o hb e=>eb b o hb e) f0 f1 f3 f4 f5⟩
 self:=λ _ _ _ _ _ st h=>wpAny_pyIter_rangeiter st h
noncomputable def Ad (hi:Int) (n:Nat):List D:=(List.range n).map λ (i:Nat)=>D.int (hi - (i:Int))
theorem YR.step {K:PySem.W.Frag} {O:Addr->Prop} {H:Hp} (hi:Int) (n:Nat):YR K O H (Its hi n (-1)) (Ad hi n):=by
 intro O' H' _;intro i;refine⟨λ d e=>?_,λ e=>?_⟩
 ·unfold Ad at e;rw[List.getElem?_map] at e;cases q:(List.range n)[i]? with
  |none=>rw[q] at e;cases e
  | some k=>
   rw[q] at e;have hk:i < n/\i=k:=by simpa[List.getElem?_range] using (List.getElem?_eq_some_iff.mp q)
   obtain⟨h1,rfl⟩:=hk;cases e;refine⟨h1,λ x H2 y=>?_⟩;obtain⟨rfl,rfl⟩:=y;exact⟨Same.refl _,by rw[show hi+(i:Int)*(-1)=hi - (i:Int) by omega];exact cJ _⟩
 ·show n<=i;unfold Ad at e;simpa using e
section
variable {X:Cx} {tg a b c:Expr} {p pos p2 pos2:Pos} {fa:aA->R (List D)} {ta:TA}
noncomputable def agR:List D->R (List D)
 |[.int i,.int j,.int k]=>if k= -1/\-(2 ^ 62)<=i/\i < 2 ^ 62/\-(2 ^ 62)<=j/\j < 2 ^ 62 then .ok (Ad i (i - j).toNat) else .bad
 |_=> .bad
end
section
variable {prog:Program} {w:World} {A:Around} {E:Value->Shared->Prop} {s:Shared}
theorem Gp (r:Addr) (j:Int) (t u v:Tok) (h0:0<=j) (h1:j<=1000):Meets (Builtin.«range.__reversed__» ⟨[.ref r],[]⟩) (λ _ R s=>IsRange s.heap r 0 j 1 t u v/\R (.ok (.ret (.ref s.heap.objs.size))) {s with heap:=s.heap.push {cls:= .type "range_iterator",data:= .fields #[rawInt (j - 1),rawInt j,rawInt (-1)]}}):=
 .of_wp λ prog w A R s h=>by
  obtain⟨hp,g,d,tk,os⟩:=s;obtain⟨hr,h⟩:=h;have e1:Builtin.Range.rangeSize 0 j 1=j:=by rw[rangeSize_one];split <;> omega
  have e2:(Builtin.Range.rangeFitsLong 0 && Builtin.Range.rangeFitsLong j && Builtin.Range.rangeFitsLong 1 && Builtin.Range.rangeFitsLong (-1) && Builtin.Range.rangeFitsLong (0 - 1) && Builtin.Range.rangeFitsLong j)=true:=by
   simp only[Builtin.Range.rangeFitsLong,Bool.and_eq_true,decide_eq_true_eq];omega
  have e3:(0:Int)+(j - 1)*1=j - 1:=by omega
  unfold Builtin.«range.__reversed__» Builtin.Range.rangeFields
  wp_walk using wpAny_loadPart' hr
  rw[e1];simp only[e2,e3,Bool.not_true,Bool.false_eq_true,if_false,if_true];unfold newFields;refine wpAny_bind (wpAny_newObj_type (wpAny_pure ⟨_,rfl,h⟩) (by size_fits))
theorem Gq:isSubtype (.type "range_iterator") (.type "reversed")=pure false:=by rw[isSubtype_type];kernel_rfl
theorem Ij {r:Addr} {j:Int} {t u v:Tok} {Q₁:Value->Shared->Prop} (h0:0<=j) (h1:j<=1000) (hr:IsRange s.heap r 0 j 1 t u v)
  (h:Q₁ (.ref s.heap.objs.size) {s with heap:=s.heap.push {cls:= .type "range_iterator",data:= .fields #[rawInt (j - 1),rawInt j,rawInt (-1)]}}):
  codeAny (model prog w) A (.call (.builtin "reversed.__new__") ⟨[.type "reversed",.ref r],[]⟩) (wants Q₁ E) s:=by
 have hT:s.TypeIs (.ref r) "range" :=⟨_,hr,rfl⟩;refine codeAny_of_tree ?_;show wpAny _ A.in1 (do checkBuiltinCall "reversed.__new__" ⟨[.type "reversed",.ref r],[]⟩;again (.builtin "reversed.__new__" ⟨[.type "reversed",.ref r],[]⟩)) _ _ s;refine wpAny_bind (wpAny_of_eq (PySem.F.newCall_reversed_1 _) (wpAny_pure ⟨plainId_quiet PySem.F.plain_reversed_new _,codeAny_builtin PySem.F.entry_reversed_new ?_⟩));rw[Around.under_plainId PySem.F.plain_reversed_new _];unfold Builtin.«reversed.__new__»;refine wpAny_bind (wpAny_of_eq (newClass_reversed _) ?_)
 try dsimp only
 refine wpAny_bind (wpAny_of_eq (a:=()) (by first |rfl |kernel_rfl) ?_);refine wpAny_bind (wpAny_of_eq (a:=()) (by first |rfl |kernel_rfl) ?_)
 try dsimp only
 refine wpAny_bind (wpAny_specialOf hT PySem.F.slot_range_reversed.lookup ?_)
 try dsimp only
 refine wpAny_bind (wpAny_of_eq (PySem.F.slot_range_reversed.bind _) ?_)
 try dsimp only
 first
 |rw [if_neg (show ¬((Value.builtin "range.__reversed__" ==Value.none)=true) from Bool.false_ne_true)]
 |(show wpAny _ _ (if (Value.builtin "range.__reversed__" ==Value.none)=true then _ else _) _ _ _;rw[if_neg (show ¬((Value.builtin "range.__reversed__" ==Value.none)=true) from Bool.false_ne_true)])
 refine wpAny_bind (wpAny_rule ?_);refine wpAny_bind (m:=runValue (.call (.builtin "range.__reversed__") ⟨[.ref r],[]⟩)) (show wpAny _ _ (call (.builtin "range.__reversed__") [.ref r]) _ _ _ from call_meets PySem.F.slot_range_reversed hT PySem.F.entry_range_reversed (PySem.F.args_range_reversed_1 _) (Gp r j t u v h0 h1) ⟨hr,?_⟩)
 first
 |exact wpAny_pure h
 |exact wpAny_bind (wpAny_pure (wpAny_pure h))
theorem Ik {r:Addr} {j:Int} {t u v:Tok} {Q:Value->Shared->Prop} (h0:0<=j) (h1:j<=1000) (hr:IsRange s.heap r 0 j 1 t u v)
  (h:Q (.ref s.heap.objs.size) {s with heap:=s.heap.push {cls:= .type "range_iterator",data:= .fields #[rawInt (j - 1),rawInt j,rawInt (-1)]}}):wpAny (model prog w) A (call (.type "reversed") [.ref r]) Q E s:=by
 refine callType_other (U:= "range_iterator") (Q₁:=λ obj s₁=>obj= .ref s.heap.objs.size/\s₁={s with heap:=s.heap.push {cls:= .type "range_iterator",data:= .fields #[rawInt (j - 1),rawInt j,rawInt (-1)]}}) (by decide +kernel) PySem.F.create_reversed ⟨_,_,PySem.F.mro_reversed⟩ PySem.F.made_reversed Gq (PySem.F.typeCall_reversed_1 _) (Ij h0 h1 hr ⟨rfl,rfl⟩) ?_
 rintro obj s₁ ⟨rfl,rfl⟩
 exact⟨⟨_,Heap.get?_push_size _ rfl,rfl⟩,h⟩
end
section
variable {X:Cx} {tg a:Expr} {p pos p2 pos2:Pos} {fa:aA->R (List D)}
noncomputable def Oh:List D->R (List D)
 |[.int j]=>if 0<=j/\j<=1000 then .ok (Ad (j - 1) j.toNat) else .bad
 |_=> .bad
theorem acr (hg:Gl X "reversed") (hm:X.mg "reversed" =none) (hg2:Gl X "range") (hm2:X.mg "range" =none) (ha:DA X [a] fa) (hs:starEach [a] X.env=[(false,eval a X.env)]:=by rfl)
  (he:starEach [.Call (.Name "range" p2) [a] [] pos2] X.env=(false,eval (.Call (.Name "range" p2) [a] [] pos2) X.env)::starEach [] X.env:=by rfl) (hpl:(backTo pos (starEach [] X.env)).any (·.1)=false:=by rfl):
  DI X tg (.Call (.Name "reversed" p) [.Call (.Name "range" p2) [a] [] pos2] [] pos) (λ ρ=>(fa ρ).bind Oh):=by
 intro pins s σ H R I h;have A:=pa_cons (adS (p:=p2) (pos:=pos2) hg2 hm2 ha hs) pa_nil he;obtain⟨ρ,O,jn,h⟩:=h;have key:tCons (adR X.K (tG X (JL X) fa)) tNil σ H (λ vs H1=>∃q j,vs=[.ref q]/\H1 q=some (.rng 0 j)/\0<=j/\j<=1000/\R (Its (j - 1) j.toNat (-1)) H1):=by
  refine go jn h λ ds vs H1 e1 s1 r1 j1 h1=>?_;unfold Oh at h1;split at h1
  ·rename_i j;by_cases hh:0<=j/\j<=1000
   ·rw[if_pos hh] at h1;obtain⟨v,rfl,w⟩:=r1.one;exact⟨j,by rw[w.int],hh.1,hh.2,λ q hq=>⟨q,j,rfl,upd_same,hh.1,hh.2,h1 _ _ (Same.upd hq) (YR.step _ _)⟩⟩
   ·rw[if_neg hh] at h1;exact h1.elim
  ·exact h1.elim
 refine Call_ (ld_blt I hg hm boot_reversed (PyProof.Rows.callWith_type1 (thn (A pos pins s σ H _ I key) λ us s1 ⟨vs,H1,I1,r1,q1⟩=>?_) he hpl));obtain⟨q,j,e,hq,h0,h1,q⟩:=q1;subst e;cases r1 with
 | cons r rr=>
  cases rr;cases r;obtain⟨t,u,v,hr⟩:=I1.hok _ _ hq;refine Ik h0 h1 hr ?_;have hit:IsRangeIter (s1.heap.push {cls:= .type "range_iterator",data:= .fields #[rawInt (j - 1),rawInt j,rawInt (-1)]}) s1.heap.objs.size (j - 1) j (-1):=Heap.get?_push_size _ rfl;refine wpAny_pyIter_rangeiter (s:={s1 with heap:=s1.heap.push {cls:= .type "range_iterator",data:= .fields #[rawInt (j - 1),rawInt j,rawInt (-1)]}}) hit ?_;refine⟨s1.heap.objs.size,[s1.heap.objs.size],_,_,H1,rfl,I1.kept (t':=s1.toks) λ b o e=>Heap.get?_push_of_some _ e,Yk _ (j - 1) j.toNat (-1),?_,λ b hb=>?_,q⟩
  ·show IsRangeIter _ _ (j - 1+((0:Nat):Int)*(-1)) (((j.toNat:Nat):Int) - ((0:Nat):Int)) (-1);rw[show j - 1+((0:Nat):Int)*(-1)=j - 1 by simp,show ((j.toNat:Nat):Int) - ((0:Nat):Int)=j by omega];exact hit
  ·have e:b=s1.heap.objs.size:=by simpa using hb
   subst e;exact I1.fpOk (Nat.le_refl _) (I1.hok.fresh (Nat.le_refl _))
end
end Pu
namespace Pu
open PySem PySem.Spec PySem.W L2
open PyProof.Rows hiding St
noncomputable def dR:List Int->List Int->Bool
 |[],[]=>false
 |[],_::_=>true
 |_::_,[]=>false
 |x::xs,y::ys=>if x=y then dR xs ys else decide (x < y)
theorem oh:∀a:List Int,dR a a=false
 |[]=>rfl
 |x::xs=>by rw[dR,if_pos rfl];exact oh xs
theorem lG:∀{a b c:List Int},dR a b=true->dR b c=true->dR a c=true
 |[],[],_,h,_=>by cases h
 |[],_::_,[],_,h=>by cases h
 |[],_::_,_::_,_,_=>rfl
 |_::_,[],_,h,_=>by cases h
 |_::_,_::_,[],_,h=>by cases h
 | x ::a,y::b,z::c,h1,h2=>by
  rw[dR] at h1 h2 |-;by_cases e1:x=y
  ·rw[if_pos e1] at h1;subst e1;by_cases e2:x=z
   ·rw[if_pos e2] at h2 |-;exact lG h1 h2
   ·rw[if_neg e2] at h2 |-;exact h2
  ·rw[if_neg e1] at h1;have h1:x < y:=of_decide_eq_true h1;by_cases e2:y=z
   ·subst e2;rw[if_neg e1];exact decide_eq_true h1
   ·rw[if_neg e2] at h2;have h2:y < z:=of_decide_eq_true h2;rw[if_neg (by omega)];exact decide_eq_true (by omega)
theorem xO:∀{a b:List Int},a≠b->dR a b=false->dR b a=true
 |[],[],h,_=>absurd rfl h
 |[],_::_,_,h=>by cases h
 |_::_,[],_,_=>rfl
 | x ::a,y::b,h,e=>by
  rw[dR] at e |-;by_cases e1:x=y
  ·subst e1;rw[if_pos rfl] at e |-;exact xO (λ z=>h (by rw[z])) e
  ·rw[if_neg e1] at e;rw[if_neg (λ z=>e1 z.symm)];have e:¬x < y:=of_decide_eq_false e;exact decide_eq_true (by omega)
section
variable {prog:Program} {w:World} {A:Around} {E:Value->Shared->Prop} {s:Shared}
theorem Ry {a b:Addr} {oa ob:Obj} {xs ys:Array Value} {na nb:Nat} {ns ms:List Int} {P:PySem.Fin->Shared->Prop} (hoa:s.heap.get? a=some oa) (hda:oa.data= .seq xs na) (hob:s.heap.get? b=some ob) (hcb:ob.cls= .type "tuple") (hdb:ob.data= .seq ys nb)
  (hia:IntsAre xs.toList ns) (hib:IntsAre ys.toList ms) (h:P (.done (.ret (.bool (dR ns ms)))) s):
  wpAny (model prog w) A (Builtin.«tuple.__lt__» ⟨[.ref a,.ref b],[]⟩) P E s:=by
 have hTb:s.TypeIs (.ref b) "tuple" :=⟨ob,hob,hcb⟩;show wpAny _ _ (isInstance (.ref b) (.type "tuple") >>=_) _ _ s;refine wpAny_bind (wpAny_isInstance hTb isSubtype_tuple_tuple ?_);simp only[Bool.not_true,Bool.false_eq_true,if_false];refine wpAny_bind (wpAny_tupleItemsOf hoa hda ?_);refine wpAny_bind (wpAny_tupleItemsOf hob hdb ?_);refine wpAny_bind ?_;refine wpAny_forIn_list _
  (λ rest r s'=>r.1=none/\s'=s/\∃xs' ys' ns' ms',rest=List.zip xs' ys'/\IntsAre xs' ns'/\IntsAre ys' ms'/\dR ns' ms'=dR ns ms/\decide (xs'.length < ys'.length)=decide (xs.size < ys.size))
  _ ?_ ?_ _ _ ⟨rfl,rfl,xs.toList,ys.toList,ns,ms,rfl,hia,hib,rfl,by simp⟩
 ·rintro ⟨u,v⟩ rest r s' ⟨hr,rfl,xs',ys',ns',ms',hz,hx',hy',hdec,hlen⟩
  cases hx' with
  |nil=>simp at hz
  | cons k1 t1 hx''=>
   cases hy' with
   |nil=>simp at hz
   | cons k2 t2 hy''=>
    simp only[List.zip_cons_cons,List.cons.injEq,Prod.mk.injEq] at hz;obtain⟨⟨rfl,rfl⟩,rfl⟩:=hz;refine wpAny_bind (wpAny_eqBool_int ?_);rw[dR] at hdec;by_cases hk:k1=k2
    ·subst hk;rw[if_pos rfl] at hdec;simp only[beq_self_eq_true,Bool.not_true,Bool.false_eq_true,if_false];exact wpAny_pure ⟨rfl,rfl,_,_,_,_,rfl,hx'',hy'',hdec,by simpa using hlen⟩
    ·rw[if_neg hk] at hdec;have e:(k1 ==k2)=false:=by simpa using hk
     rw[e];simp only[Bool.not_false,if_true];rw[<-hdec] at h;refine wpAny_bind (wpAny_rule ?_);refine wpAny_bind (m:=richCompare .Lt (.int k1 t1) (.int k2 t2)) (show wpAny _ _ (compareOp .Lt (.int k1 t1) (.int k2 t2)) _ _ _ from lt_int ?_)
     first
      |exact wpAny_pure (wpAny_pure h)
      |exact wpAny_bind (wpAny_pure (wpAny_pure (wpAny_pure h)))
      |exact wpAny_bind (wpAny_pure (wpAny_pure h))
 ·rintro⟨r1,r2⟩ s' ⟨hr,rfl,xs',ys',ns',ms',hz,hx',hy',hdec,hlen⟩
  simp only at hr;subst hr;refine wpAny_pure ?_;have hfin:decide (xs.size < ys.size)=dR ns ms:=by
   rw[<-hdec,<-hlen];cases hx' with
   | nil=>
    cases hy' with
    |nil=>rfl
    |cons _ _ _=>simp[dR]
   | cons _ _ _=>
    cases hy' with
    |nil=>simp[dR]
    |cons _ _ _=>simp at hz
  show P (.done (.ret (.bool (decide (xs.size < ys.size))))) s';rw[hfin];exact h
theorem Uj {a b:Addr} {oa ob:Obj} {xs ys:Array Value} {na nb:Nat} {ns ms:List Int} {Q:Value->Shared->Prop} (hu:A.units < cLine) (hoa:s.heap.get? a=some oa) (hca:oa.cls= .type "tuple") (hda:oa.data= .seq xs na) (hob:s.heap.get? b=some ob) (hcb:ob.cls= .type "tuple") (hdb:ob.data= .seq ys nb)
  (hia:IntsAre xs.toList ns) (hib:IntsAre ys.toList ms) (h:Q (.bool (dR ns ms)) s):wpAny (model prog w) A (compareOp .Lt (.ref a) (.ref b)) Q E s:=by
 show wpAny _ _ (richCompare .Lt (.ref a) (.ref b)) _ _ _;exact wpAny_richCompare_same_room (op:= .Lt) ⟨oa,hoa,hca⟩ ⟨ob,hob,hcb⟩ PySem.F.slot_tuple_lt
   (wpAny_call_entry PySem.F.slot_tuple_lt ⟨oa,hoa,hca⟩ PySem.F.entry_tuple_lt (Ry hoa hda hob hcb hdb hia hib ⟨_,rfl,(λ e=>nomatch e),h⟩) (PySem.F.args_tuple_lt_2 _ _)) hu
end
section
variable {X:Cx}
end
noncomputable def Ez (p:List Int):List (List Int)->List (List Int)
 |[]=>[p]
 |q::r=>if dR p q then p::q::r else q::Ez p r
noncomputable def lH:List (List Int)->List (List Int)
 |[]=>[]
 |p::r=>Ez p (lH r)
theorem Ae (p:List Int):∀l,(Ez p l).Perm (p::l)
 |[]=> .refl _
 | q::r=>by
  unfold Ez;split
  ·exact .refl _
  ·exact ((Ae p r).cons q).trans (List.Perm.swap p q r)
theorem jm:∀l,(lH l).Perm l
 |[]=> .refl _
 |p::r=>(Ae p _).trans ((jm r).cons p)
noncomputable abbrev Gr (l:List (List Int)):Prop:=l.Pairwise λ a b=>dR a b=true
theorem Kf (p:List Int):∀{l:List (List Int)},Gr l->p∉l->Gr (Ez p l)
 |[],_,_=>by unfold Ez;simp
 | q ::r,h,hn=>by
  obtain⟨h1,h2⟩:=List.pairwise_cons.mp h;unfold Ez;by_cases e:dR p q=true
  ·rw[if_pos e];refine List.pairwise_cons.mpr ⟨λ z hz=>?_,h⟩;rcases List.mem_cons.mp hz with z1 |z1
   ·rw[z1];exact e
   ·exact lG e (h1 z z1)
  ·rw[if_neg e];have e2:dR q p=true:=xO (λ z=>hn (by rw[z];exact List.mem_cons_self)) (by simpa using e);refine List.pairwise_cons.mpr ⟨λ z hz=>?_,Kf p h2 λ z=>hn (List.mem_cons_of_mem _ z)⟩;rcases List.mem_cons.mp ((Ae p r).mem_iff.mp hz) with z1 |z1
   ·rw[z1];exact e2
   ·exact h1 z z1
theorem Af:∀{l:List (List Int)},l.Nodup->Gr (lH l)
 |[],_=> .nil
 | p::r,h=>by
  obtain⟨h1,h2⟩:=List.nodup_cons.mp h;exact Kf p (Af h2) λ z=>h1 ((jm r).mem_iff.mp z)
theorem Gs:∀{a b:List (List Int)},a.Perm b->Gr a->Gr b->a=b
 |[],b,p,_,_=>(List.nil_perm.mp p).symm
 |x::a,[],p,_,_=>absurd (List.perm_nil.mp p) (by simp)
 | x :: a,y::b,p,ha,hb=>by
  have ha':=List.pairwise_cons.mp ha;have hb':=List.pairwise_cons.mp hb;have h1:x=y:=by
   rcases List.mem_cons.mp (p.mem_iff.mp (List.mem_cons_self (a:=x) (l:=a))) with h |h
   ·exact h
   ·rcases List.mem_cons.mp (p.mem_iff.mpr (List.mem_cons_self (a:=y) (l:=b))) with k |k
    ·exact k.symm
    ·have:=lG (ha'.1 y k) (hb'.1 x h);rw[oh] at this;cases this
  subst h1;rw[Gs ((List.perm_cons x).mp p) ha'.2 hb'.2]
theorem Vq {ts:List (List Int)} (hn:ts.Nodup) {a b:Nat} (ha:a < ts.length) (hb:b < ts.length) (hab:a≠b):ts.getD a []≠ts.getD b []:=by
 simp only[List.getD,List.getElem?_eq_getElem ha,List.getElem?_eq_getElem hb,Option.getD_some];intro z;exact hab ((List.getElem_inj hn).mp z)
theorem acs {ts:List (List Int)} (hn:ts.Nodup):Ord ts.length (λ i j=>dR (ts.getD i []) (ts.getD j [])):=
 ⟨λ a b c _ _ _ h1 h2=>lG h1 h2,λ a b ha hb hab h=>xO (Vq hn ha hb hab) h⟩
theorem Oi {ts:List (List Int)} (hn:ts.Nodup) {q:Array Nat} (h:Pm ts.length q) (hs:S (λ i j=>dR (ts.getD i []) (ts.getD j [])) q ts.length):q.toList.map (λ i=>ts.getD i [])=lH ts:=by
 refine Gs ?_ ?_ (Af hn)
 ·have e:(List.range ts.length).map (λ i=>ts.getD i [])=ts:=by
   apply List.ext_getElem?;intro i;by_cases hi:i < ts.length
   ·simp[hi]
   ·simp[hi]
  have:=h.perm.map λ i=>ts.getD i [];rw[e] at this;exact this.trans (jm ts).symm
 ·refine List.pairwise_iff_getElem.mpr λ i j hi hj hij=>?_;have hl:(q.toList.map λ i=>ts.getD i []).length=ts.length:=by simp[h.size]
  have:=hs i j hij (by rw[<-hl];exact hj);have e:∀(k:Nat) (hk:k < (q.toList.map λ i=>ts.getD i []).length),(q.toList.map λ i=>ts.getD i [])[k]=ts.getD (q.getD k 0) []:=λ k hk=>by
   have hk':k < q.size:=by simpa using hk
   simp[Array.getD,hk']
  rw[e i hi,e j hj];exact this
section
variable {prog:Program} {w:World} {A:Around} {E:Value->Shared->Prop} {s:Shared}
inductive iz (h:Heap) (a:Addr) (l c:Int) (ps:List Int):Prop
 |mk (o o2:Obj) (n n2:Nat) (t u:Tok) (p:Addr) (vs:Array Value) (h1:h.get? a=some o) (h2:o.cls= .type "tuple") (h3:o.data= .seq #[.int l t,.int c u,.ref p] n) (h4:h.get? p=some o2) (h5:o2.cls= .type "tuple") (h6:o2.data= .seq vs n2) (h7:IntsAre vs.toList ps):iz h a l c ps
theorem iz.keeps {h h':Heap} {a:Addr} {l c:Int} {ps:List Int} (x:iz h a l c ps) (k:∀b o,h.get? b=some o->o.cls= .type "tuple"->h'.get? b=some o):iz h' a l c ps:=
 by
 obtain⟨o,o2,n,n2,t,u,p,vs,h1,h2,h3,h4,h5,h6,h7⟩:=x;exact⟨o,o2,n,n2,t,u,p,vs,k _ _ h1 h2,h2,h3,k _ _ h4 h5,h5,h6,h7⟩
theorem uq {prog:Program} {w:World}:∀{vs:List Value} {ns:List Int},IntsAre vs ns->ItemsAre (intKind prog w) ns vs
 |_,_,.nil=> .nil
 |_,_,.cons n t h=> .cons (intKind_is _ _ _ _) (uq h)
theorem acu {x y:Addr} {l c l' c':Int} {ps qs:List Int} {Q:Bool->Shared->Prop} (hu:A.units < cLine) (hx:iz s.heap x l c ps) (hy:iz s.heap y l' c' qs) (h:Q (dR (l::c::ps) (l'::c'::qs)) s):
  wpAny (model prog w) A (keyLt' (tuples' true) (.ref x) (.ref y)) Q E s:=by
 obtain⟨o,o2,n,n2,t,u,p,vs,h1,h2,h3,h4,h5,h6,h7⟩:=hx;obtain⟨o',o2',n',n2',t',u',p',vs',g1,g2,g3,g4,g5,g6,g7⟩:=hy;refine kat_lt h1 h3 g1 g3 ?_;show KatLex prog w A true (decide (3 < 3)) Q [(.int l t,.int l' t'),(.int c u,.int c' u'),(.ref p,.ref p')] 0 s;rw[dR,dR] at h;refine kat_cons (SeqAt.EqAt.int_int l t l' t' prog w _ _ ?_);by_cases e1:l=l'
 ·rw [if_pos e1] at h;rw[show (l ==l')=true by simpa using e1];refine kat_yes (kat_cons (SeqAt.EqAt.int_int c u c' u' prog w _ _ ?_));by_cases e2:c=c'
  ·rw[if_pos e2] at h;rw[show (c ==c')=true by simpa using e2];refine kat_yes (kat_cons (wpAny_eqBool_tuple (knd:=intKind prog w) hu ⟨o2,vs,n2,h4,h5,h6,uq h7⟩ ⟨o2',vs',n2',g4,g5,g6,uq g7⟩ ?_));by_cases e3:ps=qs
   ·rw[e3,oh] at h;rw[decide_eq_true e3];exact kat_yes (kat_nil (by simpa using h))
   ·rw[decide_eq_false e3];refine kat_no ?_;show wpAny (model prog w) A (oneLt' false _ _) Q _ s;exact kat_one _ _ (Uj hu h4 h5 h6 g4 g5 g6 h7 g7 h)
  ·rw[if_neg e2] at h;rw[show (c ==c')=false by simpa using e2];refine kat_no ?_;show wpAny (model prog w) A (oneLt' false _ _) Q _ s;exact kat_one _ _ (lt_int h)
 ·rw[if_neg e1] at h;rw[show (l ==l')=false by simpa using e1];refine kat_no ?_;show wpAny (model prog w) A (keyLt' oneType' (.int l t) (.int l' t')) Q _ s;exact kat_lt_int h
end
theorem Oj {h:Heap}:∀(as:List Addr),(∀a∈as,∃l c ps,iz h a l c ps)->∃fs,KatTups h (as.map Value.ref) fs/\fs.length=as.length/\∀f∈fs,∃k t,f=Value.int k t
 |[],_=>⟨[],.nil,rfl,λ f hf=>by simp at hf⟩
 | a::as,hx=>by
  obtain⟨l,c,ps,o,o2,n,n2,t,u,p,vs,h1,h2,h3,_⟩:=hx a List.mem_cons_self;obtain⟨fs,k1,k2,k3⟩:=Oj as λ b hb=>hx b (List.mem_cons_of_mem _ hb);refine⟨.int l t::fs,KatTups.cons h1 h2 h3 rfl k1,by simp[k2],λ f hf=>?_⟩;rcases List.mem_cons.mp hf with z |z
  ·exact⟨l,t,z⟩
  ·exact k3 f z
section
variable {X:Cx}
noncomputable def CW (K:PySem.W.Frag) (H:Hp) (a:Addr) (ns:List Int):Prop:=∃l c ps p,ns=l::c::ps/\SqT K H a [.int l,.int c,.ref p]/\SqT K H p (ps.map V.int)
theorem Il {pins:List (Addr×Obj)} {σ:St} {H:Hp} {s:Shared} {a:Addr} {ns:List Int} (I:Inv X pins σ H s) (h:CW X.K H a ns):∃l c ps,ns=l::c::ps/\iz s.heap a l c ps:=by
 obtain⟨l,c,ps,p,rfl,h1,h2⟩:=h;obtain⟨its,r1,⟨o,ho,hc,n,hd⟩,_⟩:=I.tuple h1;obtain⟨its2,r2,⟨o2,ho2,hc2,n2,hd2⟩,_⟩:=I.tuple h2;refine⟨l,c,ps,rfl,?_⟩;cases r1 with
 | cons a1 r1=>
  cases r1 with
  | cons a2 r1=>
   cases r1 with
   | cons a3 r1=>
    cases r1;obtain⟨t,rfl⟩:=a1;obtain⟨u,rfl⟩:=a2;cases a3;exact⟨o,o2,n,n2,t,u,p,its2.toArray,ho,hc,hd,ho2,hc2,hd2,by simpa using T7 r2⟩
theorem Vr (hu:X.A.units+2 < cLine):CallR X (.builtin "sorted") (λ xs H Q=>∃(a:Addr) (as:List Addr) (ts:List (List Int)),xs=[.ref a]/\SqL X.K H a (as.map V.ref)/\as.length=ts.length/\ts.length < 64/\ts.Nodup/\(∀(i:Nat) b t,as[i]?=some b->ts[i]?=some t->CW X.K H b t)/\
  ∀(B:Addr) (bs:List Addr),H B=none->bs.length=ts.length->(∀(i:Nat) b t,bs[i]?=some b->(lH ts)[i]?=some t->b∈as/\∃j:Nat,as[j]?=some b/\ts[j]?=some t)->Q (.ref B) (upd H B (.lst (bs.map V.ref)))):=by
 intro pins s σ H xs us Q I r h;obtain⟨a,as,ts,rfl,hq,hl,h64,hn,ht,q⟩:=h;obtain⟨u,rfl,rx⟩:=vals1 r;cases rx;obtain⟨its,rv,pl,hz⟩:=I.list hq;have hits:its=as.map Value.ref:=by
  have:∀(as:List Addr) (its:List Value),Vals (as.map V.ref) its->its=as.map Value.ref:=by
   intro as
   induction as with
   |nil=>intro its r;cases r;rfl
   |cons b as ih=>intro its r;cases r with |cons r1 r2=>cases r1;rw[ih _ r2];rfl
  exact this as its rv
 subst hits;have lenV:(as.map Value.ref).length=ts.length:=by rw[List.length_map,hl]
 refine Calls.call_function_entry kind_sorted plain_sorted entry_sorted (args_sorted1 _) ?_;unfold Builtin.«sorted»;refine wpAny_bind (m:=checkCount "sorted" 1 1 _) (wpAny_pure ?_);refine wpAny_bind (collect_list pl.isList ?_);refine wpAny_bind (wpAny_newList ?_ (by rw[lenV,sizeLine_eq];omega));have hsz:((s.heap.push (seqObj "list" #[] 0)).update s.heap.objs.size (Obj.mapSeq (· ++(as.map Value.ref).toArray))).objs.size=s.heap.objs.size+1:=by
  rw[Heap.size_update,size_push']
 have hB:(((s.heap.push (seqObj "list" #[] 0)).update s.heap.objs.size (Obj.mapSeq (· ++(as.map Value.ref).toArray))).push (seqObj "list" (as.map Value.ref).toArray 0)).get? (s.heap.objs.size+1)=some (seqObj "list" (as.map Value.ref).toArray 0):=by
  rw[<-hsz];exact Heap.get?_push_size _ rfl
 show wpAny _ _ _ _ _ {s with heap:=((s.heap.push (seqObj "list" #[] 0)).update s.heap.objs.size (Obj.mapSeq (· ++(as.map Value.ref).toArray))).push (seqObj "list" (as.map Value.ref).toArray 0)};rw[hsz];have kp:∀b o,s.heap.get? b=some o->(((s.heap.push (seqObj "list" #[] 0)).update s.heap.objs.size (Obj.mapSeq (· ++(as.map Value.ref).toArray))).push (seqObj "list" (as.map Value.ref).toArray 0)).get? b=some o:=λ b o e=>by
  refine Heap.get?_push_of_some _ ?_;rw[Heap.get?_update_ne _ _ _ _ (Nat.ne_of_lt (Heap.lt_size e))];exact Heap.get?_push_of_some _ e
 have Ol:∀(i:Nat) b,as[i]?=some b->∃l c ps,ts.getD i []=l::c::ps/\iz s.heap b l c ps:=λ i b e=>by
  have hi:i < ts.length:=by rw[<-hl];exact (List.getElem?_eq_some_iff.mp e).1
  obtain⟨l,c,ps,e1,e2⟩:=Il I (ht i b ts[i] e (by simp[hi]));exact⟨l,c,ps,by simp[hi,e1],e2⟩
 have bne:∀b o,s.heap.get? b=some o->b≠s.heap.objs.size+1:=λ b o e=>Nat.ne_of_lt (Nat.lt_succ_of_lt (Heap.lt_size e));refine wpAny_bind (wpAny_holding (wpAny_call_entry slot_list_sort ⟨_,hB,rfl⟩ entry_list_sort (abZ (lt:=λ i j=>dR (ts.getD i []) (ts.getD j [])) (kk:=tuples' true) hB (by rw[lenV];exact h64) (by rw[lenV];exact acs hn) ?kind ?ask λ qq hq hqs=>⟨_,rfl,?fin⟩) (args_list_sort _)))
 case kind=>
  intro h2 h6 keep Q' hQ';obtain⟨fs,kt,fl,fi⟩:=Oj (h:=h6) as λ b hb=>by
   obtain⟨i,hi⟩:=List.mem_iff_getElem?.mp hb;obtain⟨l,c,ps,_,e⟩:=Ol i b hi;exact⟨l,c,ps,e.keeps λ d o hd _=>keep d o (bne d o hd) (kp d o hd)⟩
  refine kat_kind (T:= .type "int") kt (by rw[fl,hl];rw[lenV] at h2;omega) (λ f hf=>by obtain⟨k,t,rfl⟩:=fi f hf;exact .now) rfl hQ'
 case ask=>
  intro h6 keep i j C hi hj hC;rw[lenV] at hi hj;have hi':i < as.length:=by omega
  have hj':j < as.length:=by omega
  obtain⟨l,c,ps,e1,t1⟩:=Ol i as[i] (by simp[hi']);obtain⟨l',c',ps',e2,t2⟩:=Ol j as[j] (by simp[hj']);unfold kas_ask;rw[show (as.map Value.ref).getD i Value.none= .ref as[i] by simp[hi'],show (as.map Value.ref).getD j Value.none= .ref as[j] by simp[hj']];refine acu ?_ (t1.keeps λ d o hd _=>keep d o (bne d o hd) (kp d o hd)) (t2.keeps λ d o hd _=>keep d o (bne d o hd) (kp d o hd)) ?_
  ·first |exact Nat.lt_of_le_of_lt (by simp) hu |(show X.A.units+_ < cLine;omega)
  ·rw[e1,e2] at hC;exact hC
 case fin=>
  rw[lenV] at hq hqs;refine wpAny_pure ⟨_,rfl,?_⟩;have hout:(qq.toList.map λ i=>(as.map Value.ref).getD i Value.none)=(qq.toList.map λ i=>as.getD i 0).map Value.ref:=by
   rw[List.map_map];refine List.map_congr_left λ i hi=>?_;have hi':i < as.length:=by rw[hl];exact List.mem_range.mp (hq.perm.mem_iff.mp hi)
   simp[hi']
  rw[hout];obtain⟨cc,hFB⟩:=sortedHeap_at (vs:=as.map Value.ref) (out:=List.toArray ((qq.toList.map λ i=>as.getD i 0).map Value.ref)) hB;have hf:H (s.heap.objs.size+1)=none:=I.hok.fresh (Nat.le_succ _);refine⟨.ref (s.heap.objs.size+1),upd H (s.heap.objs.size+1) (.lst ((qq.toList.map λ i=>as.getD i 0).map V.ref)),I.laid (t':=s.toks) (λ b o e=>FZ (bne b o e) (kp b o e)) (Nat.le_succ _) ?_,rfl,q _ _ hf ?_ λ i b t eb et=>?_⟩
  ·refine⟨?_,_,cc,TJ _,hFB⟩;rw[List.length_map,List.length_map,Array.length_toList,hq.size,sizeLine_eq];omega
  ·rw[List.length_map,Array.length_toList,hq.size]
  ·rw[<-Oi hn hq hqs] at et;rw[List.getElem?_map] at eb et;cases ei:qq.toList[i]? with
   |none=>rw[ei] at eb;cases eb
   | some k=>
    rw[ei] at eb et;have eb:as.getD k 0=b:=Option.some.inj eb;have et:ts.getD k []=t:=Option.some.inj et;have hk:k < ts.length:=List.mem_range.mp (hq.perm.mem_iff.mp (List.mem_of_getElem? ei));have hk':k < as.length:=by omega
    have ea:as[k]?=some b:=by simp[List.getD,hk'] at eb |-;exact eb
    exact⟨List.mem_of_getElem? ea,k,ea,by simp[List.getD,hk] at et |-;exact et⟩
end
end Pu
namespace Pu
open PySem PySem.Spec L2
open PyProof.Rows hiding St
noncomputable def iZ:List Int->D
 |l::c::ps=> .tup [.int l,.int c,.tup (ps.map .int)]
 |_=> .non
noncomputable def lJ:D->Option (List Int)
 | .tup [.int l,.int c,.tup ps]=>(intsOf ps).map λ ns=>l::c::ns
 |_=>none
noncomputable def pY:List D->Option (List (List Int))
 |[]=>some []
 | d::ds=>match lJ d,pY ds with
  |some t,some ts=>some (t::ts)
  |_,_=>none
noncomputable def oW:List D->R D
 | [.lst ds]=>match pY ds with
  |some ts=>if ts.length < 64/\ts.Nodup then .ok (.lst ((lH ts).map iZ)) else .bad
  |none=> .bad
 |_=> .bad
theorem Vs (ns:List Int):intsOf (ns.map D.int)=some ns:=by simpa using zR (c:=λ i:Int=>i) (l:=ns)
theorem Ag {l c:Int} {ps:List Int}:lJ (iZ (l::c::ps))=some (l::c::ps):=by simp[iZ,lJ,Vs]
section
variable {K:PySem.W.Frag} {O:Addr->Prop} {H:Hp}
theorem EY {d:D} {v:V} {t:List Int} (e:lJ d=some t) (r:Rep K O H d v):∃b,v= .ref b/\CW K H b t/\Rep K O H (iZ t) v:=by
 unfold lJ at e;split at e
 ·rename_i l c ps;cases q:intsOf ps with
  |none=>rw[q] at e;cases e
  | some ns=>
   rw[q] at e;cases e;obtain⟨a,xs,rfl,hq,rs⟩:=r.tup;obtain⟨v1,v2,v3,rfl,r1,r2,r3⟩:=rs.three;have r1:=r1.int;have r2:=r2.int;subst r1 r2;obtain⟨p,ys,rfl,hq2,FW⟩:=r3.tup;have e2:=JW q FW;subst e2;refine⟨a,rfl,⟨l,c,ns,p,rfl,hq,hq2⟩,gU hq (.cons (cJ l) (.cons (cJ c) (.cons (gU hq2 zY) .nil)))⟩
 ·cases e
theorem Kg:∀{ds:List D} {vs:List V} {ts:List (List Int)},pY ds=some ts->aU K O H ds vs->∃as:List Addr,vs=as.map V.ref/\as.length=ts.length/\∀(i:Nat) b t,as[i]?=some b->ts[i]?=some t->CW K H b t/\Rep K O H (iZ t) (.ref b)
 | [],vs,ts,e,r=>by
  cases e;exact⟨[],r.nil_inv,rfl,λ i b t h=>by simp at h⟩
 | d ::ds,vs,ts,e,r=>by
  obtain⟨x,r',rfl,h1,h2⟩:=r.cons_inv;unfold pY at e;split at e
  ·rename_i t ts' e1 e2;cases e;obtain⟨b,rfl,h3,h4⟩:=EY e1 h1;obtain⟨as,rfl,h5,h6⟩:=Kg e2 h2;refine⟨b::as,rfl,by simp[h5],λ i b' t' eb et=>?_⟩;cases i with
   |zero=>simp at eb et;subst eb et;exact⟨h3,h4⟩
   |succ i=>exact h6 i b' t' (by simpa using eb) (by simpa using et)
  ·cases e
theorem Dr:∀{ds:List D} {vs:List V},ds.length=vs.length->(∀(i:Nat) d v,ds[i]?=some d->vs[i]?=some v->Rep K O H d v)->aU K O H ds vs
 |[],[],_,_=> .nil
 |[],_::_,h,_=>by simp at h
 |_::_,[],h,_=>by simp at h
 |d::ds,v::vs,h,p=> .cons (p 0 d v rfl rfl) (Dr (by simpa using h) λ i d' v' e1 e2=>p (i+1) d' v' (by simpa using e1) (by simpa using e2))
end
section
variable {X:Cx}
theorem Om (hu:X.A.units+2 < cLine):CallD X (.builtin "sorted") oW:=by
 refine⟨_,Vr hu,λ ρ O σ H Q xs ds j r h=>?_⟩;unfold oW at h;split at h
 ·rename_i es;obtain⟨x,rfl,rx⟩:=r.one;obtain⟨a,ys,rfl,hq,hna,rs⟩:=rx.lst;cases e:pY es with
  |none=>rw[e] at h;exact h.elim
  | some ts =>
   rw[e] at h;have h:good X (rD X) O (if ts.length < 64/\ts.Nodup then R.ok (.lst ((lH ts).map iZ)) else .bad) σ H Q:=h;by_cases hl:ts.length < 64/\ts.Nodup
   ·rw [if_pos hl] at h;obtain⟨as,rfl,h1,h2⟩:=Kg e rs;refine⟨a,as,ts,rfl,hq,h1,hl.1,hl.2,λ i b t eb et=>(h2 i b t eb et).1,λ B bs hB hbl hp=>?_⟩;refine h _ _ (Same.upd hB) (Rep.tu hB (j.zO hB) (Dr ?_ λ i d v ed ev=>?_))
    ·rw[List.length_map,List.length_map,(jm ts).length_eq,hbl]
    ·rw [List.getElem?_map] at ed ev;cases q1:(lH ts)[i]? with
     |none=>rw[q1] at ed;cases ed
     | some t=>
      cases q2:bs[i]? with
      |none=>rw[q2] at ev;cases ev
      | some b=>
       rw[q1] at ed;rw[q2] at ev;cases ed;cases ev;obtain⟨_,k,z1,z2⟩:=hp i b t q2 q1;exact (h2 k b t z1 z2).2
   ·rw[if_neg hl] at h;exact h.elim
 ·exact h.elim
end
section
variable {X:Cx} {e:Expr} {f:aA->R D} {pos:Pos}
theorem acv (i k m:Nat) {x y z:Str} {px py pz pt:Pos} {kt} (hc:X.calm=true) (hN:X.N.Nodup) (he:DE X e f) (hi:X.N[i]?=some x:=by rfl) (hk:X.N[k]?=some y:=by rfl) (hm:X.N[m]?=some z:=by rfl)
  (hx:Loc X.env.scope x:=by first |exact Or.inl rfl |exact Or.inr rfl) (hy:Loc X.env.scope y:=by first |exact Or.inl rfl |exact Or.inr rfl) (hz:Loc X.env.scope z:=by first |exact Or.inl rfl |exact Or.inr rfl)
  (hfx:X.fn x=true\/X.env.scope.names.lookup x=some .local:=by first |exact .inl rfl |exact .inr rfl) (M6:X.fn y=true\/X.env.scope.names.lookup y=some .local:=by first |exact .inl rfl |exact .inr rfl) (hfz:X.fn z=true\/X.env.scope.names.lookup z=some .local:=by first |exact .inl rfl |exact .inr rfl)
  (hs:swapsWithSole [.Tuple [.Name x px,.Name y py,.Name z pz] kt pt] e pos.line X.env=pure false:=by rfl) (hw:swappedStores [.Tuple [.Name x px,.Name y py,.Name z pz] kt pt] e X.env=pure none:=by rfl):
  DS X (.Assign [.Tuple [.Name x px,.Name y py,.Name z pz] kt pt] e pos) (bF f (dj (dB 3 (bC (aM i) (bC (aM k) (bC (aM m) nilG)))))):=by
 refine PS.imp (ps_asg he (pg_tup hc (pgs_cons (pg_name hN hi hx hfx) (pgs_cons (pg_name hN hk hy M6) (pgs_cons (pg_name hN hm hz hfz) pgs_nil)))) hs hw) λ σ H E h=>?_;obtain⟨H0,O0,O,ρ,j,h⟩:=h;refine⟨ρ,O,j.inn,?_⟩;unfold bF kI at h;cases e1:f ρ with
 |bad=>rw[e1] at h;exact h
 |err c=>rw[e1] at h;exact h σ H O j
 | ok d=>
  rw[e1] at h;intro v H' s r;cases d with
  | tup ds=>
   match ds,h,r with
   |[],h,_=>exact h.elim
   |[_],h,_=>exact h.elim
   |[_,_],h,_=>exact h.elim
   |_::_::_::_::_,h,_=>exact (show False by simpa[dj,dB,wY] using h).elim
   | [d1,d2,d3],h,r=>
    obtain⟨a,xs,rfl,hq,rs⟩:=r.tup;obtain⟨v1,v2,v3,rfl,r1,r2,r3⟩:=rs.three;refine⟨a,[v1,v2,v3],rfl,hq,rfl,v1,[v2,v3],rfl,v2,[v3],rfl,v3,[],rfl,rfl,?_⟩;exact h _ H' O ((((j.grow s).set (List.getElem?_eq_some_iff.mp hi).1 r1).set (List.getElem?_eq_some_iff.mp hk).1 r2).set (List.getElem?_eq_some_iff.mp hm).1 r3) (Same.fD s)
  |_=>exact h.elim
end
section
variable {X:Cx} {e:Expr} {f:aA->R D}
noncomputable def agI:D->R Bool
 | .lst ds=> .ok (!ds.isEmpty)
 | .tup ds=> .ok (!ds.isEmpty)
 |_=> .bad
noncomputable def Oo (f:aA->R D):aA->R Bool:=λ ρ=>(f ρ).bind agI
theorem aU.empty {K:PySem.W.Frag} {O:Addr->Prop} {H:Hp} {ds:List D} {vs:List V} (r:aU K O H ds vs):ds.isEmpty=vs.isEmpty:=by
 have:=r.length;cases ds <;> cases vs <;> simp_all
theorem Yl (h:DE X e f) (he:∀whole,isTrue e X.env whole=(do let v <-whole;standAt e.pos;holding [v] (truthy v)):=by intro _;rfl):DT X e (Oo f):=by
 refine PT.imp (pt_truth h he) λ σ H Q h=>?_;obtain⟨ρ,O,j,h⟩:=h;refine go j h λ d v H1 e1 s1 r1 j1 h1=>?_;cases d with
 | lst ds=>
  obtain⟨a,xs,rfl,hq,hn,rs⟩:=r1.lst;exact⟨!xs.isEmpty,.inl ⟨xs,hq,rfl⟩,by rw[<-rs.empty];exact fin h1 rfl⟩
 | tup ds=>
  obtain⟨a,xs,rfl,hq,rs⟩:=r1.tup;exact⟨!xs.isEmpty,.inr (.inl ⟨xs,hq,rfl⟩),by rw[<-rs.empty];exact fin h1 rfl⟩
 |_=>exact h1.elim
end
theorem Oq {A:Around} {k:Nat} (hr:Room k A):A.units+2 < cLine:=by have:=hr.un;omega
noncomputable def FnS (P:Program) (w:World) (K:PySem.W.Frag) (mg:Str->Option Value) (base:Heap) (k:Nat) (x:Str) (kG n q:Nat) (F:Addr->(List D->R D)->List D->R D):Prop:=
 ∃f fd ps,FnOk P w K mg base CX0 k f fd ps (spS P w mg base kG K n q F)/\mg x=some (.ref f)/\PySem.W.keepIn K (.ref f)=true/\Binds K fd ps []
theorem Ds:∀{xs:List V} {us:List Value},xs.length=us.length->(∀(i:Nat) x u,xs[i]?=some x->us[i]?=some u->RelV x u)->Vals xs us
 |[],[],_,_=> .nil
 |[],_::_,h,_=>by simp at h
 |_::_,[],h,_=>by simp at h
 |x::xs,u::us,h,p=> .cons (p 0 x u rfl rfl) (Ds (by simpa using h) λ i d' v' e1 e2=>p (i+1) d' v' (by simpa using e1) (by simpa using e2))
theorem Ym {lo:Int} {acc:Array Value} {n:Nat} (h:ItemsOf (λ i v=>∃t,v= .int (lo+i*1) t) acc n):Vals ((List.range n).map λ (i:Nat)=>V.int (lo+(i:Int))) acc.toList:=by
 refine Ds (by simp[h.1]) λ i x u e1 e2=>?_;rw[Array.getElem?_toList] at e2;obtain⟨t,rfl⟩:=h.2 i u e2;rw[List.getElem?_map] at e1;cases q:(List.range n)[i]? with
 |none=>rw[q] at e1;cases e1
 | some k=>
  rw[q] at e1;have hk:i < n/\i=k:=by simpa[List.getElem?_range] using (List.getElem?_eq_some_iff.mp q)
  obtain⟨_,rfl⟩:=hk;cases e1;exact⟨t,by rw[Int.mul_one]⟩
section
variable {X:Cx} {a b:Expr} {p pos p2 pos2:Pos} {fa:aA->R (List D)} {ta:TA}
noncomputable def afJ (ta:TA):TE:=λ σ H Q=>ta σ H λ vs H1=>∃i j:Int,vs=[.int i,.int j]/\∀q,H1 q=none->Q (.ref q) (upd H1 q (.rng i j))
theorem acw (hg:Gl X "range") (hm:X.mg "range" =none) (ha:PA X [a,b] ta) (hs:starEach [a,b] X.env=[(false,eval a X.env),(false,eval b X.env)]:=by rfl) (hs2:starEach [b] X.env=[(false,eval b X.env)]:=by rfl):PE X (.Call (.Name "range" p) [a,b] [] pos) (afJ ta):=by
 intro pins s σ H Q I h;refine Call_ (ld_blt I hg hm boot_range (PyProof.Rows.callWith_type1 (thn (ha pos pins s σ H _ I h) λ us s1 ⟨vs,H1,I1,r1,q1⟩=>?_) (by rw[hs,hs2]) (by rw[hs2];rfl)));obtain⟨i,j,e,q⟩:=q1;subst e;cases r1 with
 | cons r rr=>
  cases rr with
  | cons r' rr=>
   cases rr;obtain⟨t,rfl⟩:=r;obtain⟨t',rfl⟩:=r';refine call_range_2 ?_;exact⟨.ref s1.heap.objs.size,upd H1 s1.heap.objs.size (.rng i j),I1.laid (λ b o e=>Heap.get?_push_of_some _ e) (Nat.le_refl _) ⟨_,_,_,Heap.get?_push_size _ rfl⟩,rfl,q _ (I1.hok.fresh (Nat.le_refl _))⟩
theorem Yn (hc:X.calm=true):CallR X (.type "list") (λ xs H Q=>∃(b:Addr) (i j:Int),xs=[.ref b]/\H b=some (.rng i j)/\-1000<=i/\i<=1000/\-1000<=j/\j<=1000/\∀B,H B=none->Q (.ref B) (upd H B (.lst ((List.range (j - i).toNat).map λ (k:Nat)=>V.int (i+(k:Int)))))):=by
 intro pins s σ H xs us Q I r h;obtain⟨b,i,j,rfl,hb,h0,h1,h2,h3,q⟩:=h;obtain⟨u,rfl,rx⟩:=vals1 r;cases rx;obtain⟨t,u,v,hr⟩:=(show ObjOk X.prog X.w H s.heap b (.rng i j) from I.hok b _ hb);have hn:Builtin.Range.rangeSize i j 1=(((j - i).toNat:Nat):Int):=by rw[rangeSize_one];split <;> omega
 refine call_list_range (I.ok.hd hc) hr (small_one (by omega) (by omega) (by omega) (by omega)) hn (by omega) λ h' tk acc c' hk he hacc=>?_;have hf:H s.heap.objs.size=none:=I.hok.fresh (Nat.le_refl _);refine⟨.ref s.heap.objs.size,_,I.laid (t':=tk) (o:= .lst ((List.range (j - i).toNat).map λ (k:Nat)=>V.int (i+(k:Int)))) hk (Nat.le_refl _) ⟨?_,acc.toList,c',Ym hacc,by simpa using he⟩,rfl,q _ hf⟩;rw[List.length_map,List.length_range];exact Nat.le_trans (by omega) (Nat.le_of_lt gH)
theorem Vt {K:PySem.W.Frag} {O:Addr->Prop} {H:Hp} {lo:Int} {n:Nat}:aU K O H (upto lo n) ((List.range n).map λ (i:Nat)=>V.int (lo+(i:Int))):=by
 unfold upto
 generalize List.range n=l
 induction l with
 |nil=>exact .nil
 |cons x l ih=>exact .cons (cJ _) ih
noncomputable def ag1:List D->R D
 |[.int j]=>if 0<=j/\j<=1000 then .ok (.lst (upto 0 j.toNat)) else .bad
 |_=> .bad
noncomputable def Vu:List D->R D
 |[.int i,.int j]=>if -1000<=i/\i<=1000/\-1000<=j/\j<=1000 then .ok (.lst (upto i (j - i).toNat)) else .bad
 |_=> .bad
theorem aaQ (hc:X.calm=true) (hg:Gl X "list") (hm:X.mg "list" =none) (hg2:Gl X "range") (hm2:X.mg "range" =none) (ha:DA X [a,b] fa) (hs2:starEach [a,b] X.env=[(false,eval a X.env),(false,eval b X.env)]:=by rfl) (hs3:starEach [b] X.env=[(false,eval b X.env)]:=by rfl)
  (he:starEach [.Call (.Name "range" p) [a,b] [] pos] X.env=(false,eval (.Call (.Name "range" p) [a,b] [] pos) X.env)::starEach [] X.env:=by rfl) (hpl:(backTo pos2 (starEach [] X.env)).any (·.1)=false:=by rfl):
  DE X (.Call (.Name "list" p2) [.Call (.Name "range" p) [a,b] [] pos] [] pos2) (aF Vu fa):=by
 refine PE.imp (pe_callTy (Yn hc) hg hm boot_list (pa_cons (acw hg2 hm2 ha hs2 hs3) pa_nil he) (by decide) (by decide) he hpl) λ σ H Q q=>?_;obtain⟨ρ,O,j,q⟩:=q;refine go j q λ ds vs H1 e1 s1 r1 j1 h1=>?_;unfold Vu at h1;split at h1
 ·rename_i i k;obtain⟨x,y,rfl,rx,ry⟩:=r1.two;by_cases hi: -1000<=i/\i<=1000/\-1000<=k/\k<=1000
  ·rw[if_pos hi] at h1;refine⟨i,k,by rw[rx.int,ry.int],λ q hq=>⟨q,i,k,rfl,upd_same,hi.1,hi.2.1,hi.2.2.1,hi.2.2.2,λ B hB=>?_⟩⟩;have s2:Same H1 (upd H1 q (.rng i k)):=Same.upd hq;exact h1 _ _ (s2.trans (Same.upd hB)) (Rep.tu hB ((j1.same s2).zO hB) Vt)
  ·rw[if_neg hi] at h1;exact h1.elim
 ·exact h1.elim
end
end Pu
namespace Pu
open PySem PySem.Spec PySem.W L2
open PyProof.Rows hiding St
section
variable {prog:Program} {w:World} {A:Around} {s:Shared}
noncomputable def EqB (prog:Program) (w:World) (A:Around) (s:Shared) (u v:Value) (b:Bool):Prop:=∀(Q:Bool->Shared->Prop) (E:Value->Shared->Prop),Q b s->wpAny (model prog w) A (eqBool u v) Q E s
noncomputable def LtB (prog:Program) (w:World) (A:Around) (s:Shared) (u v:Value) (b:Bool):Prop:=∀(Q:Value->Shared->Prop) (E:Value->Shared->Prop),Q (.bool b) s->wpAny (model prog w) A (compareOp .Lt u v) Q E s
inductive Lx (prog:Program) (w:World) (A:Around) (s:Shared) (r:Bool):List Value->List Value->Prop
 |nil:r=false->Lx prog w A s r [] []
 |yes {u v xs ys}:EqB prog w A s u v true->Lx prog w A s r xs ys->Lx prog w A s r (u::xs) (v::ys)
 |no {u v xs ys}:EqB prog w A s u v false->LtB prog w A s u v r->Lx prog w A s r (u::xs) (v::ys)
theorem Rz {E:Value->Shared->Prop} {a b:Addr} {oa ob:Obj} {xs ys:Array Value} {na nb:Nat} {r:Bool} {P:PySem.Fin->Shared->Prop} (hoa:s.heap.get? a=some oa) (hda:oa.data= .seq xs na) (hob:s.heap.get? b=some ob) (hcb:ob.cls= .type "tuple") (hdb:ob.data= .seq ys nb)
  (hl:Lx prog w A s r xs.toList ys.toList) (hsz:xs.size=ys.size) (h:P (.done (.ret (.bool r))) s):
  wpAny (model prog w) A (Builtin.«tuple.__lt__» ⟨[.ref a,.ref b],[]⟩) P E s:=by
 have hTb:s.TypeIs (.ref b) "tuple" :=⟨ob,hob,hcb⟩;show wpAny _ _ (isInstance (.ref b) (.type "tuple") >>=_) _ _ s;refine wpAny_bind (wpAny_isInstance hTb isSubtype_tuple_tuple ?_);simp only[Bool.not_true,Bool.false_eq_true,if_false];refine wpAny_bind (wpAny_tupleItemsOf hoa hda ?_);refine wpAny_bind (wpAny_tupleItemsOf hob hdb ?_);refine wpAny_bind ?_;refine wpAny_forIn_list _
  (λ rest q s'=>q.1=none/\s'=s/\∃xs' ys',rest=List.zip xs' ys'/\Lx prog w A s r xs' ys')
  _ ?_ ?_ _ _ ⟨rfl,rfl,xs.toList,ys.toList,rfl,hl⟩
 ·rintro⟨u,v⟩ rest q s' ⟨hr,rfl,xs',ys',hz,hx'⟩
  cases hx' with
  |nil _=>simp at hz
  | yes he hx''=>
   simp only[List.zip_cons_cons,List.cons.injEq,Prod.mk.injEq] at hz;obtain⟨⟨rfl,rfl⟩,rfl⟩:=hz;refine wpAny_bind (he _ _ ?_);simp only[Bool.not_true,Bool.false_eq_true,if_false];exact wpAny_pure ⟨rfl,rfl,_,_,rfl,hx''⟩
  | no he hlt=>
   simp only[List.zip_cons_cons,List.cons.injEq,Prod.mk.injEq] at hz;obtain⟨⟨rfl,rfl⟩,rfl⟩:=hz;refine wpAny_bind (he _ _ ?_);simp only[Bool.not_false,if_true];refine wpAny_bind (wpAny_rule ?_);refine wpAny_bind (m:=richCompare .Lt u v) (show wpAny _ _ (compareOp .Lt u v) _ _ _ from hlt _ _ ?_)
   first
    |exact wpAny_pure (wpAny_pure h)
    |exact wpAny_bind (wpAny_pure (wpAny_pure (wpAny_pure h)))
    |exact wpAny_bind (wpAny_pure (wpAny_pure h))
 ·rintro⟨r1,r2⟩ s' ⟨hr,rfl,xs',ys',hz,hx'⟩
  simp only at hr;subst hr;refine wpAny_pure ?_;have hfin:decide (xs.size < ys.size)=r:=by
   cases hx' with
   |nil e=>rw[e];exact decide_eq_false (by omega)
   |yes _ _=>simp at hz
   |no _ _=>simp at hz
  show P (.done (.ret (.bool (decide (xs.size < ys.size))))) s';rw[hfin];exact h
theorem CZ {i j:Int} {t u:Tok} {b:Bool} (e:(i ==j)=b):EqB prog w A s (.int i t) (.int j u) b:=λ Q E h=>wpAny_eqBool_int (by rw[e];exact h)
theorem Uk {i j:Int} {t u:Tok}:LtB prog w A s (.int i t) (.int j u) (decide (i < j)):=λ Q E h=>lt_int h
theorem acy {x y:Addr} {l c l' c':Int} {ps qs:List Int} (hu:A.units < cLine) (hx:iz s.heap x l c ps) (hy:iz s.heap y l' c' qs):∃(oa ob:Obj) (xs ys:Array Value) (na nb:Nat),s.heap.get? x=some oa/\oa.cls= .type "tuple"/\oa.data= .seq xs na/\s.heap.get? y=some ob/\ob.cls= .type "tuple"/\ob.data= .seq ys nb/\xs.size=ys.size/\Lx prog w A s (dR (l::c::ps) (l'::c'::qs)) xs.toList ys.toList:=by
 obtain⟨o,o2,n,n2,t,u,p,vs,h1,h2,h3,h4,h5,h6,h7⟩:=hx;obtain⟨o',o2',n',n2',t',u',p',vs',g1,g2,g3,g4,g5,g6,g7⟩:=hy;refine⟨o,o',_,_,n,n',h1,h2,h3,g1,g2,g3,rfl,?_⟩;show Lx prog w A s _ [.int l t,.int c u,.ref p] [.int l' t',.int c' u',.ref p'];rw[dR,dR];by_cases e1:l=l'
 ·rw [if_pos e1];refine .yes (CZ (by simpa using e1)) ?_;by_cases e2:c=c'
  ·rw[if_pos e2];refine .yes (CZ (by simpa using e2)) ?_;have eq:EqB prog w A s (.ref p) (.ref p') (decide (ps=qs)):=λ Q E h=>wpAny_eqBool_tuple (knd:=intKind prog w) hu ⟨o2,vs,n2,h4,h5,h6,uq h7⟩ ⟨o2',vs',n2',g4,g5,g6,uq g7⟩ h;by_cases e3:ps=qs
   ·rw[decide_eq_true e3] at eq;exact .yes eq (.nil (by rw[e3];exact oh _))
   ·rw[decide_eq_false e3] at eq;exact .no eq λ Q E h=>Uj hu h4 h5 h6 g4 g5 g6 h7 g7 h
  ·rw[if_neg e2];exact .no (CZ (by simpa using e2)) Uk
 ·rw[if_neg e1];exact .no (CZ (by simpa using e1)) Uk
theorem Ot {E:Value->Shared->Prop} {a b:Addr} {l c l' c':Int} {ps qs:List Int} {P:PySem.Fin->Shared->Prop} (hu:A.units < cLine) (hx:iz s.heap a l c ps) (hy:iz s.heap b l' c' qs) (h:P (.done (.ret (.bool (dR (l::c::ps) (l'::c'::qs))))) s):
  wpAny (model prog w) A (Builtin.«tuple.__lt__» ⟨[.ref a,.ref b],[]⟩) P E s:=by
 obtain⟨oa,ob,xs,ys,na,nb,h1,h2,h3,h4,h5,h6,h7,h8⟩:=acy (prog:=prog) (w:=w) hu hx hy;exact Rz h1 h3 h4 h5 h6 h8 h7 h
theorem aaR {E:Value->Shared->Prop} {a b:Addr} {l c l' c':Int} {ps qs:List Int} {Q:Value->Shared->Prop} (hu:A.units+2 < cLine) (hx:iz s.heap a l c ps) (hy:iz s.heap b l' c' qs) (h:Q (.bool (dR (l::c::ps) (l'::c'::qs))) s):wpAny (model prog w) A (compareOp .Lt (.ref a) (.ref b)) Q E s:=by
 obtain⟨oa,o2,n,n2,t,u,p,vs,h1,h2,_⟩:=id hx;obtain⟨ob,o2',n',n2',t',u',p',vs',g1,g2,_⟩:=id hy;show wpAny _ _ (richCompare .Lt (.ref a) (.ref b)) _ _ _;refine wpAny_richCompare_same_room (op:= .Lt) ⟨oa,h1,h2⟩ ⟨ob,g1,g2⟩ PySem.F.slot_tuple_lt
   (wpAny_call_entry PySem.F.slot_tuple_lt ⟨oa,h1,h2⟩ PySem.F.entry_tuple_lt (Ot ?_ hx hy ⟨_,rfl,(λ e=>nomatch e),h⟩) (PySem.F.args_tuple_lt_2 _ _)) (by omega)
 first |exact Nat.lt_of_le_of_lt (by simp) hu |(show A.units+_ < cLine;omega)
end
section
variable {X:Cx}
theorem ad8 (hu:X.A.units+2 < cLine):OpR X (compareOp .Lt) (λ x y H Q=>∃a b,∃ns ms:List Int,x= .ref a/\y= .ref b/\CW X.K H a ns/\CW X.K H b ms/\Q (.bl (dR ns ms)) H):=by
 intro pins s σ H x y v u Q I rx ry h;obtain⟨a,b,ns,ms,rfl,rfl,ha,hb,q⟩:=h;cases rx;cases ry;obtain⟨l,c,ps,rfl,h1⟩:=Il I ha;obtain⟨l',c',qs,rfl,h2⟩:=Il I hb;exact aaR hu h1 h2 ⟨.bl _,H,I,rfl,q⟩
noncomputable def Ou (x y:D):R D:=match lJ x,lJ y with
 |some a,some b=> .ok (.bl (dR a b))
 |_,_=> .bad
theorem ad9 (hu:X.A.units+2 < cLine):jf X (compareOp .Lt) Ou:=by
 refine⟨_,ad8 hu,λ ρ O σ H Q x y dx dy j0 rx ry h=>?_⟩;unfold Ou at h;cases e1:lJ dx with
 |none=>rw[e1] at h;exact h.elim
 | some ns=>
  cases e2:lJ dy with
  |none=>rw[e1,e2] at h;exact h.elim
  | some ms=>
   rw[e1,e2] at h;obtain⟨a,rfl,ha,_⟩:=EY e1 rx;obtain⟨b,rfl,hb,_⟩:=EY e2 ry;exact⟨a,b,ns,ms,rfl,rfl,ha,hb,fin h (fG _)⟩
end
end Pu
namespace Pu
open PySem PySem.Spec L2
open PyProof.Rows hiding St
section
variable {X:Cx} {pins:List (Addr×Obj)} {σ:St} {H:Hp} {s:Shared}
end
section
variable {X:Cx} {qual:Str} {params:Arguments} {body:Expr} {scope:Scope} {xS:Str} {cc P fS:Addr} {Oe:FuncData} {Kd:List Str} {kS kG q:Nat} {FS:Addr->(List D->R D)->List D->R D} {GG:List D->R D} {p p4 pos2 ad6:Pos} {e1 e2 e3:Expr} {f1 f2 f3:aA->R D}
end
end Pu
namespace Pu
open PySem PySem.Spec PySem.W L2
open PyProof.Rows hiding St
section
variable {prog:Program} {w:World} {A:Around} {R:Result->Shared->Prop} {I l S:Addr} {its:Array Value} {h0:Heap} {bt:Nat->Nat->Bool}
end
section
variable {prog:Program} {w:World} {A:Around} {E:Value->Shared->Prop} {s:Shared} {l:Addr} {its:Array Value} {bt:Nat->Nat->Bool} {Q:Value->Shared->Prop}
end
section
variable {X:Cx}
end
end Pu
namespace Pu
open PySem PySem.Spec PySem.W L2
open PyProof.Rows hiding St
open PySem.SeqAt
section
variable {X:Cx} {e1 e2:Expr} {f g:aA->R D}
end
end Pu
namespace Pu
open PySem PySem.Spec L2
open PyProof.Rows hiding St
section
variable {X:Cx}
end
section
variable {X:Cx} {e:Expr} {f:aA->R D} {pos:Pos}
end
end Pu
namespace Pu
open PySem PySem.Spec PySem.W L2
open PyProof.Rows hiding St
section
variable {prog:Program} {w:World} {A:Around} {E:Value->Shared->Prop} {s:Shared}
end
section
variable {X:Cx}
end
end Pu
namespace Pu
open PySem PySem.Spec L2
open PyProof.Rows hiding St
noncomputable def Vv (ts:List (Addr×Str)) (K:PySem.W.Frag) (n:Nat) (F:List D->R D):Sp:=λ vs H Q E=>Tb ts H/\spX K n F vs H Q E
section
variable {P:Program} {w:World} {K:PySem.W.Frag} {mg:Str->Option Value} {base:Heap}
theorem Ov {ts:List (Addr×Str)} {x qual:Str} {st:Stmt} {f:Addr} {fd:FuncData} {N ps:List Str} {k n m:Nat} {g:aA->So} (Fn:Fun K x qual st f fd) (S:FnScope N ps (defScope st)) (hn:ps.length=n) (hm:N.length=n+m)
  (hb:∀(cdv:Value) (A:Around) (outer:List PySem.Env) (s:Shared) (H:Hp) (E:XK),Room k (A.deeper (envOfC qual (defScope st) s.heap.objs.size f cdv))->Tb ts H->nU (cxOf (Yd P w) P w K mg base N qual (defScope st) f cdv A outer s H E) (defBody st) g):
  FnOk P w K mg base (Yd P w) (k+1) f fd ps (Vv ts K n (bV m g)):=by
 obtain⟨oc,od,kV,doc,pm,an,cdv,ct,osl,rfl,lk,hcd⟩:=Fn.ex;refine fn_of lk hcd S (λ vs H Q E h=>?_) λ A outer s H vs Q E hr h=>?_
 ·obtain⟨_,O,ds,r,hl,_⟩:=h;rw[hn,<-hl,r.length]
 ·obtain ⟨hT,O,ds,r,hl,al,h⟩:=h;refine⟨_,hb cdv A outer s H E hr hT,H,O,O,ds.map (λ d=>some (.val d))++List.replicate m none,?_,?_⟩
  ·have hst:L2.start N vs=vs.map some++List.replicate m none:=by
    unfold L2.start;rw[show N.length - vs.length=m by rw[<-r.length];omega]
   refine⟨Same.refl _,.refl,λ _ z=>z,⟨⟨λ i e q=>?_,λ i k e e' v _ hi _ oi=>?_⟩,al,?_,?_⟩,λ i e a q ho=>?_⟩
   ·obtain⟨v,h1,h2,_⟩:=tE r m i e q;exact⟨v,by rw[hst];exact h1,h2⟩
   ·obtain⟨_,_,_,h3⟩:=tE r m i e hi;rw[h3] at oi;cases oi
   ·show (L2.start N vs).length=N.length;rw[hst,List.length_append,List.length_map,List.length_replicate,<-r.length];omega
   ·show (ds.map (λ d=>some (Ent.val d))++List.replicate m none).length=N.length;rw[List.length_append,List.length_map,List.length_replicate];omega
   ·obtain⟨_,_,_,h3⟩:=tE r m i e q;rw[h3] at ho;cases ho
  ·unfold bV at h;cases e2:g (ds.map (λ d=>some (.val d))++List.replicate m none) with
   |rt d=>rw[e2] at h;exact λ v H' s' r'=>h v H' s' r'
   |nx ρ'=>rw[e2] at h;exact λ σ' H' O' j' _=>h .non H' j'.same pF
   |bk _=>rw[e2] at h;exact h.elim
   |ct _=>rw[e2] at h;exact h.elim
   |bad=>rw[e2] at h;exact h.elim
   | ex c ρ'=>
    rw[e2] at h;intro σ' H' O' j' H1 pins s1 a C T s2 H2 sm I hC rs;have J:Inv (cxOf (Yd P w) P w K mg base N qual (defScope st) f cdv A outer s H E) pins σ' H2 s2:=I.call' rs.os rs.un rs.hok rs.bare λ b z=>absurd z (by simp);have ou:zp P w (frs outer) H s a C T s2 H2:=zp.from I rfl rs (j'.same.trans sm);refine Yc (b0:=base) (L:=s.heap.objs.size) (outer:=outer) J.ok.frames J.stack rfl rs.exc λ h' t' ld=>?_;refine⟨a,C,some t',H2,rfl,h C H2 hC,?_⟩;have ne:∀b o,s.heap.get? b=some o->b≠a/\T≠some b:=λ b o q=>⟨λ z=>(by rw[z,ou.na] at q;cases q),λ z=>(by rw[(ou.nt b z).1] at q;cases q)⟩;have nL:∀b o,s.heap.get? b=some o->b≠s.heap.objs.size:=λ b o q=>Nat.ne_of_lt (Heap.lt_size q);have fr:∀b,b∈frs (envOfC qual (defScope st) s.heap.objs.size f cdv::outer)->b=s.heap.objs.size\/b∈frs outer:=λ b hb=>List.mem_cons.mp hb;have fr':∀b,b∈frs outer->b∈frs (envOfC qual (defScope st) s.heap.objs.size f cdv::outer):=λ b hb=>List.mem_cons_of_mem _ hb;have hfree:∀b,b∈frs (envOfC qual (defScope st) s.heap.objs.size f cdv::outer)->H2 b=none:=J.stkFree;refine⟨ou.same,⟨λ b o q n hb hx=>?_,λ b o q n hb hx=>?_,ou.un.free,λ b o q hx=>?_,ou.un.tups,ou.un.frzs,ou.un.tbls⟩,ld.hok ou.hok ou.ha (λ t z=>(ou.nt t z).2) hfree,ou.os,ou.bare,ld.exc,ou.na,ou.ha,λ t z=>?_⟩
    ·exact ld.keep b o (ou.un.keep b o q n hb hx) (ne b o q).1 (ne b o q).2 λ z=>(fr b z).elim (nL b o q) hb
    ·obtain⟨sl,e⟩:=ou.un.slot b o q n hb hx;obtain⟨sl',e'⟩:=ld.slot b _ e (fr' b hb);exact⟨sl',e'⟩
    ·obtain⟨o',e⟩:=ou.un.there b o q hx;by_cases hb:b∈frs (envOfC qual (defScope st) s.heap.objs.size f cdv::outer)
     ·obtain⟨sl',e'⟩:=ld.slot b _ e hb;exact⟨_,e'⟩
     ·exact⟨o',ld.keep b o' e (ne b o q).1 (ne b o q).2 hb⟩
    ·cases z;rcases ld.old with z |z
     ·exact ou.nt t' z
     ·refine⟨?_,Et ou.hok z⟩;cases q:s.heap.get? t' with
      |none=>rfl
      | some o=>
       obtain⟨o',e⟩:=ou.un.there t' o q (by simp);rw[z] at e;cases e
end
noncomputable def lK (P:Program) (w:World) (K:PySem.W.Frag) (mg:Str->Option Value) (base:Heap) (k:Nat) (x:Str) (n:Nat) (F:List D->R D) (fd:FuncData) (ps:List Str) (ts:List (Addr×Str)):Prop:=
 ∃f,FnOk P w K mg base (Yd P w) k f fd ps (Vv ts K n F)/\mg x=some (.ref f)/\PySem.W.keepIn K (.ref f)=true
noncomputable def fH (F:List D->R D) (n m:Nat) (sel:List (Sum Nat D)) (fa fk:aA->R (List D)):aA->R D:=λ ρ=>(fa ρ).bind λ ds=>(fk ρ).bind λ zs=>if zs.length=m then okN F n (ds++pickK .non sel zs) else .bad
section
variable {X:Cx} {k m n:Nat} {f:Addr} {fd:FuncData} {ps ks:List Str} {F:List D->R D} {x:Str} {p pos:Pos} {e:Expr} {es:List Expr} {kws:List Keyword} {fa fk:aA->R (List D)} {ts:List (Addr×Str)}
theorem Yo (ok:FnOk X.prog X.w X.K X.mg X.base (Yd X.prog X.w) k f fd ps (Vv ts X.K n F)) (hr:Room m X.A) (hkm:k<=m) {pins:List (Addr×Obj)} {σ:St} {H:Hp} {s:Shared} {O:Addr->Prop} {ρ:aA} {ds:List D} {vs:List V} {us:List Value} {pa:List Value} {kw:List (Str×Value)} {Q:VK}
  (I:Inv X pins σ H s) (hT:Tb ts H) (r1:aU X.K O H ds vs) (r:Vals vs us) (j:In X O H ρ σ) (hb:us.length=ps.length->BindsTo s fd ⟨pa,kw⟩ (ps.zip us)) (h:good X (rD X) O (okN F n ds) σ H Q):wpAny (model X.prog X.w) X.A (PySem.call (.ref f) pa kw) (EP X pins σ Q) X.xe s:=by
 unfold okN at h;by_cases hl:ds.length=n
 ·rw[if_pos hl] at h;have sp:Vv ts X.K n F vs H Q λ u _ _=>∃c C,F ds= .err c/\u= .ref C/\PySem.W.nsIn X.K mainGlobals c=some (some (.ref C)):=by
   refine⟨hT,O,ds,r1,hl,j.al,?_⟩;cases q:F ds with
   |ok d=>rw[q] at h;exact h
   |bad=>rw[q] at h;exact h
   |err c=>exact λ C _ hC=>⟨c,C,rfl,rfl,hC⟩
  have hll:us.length=ps.length:=by rw[<-r.length];exact ok.len _ _ _ _ sp
  refine wpAny_call (codeAny_mono ((ok.mono hkm).run X.A X.stack s H ⟨pa,kw⟩ us vs Q _ hr I.env0 (hb hll) r sp) λ r s' hq=>?_);cases r with
  | error ev=>
   obtain⟨a,C,T,H',rfl,hE,rs⟩:=hq;obtain⟨c,C',q,z,hC⟩:=hE;cases z;rw[q] at h;exact h H pins s a C T s' H' (Same.refl _) I hC rs
  | ok fl=>
   cases fl with
   |ret u=>exact I.after hq
   |next=>exact False.elim hq
   |brk=>exact False.elim hq
   |cont=>exact False.elim hq
 ·rw[if_neg hl] at h;exact h.elim
theorem jX {sa sb sc} (S:Sel sa sb sc) (G:lK X.prog X.w X.K X.mg X.base k x n F fd ps ts) (hT:Tb ts X.H₀) (hr:Room m X.A) (hkm:k<=m) (hb:KB X.K fd ps [] sa)
  (ha:DA X (e::es) fa) (hg:Gl X x:=by rfl) (hdb:(x ==("__debug__" :Str))=false:=by decide) (he:starEach (e::es) X.env=(false,eval e X.env)::starEach es X.env:=by rfl) (hpl:(backTo pos (starEach es X.env)).any (·.1)=false:=by rfl):
  DE X (.Call (.Name x p) (e::es) [] pos) (fH F n 0 sc fa (λ _=> .ok [])):=by
 obtain⟨f,ok,hm,hk⟩:=G;intro pins s σ H Q I h;obtain⟨ρ,O,j,h⟩:=h;refine wpAny_Call_Name_kw (ld_glob I hg hm ?_ hdb);have key:tG X (JL X) fa σ H (λ vs H1=>∃ds,Same H H1/\aU X.K O H1 ds vs/\In X O H1 ρ σ/\good X (rD X) O (okN F n (ds++pickK .non sc [])) σ H1 Q):=go j h λ ds vs H1 e1 s1 r1 j1 h1=>⟨ds,s1,r1,j1,h1⟩;refine PySem.W.callWith_K (h₀:=X.base) I.ok.mod.kin hk (thn (ha pos pins s σ H _ I key) λ us s1 ⟨vs,H1,I1,r,q⟩=>⟨I1.kIn,?_⟩) he hpl;obtain⟨ds,sm,r1,j1,h1⟩:=q;exact Yo ok hr hkm I1 (hT.un I1.base) (r1.append (S.reps .nil)) (r.append (S.vals .nil)) j1 (λ hl=>hb s1 us [] I1.kIn (by rw[List.length_append,JT] at hl;exact hl) rfl) h1
theorem Im {sa sb sc} (S:Sel sa sb sc) (G:lK X.prog X.w X.K X.mg X.base k x n F fd ps ts) (hT:Tb ts X.H₀) (hr:Room m X.A) (hkm:k<=m) (hb:KB X.K fd ps ks sa)
  (ha:DA X (e::es) fa) (hkw:DK X kws fk) (hg:Gl X x:=by rfl) (hall:(backToKw pos (keywordEach kws X.env)).all (·.1.isSome)=true:=by rfl) (hks:(backToKw pos (keywordEach kws X.env)).filterMap (·.1)=ks:=by rfl)
  (hdb:(x ==("__debug__" :Str))=false:=by decide) (he:starEach (e::es) X.env=(false,eval e X.env)::starEach es X.env:=by rfl)
  (hpl:((backTo pos (starEach (e::es) X.env)).any (·.1) || (backToKw pos (keywordEach kws X.env)).any (·.1.isNone))=false:=by rfl):
  DE X (.Call (.Name x p) (e::es) kws pos) (fH F n ks.length sc fa fk):=by
 obtain⟨f,ok,hm,hk⟩:=G;intro pins s σ H Q I h;obtain⟨ρ,O,j,h⟩:=h;refine wpAny_Call_Name_kw (ld_glob I hg hm ?_ hdb);have key:tG X (JL X) fa σ H λ vs H1=>tG X (JL X) fk σ H1 λ zs H2=>zs.length=ks.length/\∃dd,aU X.K O H2 dd (vs++pickK .non sb zs)/\In X O H2 ρ σ/\good X (rD X) O (okN F n dd) σ H2 Q:=by
  refine go j h λ ds vs H1 e1 s1 r1 j1 h1=>?_;refine go j1 h1 λ zd zs H2 e2 s2 r2 j2 h2=>?_;by_cases hz:zd.length=ks.length
  ·rw[if_pos hz] at h2;exact⟨by rw[<-r2.length];exact hz,_,(r1.same s2).append (S.reps r2),j2,h2⟩
  ·rw[if_neg hz] at h2;exact h2.elim
 refine PySem.W.callWith_KW (h₀:=X.base) I.ok.mod.kin hk hall (thn (ha pos pins s σ H _ I key) λ us s1 ⟨vs,H1,I1,r,q⟩=>?_) hpl he;refine thn (hkw pos pins s1 σ H1 _ I1 q) λ ws s2 ⟨zs,H2,I2,rz,q2⟩=>⟨I2.kIn,?_⟩;rw[hks];obtain⟨hz,dd,r1,j1,h1⟩:=q2;exact Yo ok hr hkm I2 (hT.un I2.base) r1 (r.append (S.vals rz)) j1 (λ hl=>hb s2 us ws I2.kIn (by rw[List.length_append,JT] at hl;exact hl) (by rw[<-rz.length];exact hz)) h1
theorem Mz {K:PySem.W.Frag} (b:Binds K fd ps []):KB K fd ps [] []:=λ s us ws i hl hw=>by
 cases List.eq_nil_of_length_eq_zero hw;have:=b s us i (by rw[List.append_nil];exact hl);simpa[pickK] using this
end
section
variable {X:Cx} {tg a b c:Expr} {p pos p2 pos2:Pos} {fa:aA->R (List D)} {ta:TA}
end
end Pu
namespace Pu
open PySem PySem.Spec PySem.W L2
open PyProof.Rows hiding St
open PySem.SeqAt
section
variable {X:Cx} {e1 e2:Expr} {f g:aA->R D}
end
end Pu
namespace Pu
open PySem PySem.Spec L2
open PyProof.Rows hiding St
section
variable {X:Cx}
theorem aaS {tg iter elt:Expr} {ifs:List Expr} {scope:Scope} {pos:Pos} {fi:aA->R (List D)} {gt:D->aA->R aA} {ft:aA->R Bool} {fe:aA->R D} (ts:List Str) (caps:List Nat)
  (hc:X.calm=true) (hb:En X.env.scope scope ts X.N=true) (hcap:(d8 scope).map (λ x=>nH x X.N)=caps)
  (hi:DI X tg iter fi) (hk:qX ts.length gt) (hg:∀C s H ex,(cM X scope ts C s H ex).N.Nodup->DG (cM X scope ts C s H ex) tg gt) {Gg:List (Addr×Str)} (hT:Tb Gg X.H₀) (ht:∀C s H ex,Tb Gg H->M4 (cM X scope ts C s H ex) ifs ft) (he:∀C s H ex,Tb Gg H->DE (cM X scope ts C s H ex) elt fe)
  (hs:∀x,foldedSetIterable iter X.env x=pure x:=by intro _;rfl):
  DE X (.ListComp elt [⟨tg,iter,ifs,0⟩] scope pos) (bU ts.length caps fi gt ft fe):=by
 intro pins s σ H Q I h;obtain⟨ρ,O,j,h⟩:=h;rw[eval_ListComp];exact Ka ts caps hc hb hcap hi hk hg hT ht he hs (use:=none) (Qr:=EP X pins σ Q) I j (λ v H' s5 C m f acc hv I6 hns fp rv=>⟨m,hns,λ h' sb=>⟨v,H',I6.fp fp sb,rv,hv⟩⟩) h
end
end Pu
namespace Pu
open PySem PySem.Spec PySem.W L2
open PyProof.Rows hiding St
section
variable {prog:Program} {w:World} {A:Around} {s:Shared}
end
section
variable {X:Cx}
end
section
variable {X:Cx}
end
end Pu
namespace Pu
open PySem PySem.Spec L2
open PyProof.Rows hiding St
section
variable {X:Cx} {c x y:Str} {C:Addr} {np cpos pos p1 p2 p3 p4:Pos} {k1 k2:Nat} {a b:Expr} {f g:aA->R D}
noncomputable def aaT (k:Int->R D):D->R D
 | .int i=>k i
 |_=> .bad
noncomputable def fsV (x y:Str) (f g:aA->R D):aA->R D:=λ ρ=>(f ρ).bind (aaT λ i=>if i.natAbs.log2 < 1920 then (g ρ).bind (aaT λ j=>if j.natAbs.log2 < 1920 then .ok (.str (((Str.empty++x++Str.ofString (toString i))++y)++Str.ofString (toString j))) else .bad) else .bad)
theorem Ul {i:Int} (h:i.natAbs.log2 < 1920):(Str.ofString (toString i)).length<=1921:=by
 rw[PySem.ofString_length];exact int_text_length_le (by decide) h
theorem afK (ha:DE X a f) (hb:DE X b g) (hx:x.length<=1000:=by decide +kernel) (hy:y.length<=1000:=by decide +kernel):DE X (.JoinedStr [.Constant (.str x) k1 p1,.FormattedValue a (-1) none p2,.Constant (.str y) k2 p3,.FormattedValue b (-1) none p4] pos) (fsV x y f g):=by
 intro pins s σ H Q I h;obtain⟨ρ,O,j,h⟩:=h;refine wpAny_JoinedStr ?_;have key:tG X (rD X) f σ H (λ v H1=>∃i,v= .int i/\i.natAbs.log2 < 1920/\tG X (rD X) g σ H1 (λ u H2=>∃i',u= .int i'/\i'.natAbs.log2 < 1920/\Q (.str (((Str.empty++x++Str.ofString (toString i))++y)++Str.ofString (toString i'))) H2)):=by
  refine go j h λ dx v H1 e1 s1 r1 j1 h1=>?_;cases dx with
  | int i =>
   have h1:good X (rD X) O (if i.natAbs.log2 < 1920 then (g ρ).bind (aaT λ j=>if j.natAbs.log2 < 1920 then .ok (.str (((Str.empty++x++Str.ofString (toString i))++y)++Str.ofString (toString j))) else .bad) else .bad) σ H1 Q:=h1;by_cases c:i.natAbs.log2 < 1920
   ·rw [if_pos c] at h1;refine⟨i,r1.int,c,go j1 h1 λ dy u H2 e2 s2 r2 j2 h2=>?_⟩;cases dy with
    | int i'=>
     have h2:good X (rD X) O (if i'.natAbs.log2 < 1920 then .ok (.str (((Str.empty++x++Str.ofString (toString i))++y)++Str.ofString (toString i'))) else .bad) σ H2 Q:=h2;by_cases c':i'.natAbs.log2 < 1920
     ·rw[if_pos c'] at h2;exact⟨i',r2.int,c',fin h2 (Cj _)⟩
     ·rw[if_neg c'] at h2;exact h2.elim
    |_=>exact h2.elim
   ·rw[if_neg c] at h1;exact h1.elim
  |_=>exact h1.elim
 have L0:(Str.empty++x).length=x.length:=by rw[strLen_append];exact Nat.zero_add _
 refine Calls.Constant_str ⟨x,_,rfl,by rw[L0,sizeLine_eq];omega,wpAny_FormattedValue_plain (thn (ha pins _ σ H _ (I.tok _) key) λ v s1 bM=>?_)⟩;obtain⟨v',H1,I1,r1,i,e1,fact,q1⟩:=bM;subst e1;obtain⟨t1,rfl⟩:=r1;have l1:=Ul fact;refine wpAny_formatField_int fact ⟨_,_,rfl,by rw[strLen_append,L0,sizeLine_eq];omega,?_⟩;refine Calls.Constant_str ⟨y,_,rfl,by rw[strLen_append,strLen_append,L0,sizeLine_eq];omega,wpAny_FormattedValue_plain (thn (hb pins _ σ H1 _ ((I1.tok _).tok _) q1) λ u s2 bM=>?_)⟩;obtain⟨u',H2,I2,r2,i',e2,c,q2⟩:=bM;subst e2;obtain⟨t2,rfl⟩:=r2;have l2:=Ul c;refine wpAny_formatField_int c ⟨_,_,rfl,by rw[strLen_append,strLen_append,strLen_append,L0,sizeLine_eq];omega,?_,(.str (((Str.empty++x++Str.ofString (toString i))++y)++Str.ofString (toString i'))),H2,((I2.tok _).tok _),⟨_,rfl⟩,q2⟩;rw[strLen_append,strLen_append,strLen_append,L0,sizeLine_eq];omega
noncomputable def Um (fa:aA->R (List D)) (c:Str):aA->So:=λ ρ=>match fa ρ with
 | .ok ds=>if ds.length<=1000000 then .ex c ρ else .bad
 |_=> .bad
theorem Yp {e:Expr} {fa:aA->R (List D)} (hc:X.calm=true) (hx:XCl X.K X.mg c C) (ha:DA X [e] fa) (hg:Gl X c:=by rfl) (hdb:(c ==("__debug__" :Str))=false:=by decide)
  (he:starEach [e] X.env=(false,eval e X.env)::starEach [] X.env:=by rfl) (hpl:(backTo cpos (starEach [e] X.env)).any (·.1)=false:=by rfl):
  DS X (.Raise (some (.Call (.Name c np) [e] [] cpos)) none pos) (Um fa c):=by
 intro pins s σ H E I h;obtain⟨H0,O0,O,ρ,j,h⟩:=h;obtain⟨bm,N,nm,qn,bs,hdct,sn,sub,ab,col,dd,k0,k1,k2,k3,k5,mN,o1,o2,o3,o4⟩:=adY I.mod.kin hx.ex;obtain⟨ds,ef,dl,e0⟩:∃ds,fa ρ= .ok ds/\ds.length<=1000000/\Um fa c ρ= .ex c ρ:=by
  unfold Um at h |-;cases q:fa ρ with
  | ok ds=>
   rw[q] at h;by_cases l:ds.length<=1000000
   ·exact⟨ds,rfl,l,by simp only[if_pos l]⟩
   ·simp only[if_neg l] at h;exact h.elim
  |err z=>rw[q] at h;exact h.elim
  |bad=>rw[q] at h;exact h.elim
 rw[e0] at h;have key:tG X (JL X) fa σ H (λ vs H1=>ds.length=vs.length/\Same H H1):=⟨ρ,O,j.inn,by rw[ef];exact λ vs H1 s1 r1=>⟨r1.length,s1⟩⟩;refine wpAny_Raise_call_subU (C:=C) (nm:=nm) (q:=qn) (N:=N) (bs:=bs) (bm:=bm) (hdct:=hdct) (sn:=sn) (sub:=sub) (ab:=ab) (col:=col) (dd:=dd) (k0:=k0) (k1:=k1) (k2:=k2) (k3:=k3) (k5:=k5)
  PySem.F.excBase_ValueError (by rfl) PySem.F.excBase_ValueError (mN:=mN) (o4.hasType PySem.F.excBase_ValueError.hasBase) (I.ok.hd hc) hpl o3 (ld_glob I hg hx.mg ⟨rfl,?_⟩ hdb)
 have hA:=ha cpos pins s σ H _ I key;rw[he] at hA |-;refine Calls.evalArgs_plain (wpAny_mono hA (λ us s1 ⟨vs,H1,I1,r,hl,sm⟩=>?_) λ _ _ z=>z);refine⟨rfl,?_,I1.bk _ _ o1,o2.keeps I1.bk,o4.keeps I1.bk,λ h' ev hm=>?_⟩
 ·show us.length<=sizeLine;rw[<-r.length,<-hl];exact Nat.le_trans dl fL
 ·obtain⟨t,ht,_,_⟩:=hm.there;exact h σ H1 O (j.grow sm) H1 pins s1 ev C none _ H1 (Same.refl _) I1 hx.ns ⟨Same.refl _,Un.kept hm.keeps,I1.hok.kept hm.keeps,rfl,I1.bare,⟨_,_,ht,rfl,rfl,rfl,rfl⟩,hm.new,Et I1.hok hm.new,λ _ z=>by cases z⟩
theorem abD {ρ:aA} {i j:Int} (e1:f ρ= .ok (.int i)) (e2:g ρ= .ok (.int j)) (hi:i.natAbs < 1000) (hj:j.natAbs < 1000):∃d,fsV x y f g ρ= .ok d:=by
 have l1:i.natAbs.log2 < 1920:=Nat.lt_of_le_of_lt (Nat.log2_le_self _) (by omega);have l2:j.natAbs.log2 < 1920:=Nat.lt_of_le_of_lt (Nat.log2_le_self _) (by omega);refine⟨.str (((Str.empty++x++Str.ofString (toString i))++y)++Str.ofString (toString j)),?_⟩;rw[fsV,e1,R.bh];show (if _ then _ else _)=_;rw[if_pos l1,e2,R.bh];show (if _ then _ else _)=_;rw[if_pos l2]
theorem abE {ρ:aA} (e:∃d,f ρ= .ok d):Um (ak f (λ _=> .ok [])) c ρ= .ex c ρ:=by
 obtain⟨d,e⟩:=e;unfold Um ak;rw[e];rfl
end
end Pu
namespace zA
open PySem PySem.Spec L2 Pu
open PyProof.Rows hiding St
noncomputable def jB (c t:Str):Bool:=(c == "NoWidth" && (["NoWidth","SeamError","ValueError"]:List Str).contains t) || false
theorem Ah {c t:Str} (h:jB c t=true):c= "NoWidth" :=by
 unfold jB at h;simp only[Bool.or_eq_true,Bool.and_eq_true,beq_iff_eq,Bool.false_eq_true,or_false] at h;exact h.1
noncomputable def Kh:aA->So:=(retS (bin (bin (λ ρ=>ao ρ 0) (aF maxD (ak (λ _=> .ok (.int 0)) (ak (aF minD (ak (bin (aF bW (ak (λ ρ=>ao ρ 0) (λ _=> .ok []))) (λ _=> .ok (.int 1)) dh) (ak (λ ρ=>ao ρ 2) (λ _=> .ok [])))) (λ _=> .ok [])))) bN) (aF maxD (ak (λ _=> .ok (.int 0)) (ak (aF minD (ak (bin (aF bW (ak (bin (λ ρ=>ao ρ 0) (λ _=> .ok (.int 0)) bN) (λ _=> .ok []))) (λ _=> .ok (.int 1)) dh) (ak (λ ρ=>ao ρ 1) (λ _=> .ok [])))) (λ _=> .ok [])))) bN))
noncomputable def gJ:List D->R D:=bV 0 Kh
noncomputable def Dt:aA->So:=(aQ (bF (aF rN (ak (bin (aF (aW gJ 3) (ak (λ ρ=>ao ρ 0) (ak (bin (λ ρ=>ao ρ 2) (λ _=> .ok (.int 1)) dh) (ak (λ ρ=>ao ρ 3) (λ _=> .ok []))))) (aF (aW gJ 3) (ak (λ ρ=>ao ρ 0) (ak (bin (λ ρ=>ao ρ 2) (λ _=> .ok (.int 1)) cO) (ak (λ ρ=>ao ρ 3) (λ _=> .ok []))))) dh) (λ _=> .ok []))) (aM 5)) (aQ (dJ (bZ (bin (λ ρ=>ao ρ 1) (λ _=> .ok (.str "worth")) kJ)) (retS (bin (λ ρ=>ao ρ 5) (aF rN (ak (bin (aF (aW gJ 3) (ak (λ ρ=>ao ρ 0) (ak (λ ρ=>ao ρ 2) (ak (bin (λ ρ=>ao ρ 3) (λ _=> .ok (.int 1)) dh) (λ _=> .ok []))))) (aF (aW gJ 3) (ak (λ ρ=>ao ρ 0) (ak (λ ρ=>ao ρ 2) (ak (bin (λ ρ=>ao ρ 3) (λ _=> .ok (.int 1)) cO) (λ _=> .ok []))))) dh) (λ _=> .ok []))) cO)) So.nx) (aQ (dJ (nG (bZ (bin (λ ρ=>ao ρ 4) (λ _=> .ok .non) Xq)) (bZ (bin (λ ρ=>ao ρ 4) (λ ρ=>ao ρ 2) jJ))) (bF (bin (λ ρ=>ao ρ 5) (aF rN (ak (bin (bin (bin (λ ρ=>ao ρ 0) (bin (λ ρ=>ao ρ 3) (λ _=> .ok (.int 1)) dh) bN) (λ ρ=>ao ρ 2) bN) (bin (bin (λ ρ=>ao ρ 0) (λ ρ=>ao ρ 3) bN) (zu (bZ (bin (λ ρ=>ao ρ 4) (λ ρ=>ao ρ 2) ltI)) (bin (λ ρ=>ao ρ 2) (λ _=> .ok (.int 1)) dh) (bin (λ ρ=>ao ρ 2) (λ _=> .ok (.int 1)) cO)) bN) dh) (λ _=> .ok []))) cO) (aM 5)) So.nx) (retS (λ ρ=>ao ρ 5)))))
noncomputable def gK:List D->R D:=bV 1 Dt
noncomputable def Du:aA->So:=(aQ (bF (bin (dI (ak (λ _=> .ok .non) (λ _=> .ok []))) (jM (λ ρ=>ao ρ 2) (λ _=> .ok none) (λ ρ=>(((pU (λ _=> .ok (.int 1))):aA->R D) ρ).bind Dk)) cO) (aM 3)) (retS (aF Nb (ak (bU 2 [3,1,0] (λ ρ=>((ak (λ ρ=>ao ρ 2) (λ _=> .ok [])) ρ).bind oV) (dj (dB 2 (bC (aM 0) (bC (aM 1) nilG)))) (λ _=> .ok true) (aF (aW gK 5) (ak (λ ρ=>ao ρ 4) (ak (λ ρ=>ao ρ 3) (ak (λ ρ=>ao ρ 1) (ak (λ ρ=>ao ρ 0) (ak (bin (λ ρ=>ao ρ 2) (λ ρ=>ao ρ 0) bN) (λ _=> .ok [])))))))) (λ _=> .ok [])))))
noncomputable def gM:List D->R D:=bV 1 Du
noncomputable def Ai:aA->So:=(retS (aF bW (ak (bU 2 [2] (λ ρ=>((ak (λ ρ=>ao ρ 0) (ak (λ ρ=>ao ρ 1) (λ _=> .ok []))) ρ).bind zip2) (dj (dB 2 (bC (aM 0) (bC (aM 1) nilG)))) (bZ (bin (bin (λ ρ=>ao ρ 0) (λ ρ=>ao ρ 1) bN) (λ ρ=>ao ρ 2) kJ)) (λ ρ=>ao ρ 1)) (λ _=> .ok []))))
noncomputable def iB:List D->R D:=bV 0 Ai
noncomputable def wyI:aA->So:=(bF (bin (λ ρ=>ao ρ 4) (bU 1 [0,5] (fV (dI (ak (bin (bin (λ ρ=>ao ρ 5) (pU (λ _=> .ok (.int 1))) bN) (λ _=> .ok (.int 1)) dh) (ak (bin (λ ρ=>ao ρ 5) (pU (λ _=> .ok (.int 1))) bN) (ak (bin (bin (λ ρ=>ao ρ 5) (pU (λ _=> .ok (.int 1))) bN) (λ _=> .ok (.int 1)) cO) (λ _=> .ok [])))))) (aM 0) (nG (bZ (bin (λ _=> .ok (.int 0)) (λ ρ=>ao ρ 0) sG)) (bZ (bin (λ ρ=>ao ρ 0) (λ ρ=>ao ρ 1) ltI))) (bin (λ ρ=>ao ρ 2) (dI (ak (λ ρ=>ao ρ 0) (λ _=> .ok []))) cO)) cO) (aM 4))
noncomputable def wyO:aA->So:=(aQ (bF (jt (λ _=> .ok [])) (aM 4)) (aQ (nJ (fV (λ ρ=>ao ρ 2)) (aM 5) wyI) (bF (λ ρ=>ao ρ 4) (aM 2))))
noncomputable def Dv:aA->So:=(aQ (bF (bU 1 [] (λ ρ=>((ak (λ ρ=>ao ρ 0) (λ _=> .ok [])) ρ).bind ju) (aM 0) (λ _=> .ok true) (dI (ak (λ ρ=>ao ρ 0) (λ _=> .ok [])))) (aM 2)) (aQ (nJ (λ ρ=>((ak (bin (λ ρ=>ao ρ 1) (λ _=> .ok (.int 1)) dh) (λ _=> .ok [])) ρ).bind ju) (aM 3) wyO) (retS (λ ρ=>ao ρ 2))))
noncomputable def mX:List D->R D:=bV 4 Dv
noncomputable def beB:aA->So:=(dJ (bZ (bin (aF (aW iB 3) (ak (λ ρ=>ao ρ 2) (ak (λ ρ=>ao ρ 4) (ak (λ _=> .ok (.int 1)) (λ _=> .ok []))))) (λ _=> .ok (.int 0)) kJ)) (aQ (bF (dI (ak (pU (aF (aW iB 3) (ak (λ ρ=>ao ρ 2) (ak (λ ρ=>ao ρ 4) (ak (λ _=> .ok (.int 2)) (λ _=> .ok [])))))) (ak (aF (aW gM 3) (ak (λ ρ=>ao ρ 0) (ak (λ ρ=>ao ρ 1) (ak (λ ρ=>ao ρ 4) (λ _=> .ok []))))) (ak (λ ρ=>ao ρ 4) (λ _=> .ok []))))) (aM 5)) (bF (zu (tX (bZ (bin (λ ρ=>ao ρ 3) (λ _=> .ok .non) isD)) (bZ (bin (λ ρ=>ao ρ 5) (λ ρ=>ao ρ 3) Ou))) (λ ρ=>ao ρ 5) (λ ρ=>ao ρ 3)) (aM 3))) So.nx)
noncomputable def Dw:aA->So:=(aQ (bF (λ _=> .ok .non) (aM 3)) (aQ (nJ (fV (aF (aW mX 2) (ak (aF bW (ak (bin (λ ρ=>ao ρ 0) (λ _=> .ok (.int 0)) bN) (λ _=> .ok []))) (ak (aF bW (ak (λ ρ=>ao ρ 0) (λ _=> .ok []))) (λ _=> .ok []))))) (aM 4) beB) (retS (zu (bZ (bin (λ ρ=>ao ρ 3) (λ _=> .ok .non) isD)) (λ _=> .ok .non) (bin (λ ρ=>ao ρ 3) (λ _=> .ok (.int 2)) bN)))))
noncomputable def iV:List D->R D:=bV 3 Dw
noncomputable def Gu:aA->So:=(retS (aF jw (ak (bU 2 [] (λ ρ=>((ak (λ ρ=>ao ρ 0) (ak (λ ρ=>ao ρ 1) (λ _=> .ok []))) ρ).bind zip2) (dj (dB 2 (bC (aM 0) (bC (aM 1) nilG)))) (λ _=> .ok true) (aF jw (ak (bU 2 [1] (λ ρ=>((ak (λ ρ=>ao ρ 0) (λ _=> .ok [])) ρ).bind oV) (dj (dB 2 (bC (aM 0) (bC (aM 1) nilG)))) (bZ (bin (λ ρ=>ao ρ 0) (λ ρ=>ao ρ 2) jJ)) (λ ρ=>ao ρ 1)) (λ _=> .ok [])))) (λ _=> .ok []))))
noncomputable def iM:List D->R D:=bV 0 Gu
noncomputable def Aj:aA->So:=(aQ (bF (bin (λ _=> .ok (.int 7)) (λ ρ=>ao ρ 1) ig) (aM 3)) (aQ (dJ (bZ (bin (λ ρ=>ao ρ 0) (jt (λ _=> .ok [])) jJ)) (aQ (bF (bin (λ ρ=>ao ρ 0) (bin (λ ρ=>ao ρ 1) (aF bW (ak (λ ρ=>ao ρ 0) (λ _=> .ok []))) f9) bN) (aM 3)) (aQ (bF (bin (λ ρ=>ao ρ 1) (aF bW (ak (λ ρ=>ao ρ 0) (λ _=> .ok []))) iJ) (aM 4)) (aQ (dJ (nG (bZ (bin (λ ρ=>ao ρ 3) (bin (λ _=> .ok (.int 10)) (λ _=> .ok (.int 18)) vV) Xb)) (bZ (bin (λ ρ=>ao ρ 4) (λ _=> .ok (.int 60)) ltI))) (aQ (bF (bin (λ ρ=>ao ρ 3) (bin (λ _=> .ok (.int 10)) (λ _=> .ok (.int 18)) vV) iJ) (aM 5)) (aQ (fZ (nG (bZ (bin (λ ρ=>ao ρ 5) (λ _=> .ok (.int 0)) sH)) (bZ (bin (λ ρ=>ao ρ 4) (λ _=> .ok (.int 0)) sH))) (aQ (bF (bin (λ ρ=>ao ρ 5) (λ _=> .ok (.int 1000000)) iJ) (aM 5)) (bF (bin (λ ρ=>ao ρ 4) (λ _=> .ok (.int 1)) dh) (aM 4))) 64) (dJ (bZ (bin (λ ρ=>ao ρ 5) (λ _=> .ok (.int 0)) sH)) (retS (bin (bin (λ ρ=>ao ρ 5) (λ _=> .ok (.int 1000000)) f9) (λ ρ=>ao ρ 2) f9)) So.nx))) So.nx) (bF (bin (λ ρ=>ao ρ 3) (bin (λ _=> .ok (.int 6553)) (bin (λ ρ=>ao ρ 1) (aF bW (ak (λ ρ=>ao ρ 0) (λ _=> .ok []))) iJ) ig) fj) (aM 3))))) So.nx) (aQ (bF (bin (bin (bin (bin (λ ρ=>ao ρ 3) (λ _=> .ok (.int 2147483563)) f9) (λ _=> .ok (.int 69069)) ig) (bin (λ _=> .ok (.int 104723)) (bin (λ ρ=>ao ρ 1) (λ _=> .ok (.int 1)) fj) ig) fj) (λ _=> .ok (.int 2147483563)) f9) (aM 3)) (aQ (bF (bin (bin (bin (λ ρ=>ao ρ 3) (λ ρ=>ao ρ 3) ig) (bin (λ ρ=>ao ρ 3) (λ _=> .ok (.int 3)) iJ) fj) (λ _=> .ok (.int 2147483399)) f9) (aM 3)) (retS (bin (bin (bin (bin (bin (λ ρ=>ao ρ 3) (λ ρ=>ao ρ 3) ig) (bin (λ ρ=>ao ρ 3) (λ _=> .ok (.int 7)) iJ) fj) (λ _=> .ok (.int 2147483647)) f9) (λ _=> .ok (.int 11)) iJ) (λ ρ=>ao ρ 2) f9))))))
noncomputable def cD:List D->R D:=bV 3 Aj
noncomputable def Dy:aA->So:=(retS (aF jw (ak (bU 1 [] (fV (λ ρ=>ao ρ 0)) (aM 0) (λ _=> .ok true) (bin (dI (ak (λ _=> .ok (.int 0)) (λ _=> .ok []))) (aF bW (ak (λ ρ=>ao ρ 0) (λ _=> .ok []))) zU)) (λ _=> .ok []))))
noncomputable def jY:List D->R D:=bV 0 Dy
noncomputable def zB:aA->So:=(retS (bin (jt (ak (λ _=> .ok (.str "worth")) (ak (λ _=> .ok (.str "joins")) (λ _=> .ok [])))) (aF (aW cD 3) (ak (λ ρ=>ao ρ 0) (ak (λ ρ=>ao ρ 1) (ak (λ _=> .ok (.int 2)) (λ _=> .ok []))))) bN))
noncomputable def jP:List D->R D:=bV 0 zB
noncomputable def mkB:aA->So:=(aQ (bF (bin (bin (λ ρ=>ao ρ 1) (λ _=> .ok (.int 1)) cO) (bin (aF bW (ak (λ ρ=>ao ρ 6) (λ _=> .ok []))) (λ ρ=>ao ρ 5) zU) cO) (aM 7)) (pK 3 (aF jw (ak (bU 1 [7,0,4] (λ ρ=>((ak (aF bW (ak (λ ρ=>ao ρ 6) (λ _=> .ok []))) (λ _=> .ok [])) ρ).bind ju) (aM 0) (λ _=> .ok true) (bin (λ ρ=>ao ρ 3) (aF (aW cD 3) (ak (λ ρ=>ao ρ 2) (ak (bin (λ ρ=>ao ρ 1) (λ ρ=>ao ρ 0) cO) (ak (aF bW (ak (λ ρ=>ao ρ 3) (λ _=> .ok []))) (λ _=> .ok []))))) bN)) (λ _=> .ok [])))))
noncomputable def Ak:aA->So:=(aQ (newL (λ _=> .ok []) 3) (aQ (bF (bin (jt (ak (jt (ak (λ _=> .ok (.int 0)) (ak (λ _=> .ok (.int 0)) (ak (λ _=> .ok (.int 0)) (ak (λ _=> .ok (.int 1)) (ak (λ _=> .ok (.int 2)) (λ _=> .ok []))))))) (ak (jt (ak (λ _=> .ok (.int 0)) (ak (λ _=> .ok (.int 0)) (ak (λ _=> .ok (.int 0)) (ak (λ _=> .ok (.int 0)) (ak (λ _=> .ok (.int 1)) (λ _=> .ok []))))))) (ak (jt (ak (λ _=> .ok (.int 0)) (ak (λ _=> .ok (.int 0)) (ak (λ _=> .ok (.int 2)) (ak (λ _=> .ok (.int 0)) (ak (λ _=> .ok (.int 0)) (λ _=> .ok []))))))) (ak (jt (ak (λ _=> .ok (.int 0)) (λ _=> .ok []))) (λ _=> .ok [])))))) (aF (aW cD 3) (ak (λ ρ=>ao ρ 0) (ak (λ ρ=>ao ρ 1) (ak (λ _=> .ok (.int 4)) (λ _=> .ok []))))) bN) (aM 4)) (aQ (nJ (λ ρ=>((ak (λ ρ=>ao ρ 2) (λ _=> .ok [])) ρ).bind oV) (dj (dB 2 (bC (aM 5) (bC (aM 6) nilG)))) mkB) (retS (aF jw (ak (λ ρ=>ao ρ 3) (λ _=> .ok [])))))))
noncomputable def lM:List D->R D:=bV 5 Ak
noncomputable def Gv:aA->So:=(retS (bin (dI (ak (bin (dI (ak (λ _=> .ok (.int 0)) (λ _=> .ok []))) (aF bW (ak (bin (λ ρ=>ao ρ 0) (λ _=> .ok (.int 0)) bN) (λ _=> .ok []))) zU) (λ _=> .ok []))) (aF bW (ak (λ ρ=>ao ρ 0) (λ _=> .ok []))) zU))
noncomputable def oX:List D->R D:=bV 0 Gv
noncomputable def Gw:aA->So:=(retS (mL (qF CG (λ ρ=>ao ρ 0)) (MK (qF yw (λ ρ=>ao ρ 0)))))
noncomputable def dH:List D->R D:=bV 0 Gw
noncomputable def Kl:aA->So:=(retS (mL (aF (aW dH 1) (ak (λ ρ=>ao ρ 0) (λ _=> .ok []))) (zq (λ _=> .ok (.int 0)) (λ ρ=>ao ρ 0) (λ _=> .ok (.int 2)) sG sG)))
noncomputable def q9:List D->R D:=bV 0 Kl
noncomputable def xP:aA->So:=(retS (mL (qF dM (λ ρ=>ao ρ 0)) (mL (bin (aF bW (ak (λ ρ=>ao ρ 0) (λ _=> .ok []))) (λ ρ=>ao ρ 1) kJ) (aF pL (ak (bU 1 [] (fV (λ ρ=>ao ρ 0)) (aM 0) (λ _=> .ok true) (aF (aW q9 1) (ak (λ ρ=>ao ρ 0) (λ _=> .ok [])))) (λ _=> .ok []))))))
noncomputable def ji:List D->R D:=bV 0 xP
noncomputable def Gx:aA->So:=(aQ (dJ (tX (jr (bZ (qF dM (λ ρ=>ao ρ 0)))) (bZ (bin (aF bW (ak (λ ρ=>ao ρ 0) (λ _=> .ok []))) (aF bW (ak (λ ρ=>ao ρ 1) (λ _=> .ok []))) jJ))) (retS (λ _=> .ok (.bl false))) So.nx) (retS (aF pL (ak (bU 1 [1] (fV (λ ρ=>ao ρ 0)) (aM 0) (λ _=> .ok true) (aF (aW ji 2) (ak (λ ρ=>ao ρ 0) (ak (aF bW (ak (bin (λ ρ=>ao ρ 1) (λ _=> .ok (.int 0)) bN) (λ _=> .ok []))) (λ _=> .ok []))))) (λ _=> .ok [])))))
noncomputable def oY:List D->R D:=bV 0 Gx
noncomputable def Al:aA->So:=(aQ (dJ (bZ (bin (λ ρ=>ao ρ 0) (λ _=> .ok .non) isD)) (retS (aF (aW oX 1) (ak (λ ρ=>ao ρ 1) (λ _=> .ok [])))) So.nx) (aQ (dJ (jr (bZ (aF (aW oY 2) (ak (λ ρ=>ao ρ 0) (ak (λ ρ=>ao ρ 1) (λ _=> .ok [])))))) (λ _=> .bad) So.nx) (retS (λ ρ=>ao ρ 0))))
noncomputable def iC:List D->R D:=bV 0 Al
noncomputable def zE:aA->So:=(dJ (bZ (bin (λ ρ=>ao ρ 0) (λ _=> .ok (.tup [.str "worth",.str "joins"])) (T5 true))) (λ _=> .bad) So.nx)
noncomputable def jQ:List D->R D:=bV 0 zE
noncomputable def Km:aA->So:=(retS (mL (qF dM (λ ρ=>ao ρ 0)) (zq (λ _=> .ok (.int 1)) (aF bW (ak (λ ρ=>ao ρ 0) (λ _=> .ok []))) (λ _=> .ok (.int 20)) sG sG)))
noncomputable def jo:List D->R D:=bV 0 Km
noncomputable def Ko:aA->So:=(retS (mL (aF (aW dH 1) (ak (λ ρ=>ao ρ 0) (λ _=> .ok []))) (zq (λ _=> .ok (.int 0)) (λ ρ=>ao ρ 0) (λ _=> .ok (.int 99)) sG sG)))
noncomputable def lN:List D->R D:=bV 0 Ko
noncomputable def Ow:aA->So:=(retS (mL (aF (aW jo 1) (ak (λ ρ=>ao ρ 0) (λ _=> .ok []))) (aF pL (ak (bU 1 [] (fV (λ ρ=>ao ρ 0)) (aM 0) (λ _=> .ok true) (aF (aW lN 1) (ak (λ ρ=>ao ρ 0) (λ _=> .ok [])))) (λ _=> .ok [])))))
noncomputable def ur:List D->R D:=bV 0 Ow
noncomputable def Am:aA->So:=(aQ (dJ (tX (jr (bZ (aF (aW jo 1) (ak (λ ρ=>ao ρ 0) (λ _=> .ok []))))) (jr (bZ (aF pL (ak (bU 1 [] (fV (λ ρ=>ao ρ 0)) (aM 0) (λ _=> .ok true) (aF (aW ur 1) (ak (λ ρ=>ao ρ 0) (λ _=> .ok [])))) (λ _=> .ok [])))))) (retS (λ _=> .ok (.bl false))) So.nx) (retS (aF pL (ak (bU 1 [0] (fV (λ ρ=>ao ρ 0)) (aM 0) (λ _=> .ok true) (bin (aF bW (ak (λ ρ=>ao ρ 0) (λ _=> .ok []))) (aF bW (ak (bin (λ ρ=>ao ρ 1) (λ _=> .ok (.int 0)) bN) (λ _=> .ok []))) kJ)) (λ _=> .ok [])))))
noncomputable def lO:List D->R D:=bV 0 Am
noncomputable def xQ:aA->So:=(dJ (jr (bZ (aF (aW lO 1) (ak (λ ρ=>ao ρ 0) (λ _=> .ok []))))) (λ _=> .bad) So.nx)
noncomputable def fJ:List D->R D:=bV 0 xQ
noncomputable def Ao:aA->So:=(dJ (tX (jr (bZ (aF (aW dH 1) (ak (λ ρ=>ao ρ 0) (λ _=> .ok []))))) (jr (bZ (zq (λ ρ=>ao ρ 1) (λ ρ=>ao ρ 0) (λ ρ=>ao ρ 2) sG sG)))) (Um (ak (fsV "the width is to be a whole number from " " to " (λ ρ=>ao ρ 1) (λ ρ=>ao ρ 2)) (λ _=> .ok [])) "NoWidth") So.nx)
noncomputable def lQ:List D->R D:=bV 0 Ao
noncomputable def zF:aA->So:=(retS (aF jw (ak (bU 2 [] (λ ρ=>((ak (λ ρ=>ao ρ 0) (ak (λ ρ=>ao ρ 1) (λ _=> .ok []))) ρ).bind zip2) (dj (dB 2 (bC (aM 0) (bC (aM 1) nilG)))) (λ _=> .ok true) (bin (λ ρ=>ao ρ 0) (λ ρ=>ao ρ 1) bN)) (λ _=> .ok []))))
noncomputable def jR:List D->R D:=bV 0 zF
noncomputable def Yq:aA->So:=(aQ (bF (bin (aF bW (ak (λ ρ=>ao ρ 0) (λ _=> .ok []))) (λ _=> .ok (.int 1)) dh) (aM 1)) (retS (bU 1 [1,0] (λ ρ=>((ak (aF bW (ak (λ ρ=>ao ρ 0) (λ _=> .ok []))) (λ _=> .ok [])) ρ).bind ju) (aM 0) (λ _=> .ok true) (aF rN (ak (bin (bin (λ ρ=>ao ρ 2) (aF maxD (ak (bin (λ ρ=>ao ρ 0) (λ _=> .ok (.int 1)) dh) (ak (λ _=> .ok (.int 0)) (λ _=> .ok [])))) bN) (bin (λ ρ=>ao ρ 2) (aF minD (ak (bin (λ ρ=>ao ρ 0) (λ _=> .ok (.int 1)) cO) (ak (λ ρ=>ao ρ 1) (λ _=> .ok [])))) bN) dh) (λ _=> .ok []))))))
noncomputable def rm:List D->R D:=bV 1 Yq
noncomputable def Aq:aA->So:=(aQ (bF (bin (λ ρ=>ao ρ 0) (λ ρ=>ao ρ 1) bN) (aM 2)) (aQ (bF (bin (λ ρ=>ao ρ 0) (aF maxD (ak (bin (λ ρ=>ao ρ 1) (λ _=> .ok (.int 1)) dh) (ak (λ _=> .ok (.int 0)) (λ _=> .ok [])))) bN) (aM 3)) (aQ (bF (bin (aF bW (ak (λ ρ=>ao ρ 2) (λ _=> .ok []))) (λ _=> .ok (.int 1)) dh) (aM 4)) (aQ (newL (λ _=> .ok []) 5) (aQ (nJ (λ ρ=>((ak (aF (aW rm 1) (ak (λ ρ=>ao ρ 2) (λ _=> .ok []))) (λ _=> .ok [])) ρ).bind oV) (dj (dB 2 (bC (aM 6) (bC (aM 7) nilG)))) (aQ (bF (bin (λ ρ=>ao ρ 7) (aF rN (ak (bin (bin (λ ρ=>ao ρ 3) (λ ρ=>ao ρ 6) bN) (bin (λ ρ=>ao ρ 2) (aF maxD (ak (bin (λ ρ=>ao ρ 6) (λ _=> .ok (.int 1)) dh) (ak (λ _=> .ok (.int 0)) (λ _=> .ok [])))) bN) dh) (λ _=> .ok []))) cO) (aM 8)) (aQ (bF (bin (λ ρ=>ao ρ 7) (aF rN (ak (bin (bin (λ ρ=>ao ρ 3) (λ ρ=>ao ρ 6) bN) (bin (λ ρ=>ao ρ 2) (aF minD (ak (bin (λ ρ=>ao ρ 6) (λ _=> .ok (.int 1)) cO) (ak (λ ρ=>ao ρ 4) (λ _=> .ok [])))) bN) dh) (λ _=> .ok []))) cO) (aM 9)) (pK 5 (dI (ak (λ ρ=>ao ρ 8) (ak (λ ρ=>ao ρ 7) (ak (λ ρ=>ao ρ 9) (λ _=> .ok []))))))))) (retS (λ ρ=>ao ρ 5)))))))
noncomputable def lR:List D->R D:=bV 8 Aq
noncomputable def Kp:aA->So:=(aQ (mC (aF (aW fJ 1) (ak (λ ρ=>ao ρ 0) (λ _=> .ok [])))) (retS (dI (ak (aF bW (ak (bin (λ ρ=>ao ρ 0) (λ _=> .ok (.int 0)) bN) (λ _=> .ok []))) (ak (aF bW (ak (λ ρ=>ao ρ 0) (λ _=> .ok []))) (λ _=> .ok []))))))
noncomputable def iQ:List D->R D:=bV 0 Kp
noncomputable def Ox:aA->So:=(aQ (bF (aF (aW iQ 1) (ak (λ ρ=>ao ρ 0) (λ _=> .ok []))) (dj (dB 2 (bC (aM 1) (bC (aM 2) nilG))))) (retS (aF jw (ak (bU 1 [2,0] (λ ρ=>((ak (λ ρ=>ao ρ 1) (λ _=> .ok [])) ρ).bind ju) (aM 0) (λ _=> .ok true) (aF jw (ak (bU 1 [2,0] (λ ρ=>((ak (λ ρ=>ao ρ 1) (λ _=> .ok [])) ρ).bind ju) (aM 0) (λ _=> .ok true) (bin (bin (λ ρ=>ao ρ 1) (λ ρ=>ao ρ 0) bN) (λ ρ=>ao ρ 2) bN)) (λ _=> .ok [])))) (λ _=> .ok [])))))
noncomputable def uw:List D->R D:=bV 2 Ox
noncomputable def Oz:aA->So:=(aQ (bF (aF (aW iQ 1) (ak (λ ρ=>ao ρ 0) (λ _=> .ok []))) (dj (dB 2 (bC (aM 1) (bC (aM 2) nilG))))) (aQ (bF (bU 1 [] (fV (λ ρ=>ao ρ 0)) (aM 0) (λ _=> .ok true) (aF (aW rm 1) (ak (λ ρ=>ao ρ 0) (λ _=> .ok [])))) (aM 3)) (aQ (bF (bU 1 [] (fV (aF (aW uw 1) (ak (λ ρ=>ao ρ 0) (λ _=> .ok [])))) (aM 0) (λ _=> .ok true) (aF (aW rm 1) (ak (λ ρ=>ao ρ 0) (λ _=> .ok [])))) (aM 4)) (retS (aF jw (ak (bU 1 [3,4,1] (λ ρ=>((ak (λ ρ=>ao ρ 2) (λ _=> .ok [])) ρ).bind ju) (aM 0) (λ _=> .ok true) (aF jw (ak (bU 1 [1,2,0] (λ ρ=>((ak (λ ρ=>ao ρ 3) (λ _=> .ok [])) ρ).bind ju) (aM 0) (λ _=> .ok true) (bin (bin (bin (λ ρ=>ao ρ 1) (λ ρ=>ao ρ 3) bN) (λ ρ=>ao ρ 0) bN) (bin (bin (λ ρ=>ao ρ 2) (λ ρ=>ao ρ 0) bN) (λ ρ=>ao ρ 3) bN) cO)) (λ _=> .ok [])))) (λ _=> .ok [])))))))
noncomputable def ux:List D->R D:=bV 4 Oz
noncomputable def Uo:aA->So:=(aQ (dJ (bZ (bin (λ ρ=>ao ρ 1) (λ _=> .ok (.str "worth")) kJ)) (retS (bU 1 [] (fV (aF (aW ux 1) (ak (λ ρ=>ao ρ 0) (λ _=> .ok [])))) (aM 0) (λ _=> .ok true) (bU 1 [] (fV (λ ρ=>ao ρ 0)) (aM 0) (λ _=> .ok true) (dI (ak (λ ρ=>ao ρ 0) (ak (λ ρ=>ao ρ 0) (ak (λ ρ=>ao ρ 0) (λ _=> .ok [])))))))) So.nx) (retS (bU 1 [0] (λ ρ=>((ak (aF bW (ak (λ ρ=>ao ρ 0) (λ _=> .ok []))) (λ _=> .ok [])) ρ).bind ju) (aM 0) (λ _=> .ok true) (aF (aW lR 2) (ak (λ ρ=>ao ρ 1) (ak (λ ρ=>ao ρ 0) (λ _=> .ok [])))))))
noncomputable def pZ:List D->R D:=bV 0 Uo
noncomputable def Kq:aA->So:=(retS (bin (bin (λ ρ=>ao ρ 0) (λ ρ=>ao ρ 2) bN) (bin (bin (λ ρ=>ao ρ 1) (λ ρ=>ao ρ 2) dh) (λ _=> .ok (.int 1)) cO) bN))
noncomputable def iR:List D->R D:=bV 0 Kq
noncomputable def Yr:aA->So:=(retS (aF Vu (ak (aF maxD (ak (bin (λ ρ=>ao ρ 0) (λ _=> .ok (.int 1)) dh) (ak (λ _=> .ok (.int 0)) (λ _=> .ok [])))) (ak (aF minD (ak (bin (λ ρ=>ao ρ 0) (λ _=> .ok (.int 2)) cO) (ak (λ ρ=>ao ρ 1) (λ _=> .ok [])))) (λ _=> .ok [])))))
noncomputable def Ar:List D->R D:=bV 0 Yr
noncomputable def onB:aA->So:=(aQ (bF (aF (aW iR 3) (ak (λ ρ=>ao ρ 1) (ak (λ ρ=>ao ρ 2) (ak (λ ρ=>ao ρ 4) (λ _=> .ok []))))) (aM 5)) (Ey 3 (bU 3 [5] (fV (bin (λ ρ=>ao ρ 0) (λ ρ=>ao ρ 4) bN)) (dj (dB 3 (bC (aM 0) (bC (aM 1) (bC (aM 2) nilG))))) (λ _=> .ok true) (dI (ak (λ ρ=>ao ρ 0) (ak (bin (λ ρ=>ao ρ 1) (λ ρ=>ao ρ 3) cO) (ak (λ ρ=>ao ρ 2) (λ _=> .ok []))))))))
noncomputable def OD:aA->So:=(aQ (newL (λ _=> .ok []) 3) (aQ (nJ (fV (aF (aW Ar 2) (ak (λ ρ=>ao ρ 2) (ak (aF bW (ak (λ ρ=>ao ρ 0) (λ _=> .ok []))) (λ _=> .ok []))))) (aM 4) onB) (retS (λ ρ=>ao ρ 3))))
noncomputable def p7:List D->R D:=bV 3 OD
noncomputable def abF (aG:Nat) (GG:List D->R D):aA->So:=(dJ (bZ (bin (λ ρ=>ao ρ 8) (λ _=> .ok (.int 1)) kJ)) (bF (jt (λ _=> .ok [])) (aM 9)) (dJ (jr (Oo (λ ρ=>ao ρ 4))) (bF (CV 3 aG GG 2 (ak (λ ρ=>ao ρ 7) (ak (jt (ak (dI (ak (λ _=> .ok (.int 0)) (ak (λ _=> .ok (.int 0)) (ak (λ ρ=>ao ρ 2) (λ _=> .ok []))))) (λ _=> .ok []))) (λ _=> .ok [])))) (aM 9)) (bF (CV 3 aG GG 2 (ak (λ ρ=>ao ρ 7) (ak (aF (aW p7 3) (ak (Yj 4 (pU (λ _=> .ok (.int 1)))) (ak (bin (λ ρ=>ao ρ 0) (bin (λ ρ=>ao ρ 5) (λ _=> .ok (.int 1)) cO) bN) (ak (λ ρ=>ao ρ 7) (λ _=> .ok []))))) (λ _=> .ok [])))) (aM 9))))
noncomputable def abG:aA->So:=(aQ (bF (zu (bZ (bin (λ ρ=>ao ρ 8) (λ _=> .ok (.int 2)) kJ)) (λ _=> .ok (.int 1)) (λ _=> .ok (.int 0))) (aM 10)) (pK 6 (bU 3 [10] (fV (λ ρ=>ao ρ 9)) (dj (dB 3 (bC (aM 0) (bC (aM 1) (bC (aM 2) nilG))))) (λ _=> .ok true) (dI (ak (bin (λ ρ=>ao ρ 0) (λ ρ=>ao ρ 3) dh) (ak (λ ρ=>ao ρ 1) (ak (λ ρ=>ao ρ 2) (λ _=> .ok []))))))))
noncomputable def inW (aG:Nat) (GG:List D->R D):aA->So:=(aQ (abF aG GG) abG)
noncomputable def aaU (aG:Nat) (GG:List D->R D):aA->So:=(aQ (newL (λ _=> .ok []) 6) (aQ (nJ (λ ρ=>((ak (bin (λ ρ=>ao ρ 1) (λ ρ=>ao ρ 5) bN) (λ _=> .ok [])) ρ).bind oV) (dj (dB 2 (bC (aM 7) (bC (aM 8) nilG)))) (inW aG GG)) (Og 4 6)))
noncomputable def Io (aG:Nat) (GG:List D->R D):aA->So:=(aQ (newL (λ _=> .ok []) 4) (aQ (nJ (λ ρ=>((ak (aF bW (ak (λ ρ=>ao ρ 1) (λ _=> .ok []))) (λ _=> .ok [])) ρ).bind Oh) (aM 5) (aaU aG GG)) (retS (Mx (λ ρ=>ao ρ 4)))))
noncomputable def tM (aG:Nat) (GG:List D->R D) (ds:List D):R D:=jh 7 (Io aG GG) (ds.map .val++[.obj (.fn aG)])
noncomputable def Av:aA->So:=(retS (bU 3 [0] (fV (pX (aF oW (ak (λ ρ=>ao ρ 1) (λ _=> .ok []))) (λ _=> .ok none) (λ ρ=>((λ ρ=>ao ρ 2) ρ).bind Dk))) (dj (dB 3 (bC (aM 0) (bC (aM 1) (bC (aM 2) nilG))))) (λ _=> .ok true) (dI (ak (λ ρ=>ao ρ 0) (ak (λ ρ=>ao ρ 1) (ak (bin (dI (ak (λ ρ=>ao ρ 3) (λ _=> .ok []))) (λ ρ=>ao ρ 2) cO) (λ _=> .ok [])))))))
noncomputable def dX (my:Int) (ds:List D):R D:=jh 0 Av (ds.map .val++[.val (.int my)])
noncomputable def vY:aA->So:=(Vo 3 2 ((λ ρ=>ao ρ 0):aA->R D) ((λ ρ=>ao ρ 1):aA->R D) ((dI (λ _=> .ok [])):aA->R D) tM dX)
noncomputable def qK (ds:List D):R D:=jh 1 vY (ds.map .val)
noncomputable def Gy:aA->So:=(aQ (newL (λ _=> .ok []) 2) (aQ (nJ (λ ρ=>((ak (bin (λ ρ=>ao ρ 1) (λ _=> .ok (.int 0)) bN) (λ _=> .ok [])) ρ).bind oV) (dj (dB 2 (bC (aM 3) (bC (aM 4) nilG)))) (aQ (bF (aF (aW iR 3) (ak (bin (λ ρ=>ao ρ 0) (λ _=> .ok (.int 0)) bN) (ak (λ ρ=>ao ρ 3) (ak (λ ρ=>ao ρ 3) (λ _=> .ok []))))) (aM 5)) (Ey 2 (bU 3 [5] (fV (λ ρ=>ao ρ 4)) (dj (dB 3 (bC (aM 0) (bC (aM 1) (bC (aM 2) nilG))))) (λ _=> .ok true) (dI (ak (λ ρ=>ao ρ 0) (ak (bin (λ ρ=>ao ρ 1) (λ ρ=>ao ρ 3) cO) (ak (λ ρ=>ao ρ 2) (λ _=> .ok []))))))))) (retS (λ ρ=>ao ρ 2))))
noncomputable def oZ:List D->R D:=bV 4 Gy
noncomputable def zG:aA->So:=(retS (pX (aF oW (ak (aF (aW oZ 2) (ak (λ ρ=>ao ρ 0) (ak (aF (aW qK 3) (ak (λ ρ=>ao ρ 0) (ak (λ ρ=>ao ρ 1) (ak (λ ρ=>ao ρ 2) (λ _=> .ok []))))) (λ _=> .ok [])))) (λ _=> .ok []))) (λ _=> .ok none) (λ ρ=>((λ ρ=>ao ρ 2) ρ).bind Dk)))
noncomputable def nu (ds:List D):R D:=jh 0 zG (ds.map .val)
noncomputable def Dz:aA->So:=(aQ (bF (aF (aW nu 3) (ak (λ ρ=>ao ρ 0) (ak (λ ρ=>ao ρ 1) (ak (λ _=> .ok (.int 1)) (λ _=> .ok []))))) (aM 2)) (aQ (dJ (jr (Oo (λ ρ=>ao ρ 2))) (retS (λ _=> .ok .non)) So.nx) (aQ (bF (bin (λ ρ=>ao ρ 2) (λ _=> .ok (.int 0)) bN) (dj (dB 3 (bC (aM 3) (bC (aM 4) (bC (aM 5) nilG)))))) (retS (dI (ak (λ ρ=>ao ρ 4) (ak (λ ρ=>ao ρ 5) (λ _=> .ok []))))))))
noncomputable def mY (ds:List D):R D:=jh 4 Dz (ds.map .val)
noncomputable def Kr:aA->So:=(retS (aF jw (ak (bU 2 [] (λ ρ=>((ak (λ ρ=>ao ρ 0) (ak (λ ρ=>ao ρ 1) (λ _=> .ok []))) ρ).bind zip2) (dj (dB 2 (bC (aM 0) (bC (aM 1) nilG)))) (λ _=> .ok true) (bin (jM (λ ρ=>ao ρ 0) (λ _=> .ok none) (λ ρ=>((λ ρ=>ao ρ 1) ρ).bind Dk)) (jM (λ ρ=>ao ρ 0) (λ ρ=>((bin (λ ρ=>ao ρ 1) (λ _=> .ok (.int 1)) cO) ρ).bind Dk) (λ _=> .ok none)) cO)) (λ _=> .ok []))))
noncomputable def oA:List D->R D:=bV 0 Kr
noncomputable def Ys:aA->R Bool:=(bZ (bin (aF bW (ak (λ ρ=>ao ρ 6) (λ _=> .ok []))) (λ ρ=>ao ρ 1) ltI))
noncomputable def tkB:aA->So:=(aQ (bF (aF (aW mY 2) (ak (aF (aW pZ 2) (ak (λ ρ=>ao ρ 4) (ak (λ ρ=>ao ρ 2) (λ _=> .ok [])))) (ak (λ ρ=>ao ρ 5) (λ _=> .ok [])))) (aM 8)) (aQ (dJ (bZ (bin (λ ρ=>ao ρ 8) (λ _=> .ok .non) isD)) (retS (λ _=> .ok .non)) So.nx) (aQ (bF (λ ρ=>ao ρ 8) (dj (dB 2 (bC (aM 9) (bC (aM 10) nilG))))) (aQ (pK 6 (dI (ak (λ ρ=>ao ρ 10) (ak (aF (aW jR 2) (ak (λ ρ=>ao ρ 4) (ak (λ ρ=>ao ρ 10) (λ _=> .ok [])))) (λ _=> .ok []))))) (aQ (NT 7 (λ ρ=>ao ρ 9)) (vW 4 5 (aF (aW oA 2) (ak (λ ρ=>ao ρ 4) (ak (λ ρ=>ao ρ 10) (λ _=> .ok [])))) (aF (aW oA 2) (ak (λ ρ=>ao ρ 5) (ak (λ ρ=>ao ρ 10) (λ _=> .ok []))))))))))
noncomputable def Uq:aA->So:=(aQ (vW 4 5 (λ ρ=>ao ρ 0) (λ ρ=>ao ρ 3)) (aQ (newL (λ _=> .ok []) 6) (aQ (bF (λ _=> .ok (.int 0)) (aM 7)) (aQ (fZ Ys tkB 64) (retS (dI (ak (λ ρ=>ao ρ 4) (ak (λ ρ=>ao ρ 6) (ak (λ ρ=>ao ρ 7) (λ _=> .ok []))))))))))
noncomputable def Dc (ds:List D):R D:=jh 7 Uq (ds.map .val)
noncomputable def Gz:aA->So:=(aQ (mC (aF (aW fJ 1) (ak (λ ρ=>ao ρ 0) (λ _=> .ok [])))) (aQ (mC (aF (aW jQ 1) (ak (λ ρ=>ao ρ 2) (λ _=> .ok [])))) (aQ (bF (aF (aW iC 2) (ak (λ ρ=>ao ρ 3) (ak (λ ρ=>ao ρ 0) (λ _=> .ok [])))) (aM 4)) (aQ (mC (fH lQ 3 0 [] (ak (λ ρ=>ao ρ 1) (ak (λ _=> .ok (.int 1)) (ak (aF bW (ak (bin (λ ρ=>ao ρ 0) (λ _=> .ok (.int 0)) bN) (λ _=> .ok []))) (λ _=> .ok [])))) (λ _=> .ok []))) (retS (aF (aW Dc 4) (ak (λ ρ=>ao ρ 0) (ak (bin (aF bW (ak (bin (λ ρ=>ao ρ 0) (λ _=> .ok (.int 0)) bN) (λ _=> .ok []))) (λ ρ=>ao ρ 1) dh) (ak (λ ρ=>ao ρ 2) (ak (λ ρ=>ao ρ 4) (λ _=> .ok [])))))))))))
noncomputable def gC:List D->R D:=bV 1 Gz
noncomputable def Ks:aA->So:=(aQ (bF (fH gC 4 0 [] (ak (λ ρ=>ao ρ 0) (ak (λ ρ=>ao ρ 1) (ak (λ ρ=>ao ρ 2) (ak (λ ρ=>ao ρ 3) (λ _=> .ok []))))) (λ _=> .ok [])) (aM 4)) (aQ (dJ (bZ (bin (λ ρ=>ao ρ 4) (λ _=> .ok .non) isD)) (retS (λ _=> .ok .non)) So.nx) (retS (bin (λ ρ=>ao ρ 4) (λ _=> .ok (.int 1)) bN))))
noncomputable def jq:List D->R D:=bV 1 Ks
noncomputable def Yt:aA->So:=(retS (bin (fH gC 4 0 [] (ak (λ ρ=>ao ρ 0) (ak (λ ρ=>ao ρ 1) (ak (λ ρ=>ao ρ 2) (ak (λ _=> .ok .non) (λ _=> .ok []))))) (λ _=> .ok [])) (λ _=> .ok (.int 2)) bN))
noncomputable def uz:List D->R D:=bV 0 Yt
noncomputable def GC:aA->So:=(aQ (bF (fH gC 4 0 [] (ak (λ ρ=>ao ρ 0) (ak (λ ρ=>ao ρ 1) (ak (λ ρ=>ao ρ 2) (ak (λ ρ=>ao ρ 3) (λ _=> .ok []))))) (λ _=> .ok [])) (aM 4)) (aQ (dJ (bZ (bin (λ ρ=>ao ρ 4) (λ _=> .ok .non) isD)) (retS (λ _=> .ok .non)) So.nx) (retS (bin (λ ρ=>ao ρ 4) (λ _=> .ok (.int 0)) bN))))
noncomputable def gD:List D->R D:=bV 1 GC
noncomputable def Ku:aA->So:=(aQ (N6 jB "SeamError" 3 (dJ (bZ (bin (λ ρ=>ao ρ 0) (λ _=> .ok (.int 0)) kJ)) (mC (fH gD 4 0 [.inr (.str "worth"),.inr .non] (ak (λ ρ=>ao ρ 1) (ak (λ ρ=>ao ρ 2) (λ _=> .ok []))) (λ _=> .ok []))) (dJ (bZ (bin (λ ρ=>ao ρ 0) (λ _=> .ok (.int 1)) kJ)) (mC (fH jq 4 0 [.inr (.str "worth"),.inr .non] (ak (λ ρ=>ao ρ 1) (ak (λ ρ=>ao ρ 2) (λ _=> .ok []))) (λ _=> .ok []))) (mC (fH uz 3 0 [.inr (.str "worth")] (ak (λ ρ=>ao ρ 1) (ak (λ ρ=>ao ρ 2) (λ _=> .ok []))) (λ _=> .ok []))))) (retS (mL (vK jB 3 "NoWidth") (MK (vK jB 3 "NoDeeds"))))) (retS (λ _=> .ok (.bl false))))
noncomputable def vM (ds:List D):R D:=jh 1 Ku (ds.map .val)
noncomputable def xR:aA->So:=(aQ (Ni 4 5 (bin (jt (ak (λ _=> .ok (.int 2)) (ak (λ _=> .ok (.int 5)) (ak (λ _=> .ok (.int 100)) (ak (λ _=> .ok (.int 10)) (λ _=> .ok [])))))) (aF (aW cD 3) (ak (λ ρ=>ao ρ 0) (ak (λ ρ=>ao ρ 1) (ak (λ _=> .ok (.int 4)) (λ _=> .ok []))))) bN) (λ _=> .ok [])) (aQ (nJ (λ ρ=>((ak (λ ρ=>ao ρ 3) (λ _=> .ok [])) ρ).bind ju) (aM 6) (pK 5 (aF jw (ak (bU 1 [1,2,4,0,6] (λ ρ=>((ak (λ ρ=>ao ρ 2) (λ _=> .ok [])) ρ).bind ju) (aM 0) (λ _=> .ok true) (aF (aW cD 3) (ak (λ ρ=>ao ρ 4) (ak (bin (bin (bin (λ ρ=>ao ρ 1) (λ _=> .ok (.int 1)) fj) (bin (λ ρ=>ao ρ 2) (λ ρ=>ao ρ 5) ig) fj) (λ ρ=>ao ρ 0) fj) (ak (λ ρ=>ao ρ 3) (λ _=> .ok [])))))) (λ _=> .ok []))))) (retS (aF jw (ak (λ ρ=>ao ρ 5) (λ _=> .ok []))))))
noncomputable def jj:List D->R D:=bV 3 xR
noncomputable def DN:aA->So:=(retS (aF (aW jj 4) (ak (λ ρ=>ao ρ 0) (ak (bin (λ ρ=>ao ρ 1) (λ _=> .ok (.int 2)) fj) (ak (bin (λ _=> .ok (.int 1)) (aF (aW cD 3) (ak (λ ρ=>ao ρ 0) (ak (λ ρ=>ao ρ 1) (ak (λ ρ=>ao ρ 2) (λ _=> .ok []))))) fj) (ak (bin (λ _=> .ok (.int 1)) (aF (aW cD 3) (ak (λ ρ=>ao ρ 0) (ak (bin (λ ρ=>ao ρ 1) (λ _=> .ok (.int 1)) fj) (ak (λ ρ=>ao ρ 3) (λ _=> .ok []))))) fj) (λ _=> .ok [])))))))
noncomputable def mZ:List D->R D:=bV 0 DN
noncomputable def Yu:aA->R Bool:=(bZ (bin (aF bW (ak (bin (λ ρ=>ao ρ 0) (λ _=> .ok (.int 0)) bN) (λ _=> .ok []))) (λ ρ=>ao ρ 1) sH))
noncomputable def Yv:aA->So:=(aQ (bF (aF (aW iV 3) (ak (λ ρ=>ao ρ 0) (ak (λ ρ=>ao ρ 2) (ak (λ ρ=>ao ρ 3) (λ _=> .ok []))))) (aM 5)) (aQ (dJ (bZ (bin (λ ρ=>ao ρ 5) (λ _=> .ok .non) isD)) (retS (λ _=> .ok .non)) So.nx) (aQ (pK 4 (dI (ak (λ ρ=>ao ρ 5) (ak (aF jw (ak (bU 2 [] (λ ρ=>((ak (λ ρ=>ao ρ 0) (ak (λ ρ=>ao ρ 5) (λ _=> .ok []))) ρ).bind zip2) (dj (dB 2 (bC (aM 0) (bC (aM 1) nilG)))) (λ _=> .ok true) (bin (λ ρ=>ao ρ 0) (λ ρ=>ao ρ 1) bN)) (λ _=> .ok []))) (λ _=> .ok []))))) (vW 0 3 (aF (aW iM 2) (ak (λ ρ=>ao ρ 0) (ak (λ ρ=>ao ρ 5) (λ _=> .ok [])))) (aF (aW iM 2) (ak (λ ρ=>ao ρ 3) (ak (λ ρ=>ao ρ 5) (λ _=> .ok []))))))))
noncomputable def Aw:aA->So:=(aQ (newL (λ _=> .ok []) 4) (aQ (fZ Yu Yv 64) (retS (dI (ak (λ ρ=>ao ρ 4) (ak (λ ρ=>ao ρ 0) (λ _=> .ok [])))))))
noncomputable def jk:List D->R D:=bV 2 Aw
noncomputable def GD:aA->So:=(retS (mL (qF dM (λ ρ=>ao ρ 0)) (mL (bin (aF bW (ak (λ ρ=>ao ρ 0) (λ _=> .ok []))) (λ ρ=>ao ρ 1) kJ) (aF pL (ak (bU 1 [] (fV (λ ρ=>ao ρ 0)) (aM 0) (λ _=> .ok true) (aF (aW lN 1) (ak (λ ρ=>ao ρ 0) (λ _=> .ok [])))) (λ _=> .ok []))))))
noncomputable def o7:List D->R D:=bV 0 GD
noncomputable def OJ:aA->So:=(aQ (dJ (tX (jr (bZ (qF dM (λ ρ=>ao ρ 0)))) (bZ (bin (aF bW (ak (λ ρ=>ao ρ 0) (λ _=> .ok []))) (λ ρ=>ao ρ 2) jJ))) (retS (λ _=> .ok (.bl false))) So.nx) (aQ (dJ (jr (bZ (aF pL (ak (bU 1 [1] (fV (λ ρ=>ao ρ 0)) (aM 0) (λ _=> .ok true) (mL (aF (aW dH 1) (ak (λ ρ=>ao ρ 0) (λ _=> .ok []))) (zq (λ _=> .ok (.int 0)) (λ ρ=>ao ρ 0) (λ ρ=>ao ρ 1) sG ltI))) (λ _=> .ok []))))) (retS (λ _=> .ok (.bl false))) So.nx) (retS (aF pL (ak (bU 1 [0] (λ ρ=>((ak (λ _=> .ok (.int 1)) (ak (λ ρ=>ao ρ 2) (λ _=> .ok []))) ρ).bind HW) (aM 0) (λ _=> .ok true) (bin (aF rN (ak (bin (bin (λ ρ=>ao ρ 1) (λ ρ=>ao ρ 0) bN) (bin (λ ρ=>ao ρ 1) (bin (λ ρ=>ao ρ 0) (λ _=> .ok (.int 1)) dh) bN) dh) (λ _=> .ok []))) (λ _=> .ok (.int 1)) sG)) (λ _=> .ok []))))))
noncomputable def uD:List D->R D:=bV 0 OJ
noncomputable def Kv:aA->So:=(aQ (dJ (tX (jr (bZ (qF dM (λ ρ=>ao ρ 0)))) (bZ (bin (aF bW (ak (λ ρ=>ao ρ 0) (λ _=> .ok []))) (λ _=> .ok (.int 2)) jJ))) (retS (λ _=> .ok (.bl false))) So.nx) (retS (mL (aF (aW uD 3) (ak (bin (λ ρ=>ao ρ 0) (λ _=> .ok (.int 0)) bN) (ak (λ ρ=>ao ρ 1) (ak (λ ρ=>ao ρ 2) (λ _=> .ok []))))) (aF (aW o7 2) (ak (bin (λ ρ=>ao ρ 0) (λ _=> .ok (.int 1)) bN) (ak (λ ρ=>ao ρ 2) (λ _=> .ok [])))))))
noncomputable def rA:List D->R D:=bV 0 Kv
noncomputable def Ax:aA->So:=(retS (aF jw (ak (bU 3 [] (λ ρ=>((ak (λ ρ=>ao ρ 0) (ak (λ ρ=>ao ρ 1) (ak (λ ρ=>ao ρ 2) (λ _=> .ok [])))) ρ).bind zV) (dj (dB 3 (bC (aM 0) (bC (aM 1) (bC (aM 2) nilG))))) (λ _=> .ok true) (bin (bin (jM (λ ρ=>ao ρ 0) (λ _=> .ok none) (λ ρ=>((λ ρ=>ao ρ 1) ρ).bind Dk)) (dI (ak (λ ρ=>ao ρ 2) (λ _=> .ok []))) cO) (jM (λ ρ=>ao ρ 0) (λ ρ=>((λ ρ=>ao ρ 1) ρ).bind Dk) (λ _=> .ok none)) cO)) (λ _=> .ok []))))
noncomputable def lU:List D->R D:=bV 0 Ax
noncomputable def rbB:aA->So:=(aQ (dJ (jr (bZ (aF (aW rA 3) (ak (λ ρ=>ao ρ 5) (ak (bin (aF bW (ak (bin (λ ρ=>ao ρ 4) (λ _=> .ok (.int 0)) bN) (λ _=> .ok []))) (λ _=> .ok (.int 1)) cO) (ak (λ ρ=>ao ρ 3) (λ _=> .ok []))))))) (λ _=> .bad) So.nx) (aQ (bF (λ ρ=>ao ρ 5) (dj (dB 2 (bC (aM 6) (bC (aM 7) nilG))))) (bF (aF (aW lU 3) (ak (λ ρ=>ao ρ 4) (ak (λ ρ=>ao ρ 6) (ak (λ ρ=>ao ρ 7) (λ _=> .ok []))))) (aM 4))))
noncomputable def Kw:aA->So:=(aQ (bF (aF (aW iQ 1) (ak (λ ρ=>ao ρ 0) (λ _=> .ok []))) (dj (dB 2 (bC (aM 2) (bC (aM 3) nilG))))) (aQ (dJ (tX (jr (bZ (qF yx (λ ρ=>ao ρ 1)))) (bZ (bin (bin (λ ρ=>ao ρ 2) (aF bW (ak (λ ρ=>ao ρ 1) (λ _=> .ok []))) cO) (λ _=> .ok (.int 20)) sH))) (λ _=> .bad) So.nx) (aQ (bF (λ ρ=>ao ρ 0) (aM 4)) (aQ (nJ (λ ρ=>((ak (λ ρ=>ao ρ 1) (λ _=> .ok [])) ρ).bind aaG) (aM 5) rbB) (retS (λ ρ=>ao ρ 4))))))
noncomputable def oE:List D->R D:=bV 6 Kw
noncomputable def lwT:aA->R Bool:=(bZ (bin (aF bW (ak (bin (λ ρ=>ao ρ 9) (λ _=> .ok (.int 0)) bN) (λ _=> .ok []))) (λ ρ=>ao ρ 4) sH))
noncomputable def lwB:aA->So:=(aQ (bF (aF (aW iV 3) (ak (λ ρ=>ao ρ 9) (ak (λ ρ=>ao ρ 3) (ak (aF (aW jY 1) (ak (λ ρ=>ao ρ 9) (λ _=> .ok []))) (λ _=> .ok []))))) (aM 11)) (vW 10 9 (bin (λ ρ=>ao ρ 10) (aF (aW gM 3) (ak (λ ρ=>ao ρ 9) (ak (λ ρ=>ao ρ 3) (ak (λ ρ=>ao ρ 11) (λ _=> .ok []))))) cO) (aF (aW iM 2) (ak (λ ρ=>ao ρ 9) (ak (λ ρ=>ao ρ 11) (λ _=> .ok []))))))
noncomputable def abH:aA->So:=(aQ (bF (aF (aW mZ 4) (ak (λ ρ=>ao ρ 0) (ak (λ _=> .ok (.int 0)) (ak (λ _=> .ok (.int 4)) (ak (λ _=> .ok (.int 3)) (λ _=> .ok [])))))) (aM 1)) (aQ (vW 2 3 (aF (aW lM 3) (ak (λ ρ=>ao ρ 0) (ak (λ _=> .ok (.int 30)) (ak (λ ρ=>ao ρ 1) (λ _=> .ok []))))) (aF (aW jP 2) (ak (λ ρ=>ao ρ 0) (ak (λ _=> .ok (.int 60)) (λ _=> .ok []))))) (aQ (bF (bin (λ _=> .ok (.int 1)) (aF (aW cD 3) (ak (λ ρ=>ao ρ 0) (ak (λ _=> .ok (.int 61)) (ak (aF bW (ak (bin (λ ρ=>ao ρ 1) (λ _=> .ok (.int 0)) bN) (λ _=> .ok []))) (λ _=> .ok []))))) cO) (aM 4)) (aQ (bF (aF (aW jk 4) (ak (λ ρ=>ao ρ 1) (ak (λ ρ=>ao ρ 4) (ak (λ ρ=>ao ρ 3) (ak (λ ρ=>ao ρ 2) (λ _=> .ok [])))))) (aM 5)) (aQ (bF (fH jq 4 2 [.inl 0,.inl 1] (ak (λ ρ=>ao ρ 1) (ak (λ ρ=>ao ρ 4) (λ _=> .ok []))) (ak (λ ρ=>ao ρ 3) (ak (λ ρ=>ao ρ 2) (λ _=> .ok [])))) (aM 6)) (aQ (bF (dI (ak (λ ρ=>ao ρ 6) (ak (fH gD 4 2 [.inl 0,.inl 1] (ak (λ ρ=>ao ρ 1) (ak (λ ρ=>ao ρ 4) (λ _=> .ok []))) (ak (λ ρ=>ao ρ 3) (ak (λ ρ=>ao ρ 2) (λ _=> .ok [])))) (λ _=> .ok [])))) (aM 6)) (aQ (dJ (bZ (bin (λ ρ=>ao ρ 6) (zu (bZ (bin (λ ρ=>ao ρ 5) (λ _=> .ok .non) isD)) (dI (ak (λ _=> .ok .non) (ak (λ _=> .ok .non) (λ _=> .ok [])))) (λ ρ=>ao ρ 5)) jJ)) (retS (λ _=> .ok (.bl false))) So.nx) (aQ (bF (aF (aW jk 4) (ak (λ ρ=>ao ρ 1) (ak (λ ρ=>ao ρ 4) (ak (λ _=> .ok (.str "worth")) (ak (aF (aW jY 1) (ak (λ ρ=>ao ρ 1) (λ _=> .ok []))) (λ _=> .ok [])))))) (dj (dB 2 (bC (aM 7) (bC (aM 8) nilG))))) (aQ (dJ (tX (bZ (bin (fH jq 4 0 [.inr (.str "worth"),.inr .non] (ak (λ ρ=>ao ρ 1) (ak (λ ρ=>ao ρ 4) (λ _=> .ok []))) (λ _=> .ok [])) (λ ρ=>ao ρ 7) jJ)) (bZ (bin (fH gD 4 0 [.inr (.str "worth"),.inr .non] (ak (λ ρ=>ao ρ 1) (ak (λ ρ=>ao ρ 4) (λ _=> .ok []))) (λ _=> .ok [])) (λ ρ=>ao ρ 8) jJ))) (retS (λ _=> .ok (.bl false))) So.nx) (aQ (dJ (bZ (bin (aF (aW oE 2) (ak (λ ρ=>ao ρ 8) (ak (λ ρ=>ao ρ 7) (λ _=> .ok [])))) (λ ρ=>ao ρ 1) jJ)) (retS (λ _=> .ok (.bl false))) So.nx) (aQ (vW 9 10 (λ ρ=>ao ρ 1) (λ _=> .ok (.int 0))) (aQ (fZ lwT lwB 64) (aQ (dJ (bZ (bin (fH uz 3 1 [.inl 0] (ak (λ ρ=>ao ρ 1) (ak (λ ρ=>ao ρ 4) (λ _=> .ok []))) (ak (λ ρ=>ao ρ 3) (λ _=> .ok []))) (λ ρ=>ao ρ 10) jJ)) (retS (λ _=> .ok (.bl false))) So.nx) (aQ (bF (bin (jt (ak (λ _=> .ok (.int 0)) (ak (bin (aF bW (ak (bin (λ ρ=>ao ρ 1) (λ _=> .ok (.int 0)) bN) (λ _=> .ok []))) (λ _=> .ok (.int 1)) cO) (ak (λ _=> .ok .non) (ak (λ _=> .ok (.bl true)) (ak (λ _=> .ok (.str "1")) (ak (pU (λ _=> .ok (.int 1))) (λ _=> .ok [])))))))) (aF (aW cD 3) (ak (λ ρ=>ao ρ 0) (ak (λ _=> .ok (.int 62)) (ak (λ _=> .ok (.int 6)) (λ _=> .ok []))))) bN) (aM 12)) (aQ (dJ (jr (bZ (bin (bU 1 [12,1] (λ ρ=>((ak (λ _=> .ok (.int 3)) (λ _=> .ok [])) ρ).bind ju) (aM 0) (jr (bZ (aF (aW vM 3) (ak (λ ρ=>ao ρ 0) (ak (λ ρ=>ao ρ 2) (ak (λ ρ=>ao ρ 1) (λ _=> .ok []))))))) (λ ρ=>ao ρ 0)) (jt (λ _=> .ok [])) kJ))) (retS (λ _=> .ok (.bl false))) So.nx) (retS (bin (fH gD 4 0 [.inr (.str "worth"),.inr .non] (ak (λ ρ=>ao ρ 1) (ak (aF bW (ak (bin (λ ρ=>ao ρ 1) (λ _=> .ok (.int 0)) bN) (λ _=> .ok []))) (λ _=> .ok []))) (λ _=> .ok [])) (λ ρ=>ao ρ 1) kJ)))))))))))))))))
noncomputable def GF (ds:List D):R D:=jh 12 abH (ds.map .val)
end zA
namespace zA
open PySem PySem.Spec L2 Pu
noncomputable def row (w:Nat) (f:Nat->Int):D:= .tup ((List.range w).map λ x=> .int (f x))
noncomputable def aY (w h:Nat) (f:Nat->Nat->Int):D:= .tup ((List.range h).map λ y=>row w (f y))
structure Ok (w h:Nat) (f:Nat->Nat->Int):Prop where
 w1:1<=w
 w2:w<=20
 h1:1<=h
 h2:h<=20
 c:∀y < h,∀x < w,0<=f y x/\f y x<=99
theorem qL {i j:Int} (h:i<=j):sG (.int i) (.int j)= .ok (.bl true):=by
 show R.ok (D.bl (decide (i<=j)))=_;rw[decide_eq_true h]
theorem GJ {ds:List D} (h1:1<=ds.length) (h2:ds.length<=20):jo [.tup ds]= .ok (.bl true):=
 bL (bx (lD rfl (w6 rfl (aR (aB rfl) rfl) (qL (by omega)) rfl (qL (by omega)))))
theorem qM {i:Int}:dH [.int i]= .ok (.bl true):=rfl
theorem GK {i:Int} (h0:0<=i) (h1:i<=99):lN [.int i]= .ok (.bl true):=by
 exact bL (bx (lD (aZ (aB rfl) qM) (w6 rfl rfl (qL h0) rfl (qL h1))))
theorem Yw {w:Nat} {f:Nat->Int} (h1:1<=w) (h2:w<=20) (hc:∀x < w,0<=f x/\f x<=99):ur [row w f]= .ok (.bl true):=by
 refine bL (bx (lD (aZ (aB rfl) (GJ (by simpa using h1) (by simpa using h2))) (aR (aB (cB (c:=λ x=> .int (f x)) (h:=λ _=> .bl true) (l:=List.range w) (gW rfl) (by rw[List.length_range];omega) λ x hx=>?_)) pQ)));obtain⟨a,b⟩:=hc x (List.mem_range.mp hx);exact cL rfl (aZ (aB rfl) (GK a b))
section
variable {w h:Nat} {f:Nat->Nat->Int}
theorem Lf (o:Ok w h f):lO [aY w h f]= .ok (.bl true):=by
 have e1:jo [aY w h f]= .ok (.bl true):=GJ (by simpa using o.h1) (by simpa using o.h2);refine bL (aJ (cj (mV (dO (aO (aZ (aB rfl) e1))) (dO (aO (aR (aB (cB (c:=λ y=>row w (f y)) (h:=λ _=> .bl true) (l:=List.range h) (gW rfl) (by rw[List.length_range];have:=o.h2;omega) λ y hy=>?_)) pQ)))) rfl) (bx (aR (aB (cB (c:=λ y=>row w (f y)) (h:=λ _=> .bl true) (l:=List.range h) (gW rfl) (by rw[List.length_range];have:=o.h2;omega) λ y hy=>?_)) pQ)))
 ·exact cL rfl (aZ (aB rfl) (Yw o.w1 o.w2 (o.c y (List.mem_range.mp hy))))
 ·refine cL rfl (au (aR (aB rfl) rfl) (aR (aB (au rfl rfl (gB (i:=0) (d:=row w (f 0)) ?_))) rfl) (Nj ?_ ?_))
  ·rw[List.getElem?_map,List.getElem?_range o.h1];rfl
  ·simp
  ·simp[dep]
theorem Ir (o:Ok w h f):fJ [aY w h f]= .ok .non:=Mw (cj (dO (aO (aZ (aB rfl) (Lf o)))) rfl)
theorem size_eq (o:Ok w h f):iQ [aY w h f]= .ok (.tup [.int w,.int h]):=by
 refine bL (aJ (tK (aZ (aB rfl) (Ir o))) (bx (cZ (aD (aR (aB (au rfl rfl (gB (i:=0) (d:=row w (f 0)) ?_))) ?_) (aB (aR (aB rfl) ?_))))))
 ·rw[List.getElem?_map,List.getElem?_range o.h1];rfl
 ·simp[row,bW]
 ·simp[aY,bW]
theorem Yx (o:Ok w h f):uw [aY w h f]= .ok (aY h w λ y x=>f x y):=by
 refine bL (aJ (aX (aZ (aB rfl) (size_eq o)) rfl) (bx (aR (aB (cB (c:=λ (x:Nat)=> .int (x:Int)) (h:=λ x=>row h λ y=>f y x) (l:=List.range w) (jL (aB rfl) (by have:=o.w2;omega)) (by rw[List.length_range];have:=o.w2;omega) λ x hx=>?_)) rfl)));refine cL rfl (aR (aB (cB (c:=λ (y:Nat)=> .int (y:Int)) (h:=λ y=> .int (f y x)) (l:=List.range h) (jL (aB rfl) (by have:=o.h2;omega)) (by rw[List.length_range];have:=o.h2;omega) λ y hy=>?_)) rfl);refine cL rfl (au (au rfl rfl (gB (i:=y) (d:=row w (f y)) ?_)) rfl (gB (i:=x) ?_))
 ·rw[List.getElem?_map,List.getElem?_range (List.mem_range.mp hy)];rfl
 ·rw[List.getElem?_map,List.getElem?_range (List.mem_range.mp hx)];rfl
end
noncomputable def aaV:aA->So:=(pK 5 (aF jw (ak (bU 1 [1,2,4,0,6] (λ ρ=>((ak (λ ρ=>ao ρ 2) (λ _=> .ok [])) ρ).bind ju) (aM 0) (λ _=> .ok true) (aF (aW cD 3) (ak (λ ρ=>ao ρ 4) (ak (bin (bin (bin (λ ρ=>ao ρ 1) (λ _=> .ok (.int 1)) fj) (bin (λ ρ=>ao ρ 2) (λ ρ=>ao ρ 5) ig) fj) (λ ρ=>ao ρ 0) fj) (ak (λ ρ=>ao ρ 3) (λ _=> .ok [])))))) (λ _=> .ok []))))
section
variable {ns:List Int} {a m:Int} {w h:Nat}
noncomputable def vA (d:D):Option Ent:=some (.val d)
theorem aea (hns:ns.length<=1000000) (ha:0<=a) (hm:0 < m) (hw:w<=20) {acc:List D} {y:Nat} {tl:Option Ent} (hl:acc.length < 1000000):
  aaV [vA (.lst (ns.map .int)),vA (.int a),vA (.int (w:Int)),tl,vA (.int m),some (.lst acc),vA (.int (y:Int))] =
   .nx [vA (.lst (ns.map .int)),vA (.int a),vA (.int (w:Int)),tl,vA (.int m),some (.lst (acc++[row w λ x=>dr ns (a+1+(w:Int)*(y:Int)+(x:Int)) m])),vA (.int (y:Int))]:=by
 have e:aF jw (ak (bU 1 [1,2,4,0,6] (λ ρ=>((ak (λ ρ=>ao ρ 2) (λ _=> .ok [])) ρ).bind ju) (aM 0) (λ _=> .ok true) (aF (aW cD 3) (ak (λ ρ=>ao ρ 4) (ak (bin (bin (bin (λ ρ=>ao ρ 1) (λ _=> .ok (.int 1)) fj) (bin (λ ρ=>ao ρ 2) (λ ρ=>ao ρ 5) ig) fj) (λ ρ=>ao ρ 0) fj) (ak (λ ρ=>ao ρ 3) (λ _=> .ok [])))))) (λ _=> .ok []))
   [vA (.lst (ns.map .int)),vA (.int a),vA (.int (w:Int)),tl,vA (.int m),some (.lst acc),vA (.int (y:Int))]= .ok (row w λ x=>dr ns (a+1+(w:Int)*(y:Int)+(x:Int)) m):=by
  refine aR (aB (cB (c:=λ (x:Nat)=>D.int (x:Int)) (h:=λ (x:Nat)=>D.int (dr ns (a+1+(w:Int)*(y:Int)+(x:Int)) m)) (l:=List.range w) (jL (aB rfl) (by omega)) (by rw[List.length_range];omega) λ x hx=>?_)) rfl;refine cL rfl (aZ (aD rfl (aD (au (au (au rfl rfl rfl) (au rfl rfl (mW (.inl ⟨by omega,by omega⟩))) rfl) rfl rfl) (aB rfl))) ?_);have hp:(0:Int)<=(w:Int)*(y:Int):=Int.mul_nonneg (by omega) (by omega);exact (qH hns (by omega) hm).1
 unfold aaV pK;rw[e];show (if acc.length < 1000000 then So.nx _ else .bad)=_;rw[if_pos hl];rfl
theorem O5 (hns:ns.length<=1000000) (ha:0<=a) (hm:0 < m) (hw:w<=20) {tl:Option Ent}:∀{ys:List Nat} {acc:List D} {x:Option Ent},acc.length+ys.length<=1000000->
  ∃ x',forL (aM 6) aaV (ys.map λ (y:Nat)=>D.int (y:Int)) [vA (.lst (ns.map .int)),vA (.int a),vA (.int (w:Int)),tl,vA (.int m),some (.lst acc),x] =
   .nx [vA (.lst (ns.map .int)),vA (.int a),vA (.int (w:Int)),tl,vA (.int m),some (.lst (acc++ys.map λ (y:Nat)=>row w λ x=>dr ns (a+1+(w:Int)*(y:Int)+(x:Int)) m)),x']
 |[],acc,x,_=>⟨x,by rw[List.map_nil,List.map_nil,List.append_nil];rfl⟩
 | y::ys,acc,x,hl=>by
  rw[List.length_cons] at hl;obtain⟨x',e⟩:=O5 hns ha hm hw (tl:=tl) (ys:=ys) (acc:=acc++[row w λ x=>dr ns (a+1+(w:Int)*(y:Int)+(x:Int)) m]) (x:=vA (.int (y:Int))) (by rw[List.length_append];simp only[List.length_cons,List.length_nil];omega);refine⟨x',?_⟩;rw[List.append_assoc] at e;rw[List.map_cons,List.map_cons];exact fW rfl (aea hns ha hm hw (by omega)) e
theorem Vw (hns:ns.length<=1000000) (ha:0<=a) (hw:w<=20) (hw1:1<=w) (hh:h<=20) (hh1:1<=h):∃f,jj [.lst (ns.map .int),.int a,.int (w:Int),.int (h:Int)]= .ok (aY w h f)/\Ok w h f:=by
 obtain⟨e1,h0,h4⟩:=qH (k:=a) (m:=4) hns ha (by omega);obtain⟨d,hd,ed⟩:=CJ (xs:=[D.int 2,.int 5,.int 100,.int 10]) h0 h4;have hm:∃m,d= .int m/\0 < m/\m<=100:=by
  simp only[List.mem_cons,List.not_mem_nil,or_false] at hd;rcases hd with rfl |rfl |rfl |rfl
  ·exact⟨_,rfl,by omega,by omega⟩
  ·exact⟨_,rfl,by omega,by omega⟩
  ·exact⟨_,rfl,by omega,by omega⟩
  ·exact⟨_,rfl,by omega,by omega⟩
 obtain⟨m,rfl,hm0,hm1⟩:=hm;obtain⟨x',er⟩:=O5 hns ha hm0 hw (tl:=vA (.int (h:Int))) (ys:=List.range h) (acc:=[]) (x:=none) (by rw[List.length_range,List.length_nil];omega);refine⟨λ y x=>dr ns (a+1+(w:Int)*(y:Int)+(x:Int)) m,bL (aJ (ρ':=[vA (.lst (ns.map .int)),vA (.int a),vA (.int (w:Int)),vA (.int (h:Int)),vA (.int m),some (.lst []),none]) ?_ (aJ (lE (jL (m:=h) (aB rfl) (by omega)) er) (bx (aR (aB (x:= .lst ((List.range h).map λ (y:Nat)=>row w λ x=>dr ns (a+1+(w:Int)*(y:Int)+(x:Int)) m)) rfl) rfl)))),hw1,hw,hh1,hh,λ y hy x hx=>?_⟩
 ·exact ab2 (au (x:= .lst [D.int 2,.int 5,.int 100,.int 10]) (y:= .int (dr ns a 4)) (gq rfl) (aZ (aD rfl (aD rfl (aB rfl))) e1) (xg ed)) rfl
 ·have hp:(0:Int)<=(w:Int)*(y:Int):=Int.mul_nonneg (by omega) (by omega);have:=(qH (k:=a+1+(w:Int)*(y:Int)+(x:Int)) (m:=m) hns (by omega) hm0).2;show 0<=dr _ _ _/\dr _ _ _<=99;omega
end
section
variable {w h:Nat} {f g:Nat->Nat->Int}
theorem Fb {α β:Type} {p q:α->β} {l:List α} (e:∀a∈l,p a=q a):l.map p=l.map q:=List.map_congr_left e
theorem Yy (e:∀y < h,∀x < w,f y x=g y x):aY w h f=aY w h g:=by
 unfold aY row;exact congrArg D.tup (Fb λ y hy=>congrArg D.tup (Fb λ x hx=>congrArg D.int (e y (List.mem_range.mp hy) x (List.mem_range.mp hx))))
theorem Iu:dep (aY w h f)<=40:=by
 unfold aY;rw[dep];have:=tH (c:=λ y=>row w (f y)) (n:=1) (l:=List.range h) (λ y _=>by
  unfold row;rw[dep];have:=tH (c:=λ x=>D.int (f y x)) (n:=0) (l:=List.range w) (λ x _=>by simp[dep]);omega)
 omega
end
structure lV (w h:Nat) (s:Nat->Nat):Prop where
 lt:∀y < h,s y < w
 st:∀y,y+1 < h->s (y+1)<=s y+1/\s y<=s (y+1)+1
noncomputable abbrev sm (h:Nat) (s:Nat->Nat):D:=row h λ y=>((s y:Nat):Int)
section
variable {ρ:aA} {fa:aA->R (List D)} {α:Type} {l:List α} {p q r:α->D} {x y z:D}
theorem acz {m:Nat} (e:fa ρ= .ok [.int 1,.int (m:Int)]) (h:m < 2 ^ 62):(λ ρ=>(fa ρ).bind HW) ρ= .ok ((List.range (m - 1)).map λ (i:Nat)=>D.int ((i+1:Nat):Int)):=by
 show (fa ρ).bind HW=_;rw[e,R.bh,HW,if_pos ⟨by omega,by omega,by omega,by omega⟩];unfold upto;rw[show ((m:Int) - 1).toNat=m - 1 by omega];refine congrArg R.ok (Fb λ i _=>?_);rw[show (1:Int)+(i:Int)=((i+1:Nat):Int) by omega]
theorem xT (e:fa ρ= .ok [x,y]) (h1:dD x= .ok (l.map p)) (h2:dD y= .ok (l.map q)):(λ ρ=>(fa ρ).bind zip2) ρ= .ok (l.map λ a=> .tup [p a,q a]):=by
 show (fa ρ).bind zip2=_;rw[e,R.bh,zip2,h1,R.bh,h2,R.bh,Ie,List.zip_map',List.map_map];rfl
theorem acA (e:fa ρ= .ok [x,y,z]) (h1:dD x= .ok (l.map p)) (h2:dD y= .ok (l.map q)) (h3:dD z= .ok (l.map r)):(λ ρ=>(fa ρ).bind zV) ρ= .ok (l.map λ a=> .tup [p a,q a,r a]):=by
 show (fa ρ).bind zV=_;rw[e,R.bh,zV,h1,R.bh,h2,R.bh,h3,R.bh,CP,List.zip_map',List.zip_map',List.map_map];rfl
theorem aeb {i j:Int}:sG (.int i) (.int j)= .ok (.bl (decide (i<=j))):=rfl
theorem abI {i j:Int} (h:i < j):ltI (.int i) (.int j)= .ok (.bl true):=by
 show R.ok (D.bl (decide (i < j)))=_;rw[decide_eq_true h]
theorem Df {i j:Int} (h:i=j):jJ (.int i) (.int j)= .ok (.bl false):=lC (by rw[h]) (by simp[dep])
theorem acB {i j:Int}:kJ (.int i) (.int j)= .ok (.bl (decide (i=j))):=by
 rw[kJ,if_pos (by simp[dep])];show R.ok (D.bl (fK (.int i) (.int j)))=_;by_cases h:i=j <;> simp[lg,lq,lu,lA,lB,gk,eF,h]
theorem Yz {n d k:Nat}:HT.sIx n d (some (k:Int))=min k n:=by
 show (if (k:Int) < 0 then ((k:Int)+(n:Int)).toNat else min (k:Int).toNat n)=min k n;rw[if_neg (by omega),Int.toNat_natCast]
theorem Ay {n d:Nat}:HT.sIx n d none=d:=rfl
theorem acC {ds:List D} {n:Nat} (h:n<=ds.length):jz ds none (some (n:Int))=ds.take n:=by
 rw[jz,Yz,Ay,Nat.min_eq_left h,Nat.sub_zero];rfl
theorem YB {ds:List D} {n:Nat} (h:n<=ds.length):jz ds (some (n:Int)) none=ds.drop n:=by
 rw[jz,Yz,Ay,Nat.min_eq_left h,List.take_of_length_le (by rw[List.length_drop];exact Nat.le_refl _)]
theorem Ur {f:aA->R D} {fu:aA->R (Option Int)} {ds:List D} {n:Nat} (e1:f ρ= .ok (.tup ds)) (e2:fu ρ= .ok (some (n:Int))) (h:n<=ds.length):jM f (λ _=> .ok none) fu ρ= .ok (.tup (ds.take n)):=by
 rw[jM,e1,R.bh,R.bh,e2,R.bh,Np,acC h]
theorem Ky {f:aA->R D} {fl:aA->R (Option Int)} {ds:List D} {n:Nat} (e1:f ρ= .ok (.tup ds)) (e2:fl ρ= .ok (some (n:Int))) (h:n<=ds.length):jM f fl (λ _=> .ok none) ρ= .ok (.tup (ds.drop n)):=by
 rw[jM,e1,R.bh,e2,R.bh,R.bh,Np,YB h]
theorem tO {xs ys:List D} (h:xs.length+ys.length<=1000000):cO (.tup xs) (.tup ys)= .ok (.tup (xs++ys)):=by
 rw[cO,if_pos h]
theorem acD {xs ys:List D} (h:xs.length+ys.length<=1000000):cO (.lst xs) (.lst ys)= .ok (.lst (xs++ys)):=by
 rw[cO,if_pos h]
end
section
variable {w h:Nat} {g:Nat->Int} {n:Nat} {c:Int}
theorem O6 (hn:n < w):((List.range w).map λ x=>D.int (g x)).take n++((List.range w).map λ x=>D.int (g x)).drop (n+1)=(List.range (w - 1)).map λ x=>D.int (if x < n then g x else g (x+1)):=by
 refine List.ext_getElem (by simp;omega) λ i h1 h2=>?_;rw[List.getElem_append];by_cases hi:i < n
 ·rw[dif_pos (by simp;omega)];simp[hi]
 ·rw[dif_neg (by simp;omega)];have e:n+1+(i - min n w)=i+1:=by omega
  simp[hi,e]
theorem row_more (hn:n<=w):(((List.range w).map λ x=>D.int (g x)).take n++[D.int c])++((List.range w).map λ x=>D.int (g x)).drop n=(List.range (w+1)).map λ x=>D.int (if x < n then g x else if x=n then c else g (x - 1)):=by
 refine List.ext_getElem (by simp;omega) λ i h1 h2=>?_;rw[List.getElem_append];by_cases hi:i < n+1
 ·rw[dif_pos (by simp;omega),List.getElem_append];by_cases hj:i < n
  ·rw[dif_pos (by simp;omega)];simp[hj]
  ·rw[dif_neg (by simp;omega)];have:i=n:=by omega
   simp[this]
 ·rw[dif_neg (by simp;omega)];have e:n+(i - (min n w+1))=i - 1:=by omega
  have e1:¬i < n:=by omega
  have e2:¬i=n:=by omega
  simp[e,e1,e2]
end
section
variable {w h:Nat} {f:Nat->Nat->Int} {s:Nat->Nat}
theorem YC (q:lV w h s) (m7:h<=20):uD [sm h s,.int (w:Int),.int (h:Int)]= .ok (.bl true):=by
 refine bL (aJ (cj (mV (dO (aO (b:=true) rfl)) (aO (au (aR (aB rfl) rfl) rfl (Df ?_)))) rfl)
  (aJ (cj (dO (aO (aR (aB (cB (c:=λ y=> .int ((s y:Nat):Int)) (h:=λ _=> .bl true) (l:=List.range h) (gW rfl) (by rw[List.length_range];omega) λ y hy=>?_)) pQ))) rfl)
  (bx (aR (aB (cB (c:=λ y=> .int ((y+1:Nat):Int)) (h:=λ _=> .bl true) (l:=List.range (h - 1)) (acz (aD rfl (aB rfl)) (by omega)) (by rw[List.length_range];omega) λ y hy=>?_)) pQ))))
 ·simp
 ·have:=q.lt y (List.mem_range.mp hy);exact cL rfl (lD (aZ (aB rfl) qM) (w6 rfl rfl (qL (by omega)) rfl (abI (by omega))))
 ·have hy:y < h - 1:=List.mem_range.mp hy;obtain⟨h1,h2⟩:=q.st y (by omega);refine cL rfl (au (aR (aB (au (x:= .int ((s (y+1):Nat):Int)) (y:= .int ((s y:Nat):Int)) (au rfl rfl (gB (i:=y+1) ?_)) (au rfl (au (x:= .int ((y+1:Nat):Int)) (y:= .int 1) rfl rfl ?_) (gB (i:=y) ?_)) rfl)) rfl) rfl (qL ?_))
  ·rw[List.getElem?_map,List.getElem?_range (by omega)];rfl
  ·show R.ok (D.int (((y+1:Nat):Int) - 1))=_;rw[show ((y+1:Nat):Int) - 1=(y:Int) by omega]
  ·rw[List.getElem?_map,List.getElem?_range (by omega)];rfl
  ·split <;> omega
theorem len0 (o:Ok w h f) {ρ:aA} {u:aA->R D} (e:u ρ= .ok (aY w h f)):aF bW (ak (bin u (λ _=> .ok (.int 0)) bN) (λ _=> .ok [])) ρ= .ok (.int (w:Int)):=by
 refine aR (aB (au e rfl (gB (i:=0) (d:=row w (f 0)) ?_))) ?_
 ·rw[List.getElem?_map,List.getElem?_range o.h1];rfl
 ·simp[row,bW]
theorem Iv (q:lV w h s) (m7:h<=20):jR [aY w h f,sm h s]= .ok (row h λ y=>f y (s y)):=by
 refine bL (bx (aR (aB (cB (c:=λ y=> .tup [row w (f y),.int ((s y:Nat):Int)]) (h:=λ y=> .int (f y (s y))) (l:=List.range h) (xT (aD rfl (aB rfl)) rfl rfl) (by rw[List.length_range];omega) λ y hy=>?_)) rfl));refine cL rfl (au rfl rfl (gB (i:=s y) ?_));rw[List.getElem?_map,List.getElem?_range (q.lt y (List.mem_range.mp hy))];rfl
noncomputable def less (s:Nat->Nat) (f:Nat->Nat->Int):Nat->Nat->Int:=λ y x=>if x < s y then f y x else f y (x+1)
noncomputable def more (s:Nat->Nat) (c:Nat->Int) (f:Nat->Nat->Int):Nat->Nat->Int:=λ y x=>if x < s y then f y x else if x=s y then c y else f y (x - 1)
theorem GQ (q:lV w h s) (m7:h<=20) (w20:w<=20):oA [aY w h f,sm h s]= .ok (aY (w - 1) h (less s f)):=by
 refine bL (bx (aR (aB (cB (c:=λ y=> .tup [row w (f y),.int ((s y:Nat):Int)]) (h:=λ y=>row (w - 1) (less s f y)) (l:=List.range h) (xT (aD rfl (aB rfl)) rfl rfl) (by rw[List.length_range];omega) λ y hy=>?_)) rfl));have hs:=q.lt y (List.mem_range.mp hy);refine cL rfl (au (Ur (n:=s y) rfl rfl (by simp;omega)) (Ky (n:=s y+1) rfl rfl (by simp;omega)) ((tO (by simp;omega)).trans ?_));rw[O6 hs];rfl
theorem RB {c:Nat->Int} (m7:h<=20) (hc:∀y < h,0<=c y/\c y<=99):o7 [row h c,.int (h:Int)]= .ok (.bl true):=by
 refine bL (bx (lD rfl (lD (au (aR (aB rfl) rfl) rfl (acB.trans ?_)) (aR (aB (cB (c:=λ y=> .int (c y)) (h:=λ _=> .bl true) (l:=List.range h) (gW rfl) (by rw[List.length_range];omega) λ y hy=>?_)) pQ))))
 ·rw[decide_eq_true (by simp)]
 ·obtain⟨a,b⟩:=hc y (List.mem_range.mp hy);exact cL rfl (aZ (aB rfl) (GK a b))
theorem Lg {c:Nat->Int} {u v:D} (q:∀y < h,s y<=w) (m7:h<=20) (w20:w<=20) (hu:dD u= .ok ((List.range h).map λ y=> .int ((s y:Nat):Int))) (hv:dD v= .ok ((List.range h).map λ y=> .int (c y))):
  lU [aY w h f,u,v]= .ok (aY (w+1) h (more s c f)):=by
 refine bL (bx (aR (aB (cB (c:=λ y=> .tup [row w (f y),.int ((s y:Nat):Int),.int (c y)]) (h:=λ y=>row (w+1) (more s c f y)) (l:=List.range h) (acA (aD rfl (aD rfl (aB rfl))) rfl hu hv) (by rw[List.length_range];omega) λ y hy=>?_)) rfl));have hs:=q y (List.mem_range.mp hy);refine cL rfl (au (au (Ur (n:=s y) rfl rfl (by simp;omega)) (cZ (aB rfl)) (tO (by simp;omega))) (Ky (n:=s y) rfl rfl (by simp;omega)) ((tO (by simp;omega)).trans ?_));rw[row_more hs];rfl
end
theorem jZ {ρ:aA} {fa:aA->R (List D)} {ds:List D} {i:Nat} (e:fa ρ= .ok ds) (h:ds.length<=1000000:=by exact Nat.le_of_ble_eq_true rfl):newL fa i ρ= .nx (ρ.set i (some (.lst ds))):=by
 unfold newL;rw[e];show (if _ then _ else _)=_;rw[if_pos h]
noncomputable def pl (ps:List Nat):List D:=ps.map λ p=> .int ((p:Nat):Int)
section
variable {ns:List Int} {a:Int} {w h:Nat} {t:Option Ent}
end
section
variable {w h:Nat} {f:Nat->Nat->Int}
end
section
variable {w h:Nat} {f:Nat->Nat->Int} {s:Nat->Nat} {c:Nat->Int}
theorem Ok.less (o:Ok w h f) (h1:1 < w):Ok (w - 1) h (less s f):=by
 refine⟨by omega,by have:=o.w2;omega,o.h1,o.h2,λ y hy x hx=>?_⟩;unfold zA.less;split
 ·exact o.c y hy x (by omega)
 ·exact o.c y hy (x+1) (by omega)
theorem Ok.more (o:Ok w h f) (h1:w < 20) (q:∀y < h,s y<=w) (hc:∀y < h,0<=c y/\c y<=99):Ok (w+1) h (more s c f):=by
 refine⟨by omega,by omega,o.h1,o.h2,λ y hy x hx=>?_⟩;have:=q y hy;unfold zA.more;split
 ·exact o.c y hy x (by omega)
 ·split
  ·exact hc y hy
  ·exact o.c y hy (x - 1) (by omega)
end
noncomputable def ab (i:Int):Int:=if i < 0 then -i else i
noncomputable def gap (n:Nat) (g:Nat->Int) (x:Nat):Int:=ab (g (x - 1) - g (min (x+1) (n - 1)))
noncomputable def O7 (w h:Nat) (f:Nat->Nat->Int) (y x:Nat):Int:=gap w (f y) x+gap h (λ y=>f y x) y
section
variable {n w h:Nat} {g:Nat->Int} {f:Nat->Nat->Int} {s:Nat->Nat} {ρ:aA}
theorem p8:bW [row n g]= .ok (.int (n:Int)):=by simp[row,bW]
theorem qb:bW [aY w h f]= .ok (.int (h:Int)):=by simp[aY,bW]
theorem Az {n:Nat} (h1:1<=n):dh (.int (n:Int)) (.int 1)= .ok (.int ((n - 1:Nat):Int)):=by
 show R.ok (D.int ((n:Int) - 1))=_;rw[show (n:Int) - 1=((n - 1:Nat):Int) by omega]
theorem Vx {x:Nat}:maxD [.int ((x:Int) - 1),.int 0]= .ok (.int ((x - 1:Nat):Int)):=by
 show R.ok (D.int (if (0:Int) > (x:Int) - 1 then 0 else (x:Int) - 1))=_;congr 2;split <;> omega
theorem min1 {x n:Nat}:minD [.int ((x+1:Nat):Int),.int (n:Int)]= .ok (.int ((min (x+1) n:Nat):Int)):=by
 show R.ok (D.int (if (n:Int) < ((x+1:Nat):Int) then (n:Int) else ((x+1:Nat):Int)))=_;congr 2;split <;> omega
theorem jT {x:Nat} (hx:x < n):bN (row n g) (.int (x:Int))= .ok (.int (g x)):=by
 refine gB (i:=x) ?_;rw[List.getElem?_map,List.getElem?_range hx];rfl
theorem rC {y:Nat} (hy:y < h):bN (aY w h f) (.int (y:Int))= .ok (row w (f y)):=by
 refine gB (i:=y) ?_;rw[List.getElem?_map,List.getElem?_range hy];rfl
theorem o8 {α:Type} {p:Nat->D} {x:Nat} (hx:x < n):bN (.lst ((List.range n).map p)) (.int (x:Int))= .ok (p x):=by
 refine Nk (i:=x) ?_;rw[List.getElem?_map,List.getElem?_range hx];rfl
theorem Iw (h1:1<=n) (m7:n<=20):rm [row n g]= .ok (.lst ((List.range n).map λ x=> .int (gap n g x))):=by
 refine bL (aJ (aX (au (aR (aB rfl) p8) rfl (Az h1)) rfl) (bx (cB (c:=λ (x:Nat)=>D.int (x:Int)) (h:=λ x=> .int (gap n g x)) (l:=List.range n) (jL (aB (aR (aB rfl) p8)) (by omega)) (by rw[List.length_range];omega) λ x hx=>?_)));have hx:=List.mem_range.mp hx;exact cL rfl (aR (aB (au (x:= .int (g (x - 1))) (y:= .int (g (min (x+1) (n - 1)))) (au rfl (aR (aD (au rfl rfl rfl) (aB rfl)) Vx) (jT (by omega))) (au rfl (aR (aD (x:= .int ((x+1:Nat):Int)) (au rfl rfl rfl) (aB rfl)) min1) (jT (by omega))) rfl)) rfl)
theorem YD (o:Ok w h f):ux [aY w h f]= .ok (aY w h (O7 w h f)):=by
 have m7:=o.h2;have w20:=o.w2;refine bL (aJ (aX (aZ (aB rfl) (size_eq o)) rfl)
  (aJ (aX (cB (c:=λ y=>row w (f y)) (h:=λ y=> .lst ((List.range w).map λ x=> .int (gap w (f y) x))) (l:=List.range h) (gW rfl) (by rw[List.length_range];omega) λ y hy=>cL rfl (aZ (aB rfl) (Iw o.w1 o.w2))) rfl)
  (aJ (aX (cB (c:=λ x=>row h λ y=>f y x) (h:=λ x=> .lst ((List.range h).map λ y=> .int (gap h (λ y=>f y x) y))) (l:=List.range w) (gW (aZ (aB rfl) (Yx o))) (by rw[List.length_range];omega) λ y hy=>cL rfl (aZ (aB rfl) (Iw o.h1 o.h2))) rfl)
  (bx (aR (aB (cB (c:=λ (y:Nat)=>D.int (y:Int)) (h:=λ y=>row w (O7 w h f y)) (l:=List.range h) (jL (aB rfl) (by omega)) (by rw[List.length_range];omega) λ y hy=>?_)) rfl)))))
 have hy:=List.mem_range.mp hy;refine cL rfl (aR (aB (cB (c:=λ (x:Nat)=>D.int (x:Int)) (h:=λ x=> .int (O7 w h f y x)) (l:=List.range w) (jL (aB rfl) (by omega)) (by rw[List.length_range];omega) λ x hx=>?_)) rfl);have hx:=List.mem_range.mp hx;exact cL rfl (au (x:= .int (gap w (f y) x)) (y:= .int (gap h (λ y=>f y x) y)) (au (au rfl rfl (o8 (α:=D) hy)) rfl (o8 (α:=D) hx)) (au (au rfl rfl (o8 (α:=D) hx)) rfl (o8 (α:=D) hy)) rfl)
noncomputable def fM (T:Nat->Int):D:= .tup [.int (T 0),.int (T 1),.int (T 2)]
noncomputable def tab (w h:Nat) (T:Nat->Nat->Nat->Int):D:= .lst ((List.range h).map λ y=> .lst ((List.range w).map λ x=>fM (T y x)))
noncomputable def lW (w:Nat) (f:Nat->Nat->Int) (y x i:Nat):Int:=gap w (f y) x+(if i=0 then ab (f (y - 1) x - f y (x - 1)) else if i=1 then 0 else ab (f (y - 1) x - f y (min (x+1) (w - 1))))
noncomputable def abJ:aA->So:=(aQ (bF (bin (λ ρ=>ao ρ 7) (aF rN (ak (bin (bin (λ ρ=>ao ρ 3) (λ ρ=>ao ρ 6) bN) (bin (λ ρ=>ao ρ 2) (aF maxD (ak (bin (λ ρ=>ao ρ 6) (λ _=> .ok (.int 1)) dh) (ak (λ _=> .ok (.int 0)) (λ _=> .ok [])))) bN) dh) (λ _=> .ok []))) cO) (aM 8)) (aQ (bF (bin (λ ρ=>ao ρ 7) (aF rN (ak (bin (bin (λ ρ=>ao ρ 3) (λ ρ=>ao ρ 6) bN) (bin (λ ρ=>ao ρ 2) (aF minD (ak (bin (λ ρ=>ao ρ 6) (λ _=> .ok (.int 1)) cO) (ak (λ ρ=>ao ρ 4) (λ _=> .ok [])))) bN) dh) (λ _=> .ok []))) cO) (aM 9)) (pK 5 (dI (ak (λ ρ=>ao ρ 8) (ak (λ ρ=>ao ρ 7) (ak (λ ρ=>ao ρ 9) (λ _=> .ok []))))))))
theorem Ba {i:Nat} {u:aA->R D} {d:D} {ds:List D} (e:u ρ= .ok d) (h:ρ[i]?=some (some (.lst ds))) (hl:ds.length < 1000000):pK i u ρ= .nx (ρ.set i (some (.lst (ds++[d])))):=by
 unfold pK;rw[e];simp only[FN,kI,h];rw[if_pos hl]
theorem aaW (h1:1<=w) {y x:Nat} (hx:x < w) {e0 e1 e8 e9:Option Ent} {acc:List D} (hl:acc.length < 1000000):
  ∃ z8 z9,abJ [e0,e1,vA (row w (f y)),vA (row w (f (y - 1))),vA (.int ((w - 1:Nat):Int)),some (.lst acc),vA (.int (x:Int)),vA (.int (gap w (f y) x)),e8,e9] =
   .nx [e0,e1,vA (row w (f y)),vA (row w (f (y - 1))),vA (.int ((w - 1:Nat):Int)),some (.lst (acc++[fM (lW w f y x)])),vA (.int (x:Int)),vA (.int (gap w (f y) x)),z8,z9]:=by
 refine⟨_,_,aJ (aX (d:= .int (lW w f y x 0)) (au (x:= .int (gap w (f y) x)) (y:= .int (ab (f (y - 1) x - f y (x - 1)))) rfl (aR (aB (au (x:= .int (f (y - 1) x)) (y:= .int (f y (x - 1))) (au rfl rfl (jT hx)) (au rfl (aR (aD (au rfl rfl rfl) (aB rfl)) Vx) (jT (by omega))) rfl)) rfl) rfl) rfl)
  (aJ (aX (d:= .int (lW w f y x 2)) (au (x:= .int (gap w (f y) x)) (y:= .int (ab (f (y - 1) x - f y (min (x+1) (w - 1))))) rfl (aR (aB (au (x:= .int (f (y - 1) x)) (y:= .int (f y (min (x+1) (w - 1)))) (au rfl rfl (jT hx)) (au rfl (aR (aD (x:= .int ((x+1:Nat):Int)) (au rfl rfl rfl) (aB rfl)) min1) (jT (by omega))) rfl)) rfl) rfl) rfl)
  (Ba (d:=fM (lW w f y x)) ((cZ (aD rfl (aD rfl (aB rfl)))).trans ?_) rfl hl))⟩
 have:lW w f y x 1=gap w (f y) x:=by simp[lW]
 rw[fM,this]
theorem join_loop (h1:1<=w) {y:Nat} {e0 e1:Option Ent}:∀{xs:List Nat} {acc:List D} {e6 e7 e8 e9:Option Ent},(∀x∈xs,x < w)->acc.length+xs.length<=1000->
  ∃ z6 z7 z8 z9,forL (dj (dB 2 (bC (aM 6) (bC (aM 7) nilG)))) abJ (xs.map λ (x:Nat)=>D.tup [.int (x:Int),.int (gap w (f y) x)]) [e0,e1,vA (row w (f y)),vA (row w (f (y - 1))),vA (.int ((w - 1:Nat):Int)),some (.lst acc),e6,e7,e8,e9] =
   .nx [e0,e1,vA (row w (f y)),vA (row w (f (y - 1))),vA (.int ((w - 1:Nat):Int)),some (.lst (acc++xs.map λ x=>fM (lW w f y x))),z6,z7,z8,z9]
 |[],acc,e6,e7,e8,e9,_,_=>⟨e6,e7,e8,e9,by rw[List.map_nil,List.map_nil,List.append_nil];rfl⟩
 | x::xs,acc,e6,e7,e8,e9,hx,hl=>by
  rw[List.length_cons] at hl;obtain⟨z8,z9,e⟩:=aaW (f:=f) (y:=y) h1 (hx x (by simp)) (e0:=e0) (e1:=e1) (e8:=e8) (e9:=e9) (acc:=acc) (by omega);obtain⟨y6,y7,y8,y9,e'⟩:=join_loop h1 (y:=y) (e0:=e0) (e1:=e1) (xs:=xs) (acc:=acc++[fM (lW w f y x)]) (e6:=vA (.int (x:Int))) (e7:=vA (.int (gap w (f y) x))) (e8:=z8) (e9:=z9) (λ z hz=>hx z (by simp[hz])) (by simp;omega);refine⟨y6,y7,y8,y9,?_⟩;rw[List.append_assoc] at e';rw[List.map_cons,List.map_cons];exact fW rfl e e'
theorem Kz {p:Nat->D}:∀{n m:Nat},oU m ((List.range' m n).map p)=(List.range' m n).map λ (x:Nat)=>D.tup [.int (x:Int),p x]
 |0,_=>rfl
 |n+1,m=>by rw[List.range'_succ,List.map_cons,List.map_cons,oU,Kz]
theorem tQ {fa:aA->R (List D)} {x:D} {n:Nat} {p:Nat->D} (e:fa ρ= .ok [x]) (h:dD x= .ok ((List.range n).map p)):(λ ρ=>(fa ρ).bind oV) ρ= .ok ((List.range n).map λ (y:Nat)=>D.tup [.int (y:Int),p y]):=by
 show (fa ρ).bind oV=_;rw[e,R.bh,oV,h,R.bh,List.range_eq_range',Kz]
theorem Lh (o:Ok w h f) {y:Nat} (hy:y < h):lR [aY w h f,.int (y:Int)]= .ok (.lst ((List.range w).map λ x=>fM (lW w f y x))):=by
 have w20:=o.w2;obtain⟨z6,z7,z8,z9,e⟩:=join_loop (f:=f) (y:=y) o.w1 (e0:=vA (aY w h f)) (e1:=vA (.int (y:Int))) (xs:=List.range w) (acc:=[]) (e6:=none) (e7:=none) (e8:=none) (e9:=none) (λ x hx=>List.mem_range.mp hx) (by rw[List.length_range,List.length_nil];omega);exact bL (aJ (aX (au rfl rfl (rC hy)) rfl) (aJ (aX (au rfl (aR (aD (au rfl rfl rfl) (aB rfl)) Vx) (rC (by omega))) rfl) (aJ (aX (au (aR (aB rfl) p8) rfl (Az o.w1)) rfl) (aJ (jZ rfl)
  (aJ (lE (tQ (aB (aZ (aB rfl) (Iw o.w1 o.w2))) rfl) e) (bx (d:= .lst ((List.range w).map λ x=>fM (lW w f y x))) rfl))))))
theorem qd {a b:Str}:kJ (.str a) (.str b)= .ok (.bl (a ==b)):=by
 rw[kJ,if_pos (by simp[dep])];show R.ok (D.bl (fK (.str a) (.str b)))=_;simp[lg,lq,lu,lA,lB,gk,eF]
noncomputable def wo3 (w h:Nat) (f:Nat->Nat->Int) (y x i:Nat):Int:=O7 w h f y x
theorem acE (o:Ok w h f):pZ [aY w h f,.str "worth"]= .ok (tab w h (wo3 w h f)):=by
 have m7:=o.h2;have w20:=o.w2;exact bL (gY (dg (aO (b:=true) (au rfl rfl qd)) (bx (cB (c:=λ y=>row w (O7 w h f y)) (h:=λ y=> .lst ((List.range w).map λ x=>fM (wo3 w h f y x))) (l:=List.range h) (gW (aZ (aB rfl) (YD o))) (by rw[List.length_range];omega) λ y hy=>
  cL rfl (cB (c:=λ x=> .int (O7 w h f y x)) (h:=λ x=>fM (wo3 w h f y x)) (l:=List.range w) (gW rfl) (by rw[List.length_range];omega) λ x hx=>cL rfl (cZ (aD rfl (aD rfl (aB rfl)))))))))
theorem acF (o:Ok w h f):pZ [aY w h f,.str "joins"]= .ok (tab w h (lW w f)):=by
 have m7:=o.h2;exact bL (aJ (cj (aO (b:=false) (au rfl rfl qd)) rfl) (bx (cB (c:=λ (y:Nat)=>D.int (y:Int)) (h:=λ y=> .lst ((List.range w).map λ x=>fM (lW w f y x))) (l:=List.range h) (jL (aB (aR (aB rfl) qb)) (by omega)) (by rw[List.length_range];omega) λ y hy=>
  cL rfl (aZ (aD rfl (aB rfl)) (Lh o (List.mem_range.mp hy))))))
noncomputable def fare (T:Nat->Nat->Nat->Int) (s:Nat->Nat) (y:Nat):Int:=T y (s y) (s (y - 1)+1 - s y)
noncomputable def cost (h:Nat) (T:Nat->Nat->Nat->Int) (s:Nat->Nat):Int:=T 0 (s 0) 1+((List.range (h - 1)).map λ y=>fare T s (y+1)).sum
theorem GR {T:Nat->Int} {p:Nat->D} {a b:Nat} (hb:b < w) (h1:b<=a+1) (h2:a<=b+1) (hp:p b=fM T):iR [.lst ((List.range w).map p),.int (a:Int),.int (b:Int)]= .ok (.int (T (a+1 - b))):=by
 refine bL (bx (au (x:=fM T) (y:= .int ((a+1 - b:Nat):Int)) (au rfl rfl ((o8 (α:=D) hb).trans (congrArg R.ok hp))) (au (au rfl rfl rfl) rfl ?_) (gB (i:=a+1 - b) ?_)))
 ·show R.ok (D.int ((a:Int) - (b:Int)+1))=_;rw[show (a:Int) - (b:Int)+1=((a+1 - b:Nat):Int) by omega]
 ·have:a+1 - b=0\/a+1 - b=1\/a+1 - b=2:=by omega
  rcases this with e |e |e <;> rw[e] <;> rfl
theorem aec {i:Nat} {u:aA->R D} {a b:Int} (h:ρ[i]?=some (some (.val (.int a)))) (e:u ρ= .ok (.int b)):NT i u ρ= .nx (ρ.set i (some (.val (.int (a+b))))):=by
 unfold NT;simp only[h];rw[e];rfl
theorem xU {m:Str} (hm:m= "worth"\/m= "joins"):jQ [.str m]= .ok .non:=by
 rcases hm with rfl |rfl
 ·exact Mw (cj (aO (b:=false) (au rfl rfl (by simp[T5,Vi,iI,lg,lq,lu,lA,lB,gk,eF]))) rfl)
 ·exact Mw (cj (aO (b:=false) (au rfl rfl (by simp[T5,Vi,iI,lg,lq,lu,lA,lB,gk,eF]))) rfl)
noncomputable def tbl (m:Str) (w h:Nat) (f:Nat->Nat->Int):Nat->Nat->Nat->Int:=if m= "worth" then wo3 w h f else lW w f
end
section
variable {n w h:Nat} {g:Nat->Int} {f:Nat->Nat->Int} {s:Nat->Nat} {c:Int} {m:Str} {ρ:aA}
theorem YF {p:Nat->Int} (hh:1<=h):((List.range h).map p).sum=p 0+((List.range (h - 1)).map λ y=>p (y+1)).sum:=by
 obtain⟨k,rfl⟩:∃k,h=k+1:=⟨h - 1,by omega⟩;rw[List.range_succ_eq_map,List.map_cons,List.sum_cons,List.map_map];rfl
noncomputable abbrev clip (n:Nat) (X:Int):Int:=if (if X < ((n - 1:Nat):Int) then X else ((n - 1:Nat):Int)) > 0 then (if X < ((n - 1:Nat):Int) then X else ((n - 1:Nat):Int)) else 0
theorem MF {X Y:Int} {x y:Nat} (o:Ok w h f) (hy:clip h Y=(y:Int)) (hyh:y < h) (hx:clip w X=(x:Int)) (hxw:x < w):gJ [aY w h f,.int X,.int Y]= .ok (.int (f y x)):=by
 refine bL (bx (au (x:=row w (f y)) (y:= .int (x:Int)) (au rfl (aR (aD rfl (aB (aR (aD (au (aR (aB rfl) qb) rfl (Az o.h1)) (aB rfl)) rfl))) ?_) (rC hyh)) (aR (aD rfl (aB (aR (aD (au (len0 o rfl) rfl (Az o.w1)) (aB rfl)) rfl))) ?_) (jT hxw)))
 ·exact congrArg (λ z=>R.ok (D.int z)) hy
 ·exact congrArg (λ z=>R.ok (D.int z)) hx
theorem Dg {x:Nat} (hx:x < n):clip n (x:Int)=(x:Int):=by unfold clip;split <;> split <;> omega
theorem Us {x:Nat} (hx:x < n):clip n ((x+1:Nat):Int)=((min (x+1) (n - 1):Nat):Int):=by unfold clip;split <;> split <;> omega
theorem Ut {x:Nat} (hx:x < n):clip n ((x:Int) - 1)=((x - 1:Nat):Int):=by unfold clip;split <;> split <;> omega
theorem uE (o:Ok w h f) {x y:Nat} (hx:x < w) (hy:y < h) {e1 e4 e5:Option Ent}:aF rN (ak (bin (aF (aW gJ 3) (ak (λ ρ=>ao ρ 0) (ak (bin (λ ρ=>ao ρ 2) (λ _=> .ok (.int 1)) dh) (ak (λ ρ=>ao ρ 3) (λ _=> .ok []))))) (aF (aW gJ 3) (ak (λ ρ=>ao ρ 0) (ak (bin (λ ρ=>ao ρ 2) (λ _=> .ok (.int 1)) cO) (ak (λ ρ=>ao ρ 3) (λ _=> .ok []))))) dh) (λ _=> .ok []))
  [vA (aY w h f),e1,vA (.int (x:Int)),vA (.int (y:Int)),e4,e5]= .ok (.int (gap w (f y) x)):=
 aR (aB (au (x:= .int (f y (x - 1))) (y:= .int (f y (min (x+1) (w - 1)))) (aZ (aD rfl (aD (x:= .int ((x:Int) - 1)) (au rfl rfl rfl) (aB rfl))) (MF o (Dg hy) hy (Ut hx) (by omega))) (aZ (aD rfl (aD (x:= .int ((x+1:Nat):Int)) (au rfl rfl rfl) (aB rfl))) (MF o (Dg hy) hy (Us hx) (by omega))) rfl)) rfl
theorem aed (o:Ok w h f) {x y:Nat} (hx:x < w) (hy:y < h) {d:D}:gK [aY w h f,.str "worth",.int (x:Int),.int (y:Int),d]= .ok (.int (O7 w h f y x)):=by
 refine bL (aJ (aX (uE o hx hy) rfl) (gY (dg (aO (b:=true) (au rfl rfl qd)) (bx (au (x:= .int (gap w (f y) x)) (y:= .int (gap h (λ y=>f y x) y)) rfl (aR (aB (au (x:= .int (f (y - 1) x)) (y:= .int (f (min (y+1) (h - 1)) x)) ?_ ?_ rfl)) rfl) rfl)))))
 ·exact aZ (aD rfl (aD rfl (aB (x:= .int ((y:Int) - 1)) (au rfl rfl rfl)))) (MF o (Ut hy) (by omega) (Dg hx) hx)
 ·exact aZ (aD rfl (aD rfl (aB (x:= .int ((y+1:Nat):Int)) (au rfl rfl rfl)))) (MF o (Us hy) (by omega) (Dg hx) hx)
theorem tR {c:aA->R Bool} {f g:aA->R D} {r:R D} (e:c ρ= .ok true) (h:f ρ=r):zu c f g ρ=r:=by rw[zu,e,R.bh,if_pos rfl,h]
theorem xV {c:aA->R Bool} {f g:aA->R D} {r:R D} (e:c ρ= .ok false) (h:g ρ=r):zu c f g ρ=r:=by rw[zu,e,R.bh,if_neg (by decide),h]
theorem abK {i j:Int}:jJ (.int i) (.int j)= .ok (.bl (!decide (i=j))):=by
 rw[jJ,if_pos (by simp[dep])];show R.ok (D.bl (!fK (.int i) (.int j)))=_;by_cases h:i=j <;> simp[lg,lq,lu,lA,lB,gk,eF,h]
theorem acG (o:Ok w h f) {x y:Nat} (hx:x < w) (hy:y < h):gK [aY w h f,.str "joins",.int (x:Int),.int (y:Int),.non]= .ok (.int (lW w f y x 1)):=by
 have e:lW w f y x 1=gap w (f y) x:=by simp[lW]
 rw[e];exact bL (aJ (aX (uE o hx hy) rfl) (aJ (cj (aO (b:=false) (au rfl rfl qd)) rfl) (aJ (cj (CK (aO (b:=false) (au rfl rfl rfl))) rfl) (bx rfl))))
theorem aee (o:Ok w h f) {x y b:Nat} (hx:x < w) (hy:y+1 < h) (hb:b < w) (h1:b<=x+1) (h2:x<=b+1):gK [aY w h f,.str "joins",.int (x:Int),.int ((y+1:Nat):Int),.int (b:Int)]= .ok (.int (lW w f (y+1) x (b+1 - x))):=by
 by_cases hbx:b=x
 ·subst hbx;have e:lW w f (y+1) b (b+1 - b)=gap w (f (y+1)) b:=by simp[lW,show b+1 - b=1 by omega]
  rw[e];exact bL (aJ (aX (uE o hx hy) rfl) (aJ (cj (aO (b:=false) (au rfl rfl qd)) rfl) (aJ (cj (nY (aO (b:=true) (au rfl rfl rfl)) (aO (au rfl rfl (Df rfl)))) rfl) (bx rfl))))
 ·have hne:jJ (.int (b:Int)) (.int (x:Int))= .ok (.bl true):=by rw[abK,decide_eq_false (by omega)];rfl
  by_cases hlt:b < x
  ·have e:lW w f (y+1) x (b+1 - x)=gap w (f (y+1)) x+ab (f y x - f (y+1) (x - 1)):=by simp[lW,show b+1 - x=0 by omega]
   rw[e];exact bL (aJ (aX (uE o hx hy) rfl) (aJ (cj (aO (b:=false) (au rfl rfl qd)) rfl) (aJ (dg (nY (aO (b:=true) (au rfl rfl rfl)) (aO (au rfl rfl hne)))
    (aX (d:= .int (gap w (f (y+1)) x+ab (f y x - f (y+1) (x - 1)))) (au (x:= .int (gap w (f (y+1)) x)) (y:= .int (ab (f y x - f (y+1) (x - 1)))) rfl (aR (aB (au (x:= .int (f y x)) (y:= .int (f (y+1) (x - 1))) (au (au rfl (au (x:= .int ((y+1:Nat):Int)) rfl rfl (Az (by omega))) (rC (y:=y+1 - 1) (by omega))) rfl (jT hx)) (au (au rfl rfl (rC hy)) (tR (aO (au rfl rfl (abI (by omega)))) (au (x:= .int (x:Int)) rfl rfl (Az (by omega)))) (jT (by omega))) rfl)) rfl) rfl) rfl)) (bx rfl))))
  ·have e:lW w f (y+1) x (b+1 - x)=gap w (f (y+1)) x+ab (f y x - f (y+1) (x+1)):=by simp[lW,show b+1 - x=2 by omega,show min (x+1) (w - 1)=x+1 by omega]
   have hf:ltI (.int (b:Int)) (.int (x:Int))= .ok (.bl false):=by
    show R.ok (D.bl (decide _))=_;rw[decide_eq_false (by omega)]
   rw[e];exact bL (aJ (aX (uE o hx hy) rfl) (aJ (cj (aO (b:=false) (au rfl rfl qd)) rfl) (aJ (dg (nY (aO (b:=true) (au rfl rfl rfl)) (aO (au rfl rfl hne)))
    (aX (d:= .int (gap w (f (y+1)) x+ab (f y x - f (y+1) (x+1)))) (au (x:= .int (gap w (f (y+1)) x)) (y:= .int (ab (f y x - f (y+1) (x+1)))) rfl (aR (aB (au (x:= .int (f y x)) (y:= .int (f (y+1) (x+1))) (au (au rfl (au (x:= .int ((y+1:Nat):Int)) rfl rfl (Az (by omega))) (rC (y:=y+1 - 1) (by omega))) rfl (jT hx)) (au (au rfl rfl (rC hy)) (xV (aO (au rfl rfl hf)) (au (x:= .int (x:Int)) (y:= .int 1) rfl rfl rfl)) (jT (x:=x+1) (by omega))) rfl)) rfl) rfl) rfl)) (bx rfl))))
noncomputable def bef (h:Nat) (s:Nat->Nat):List D:=D.non::(List.range (h - 1)).map λ y=>D.int ((s y:Nat):Int)
theorem aef (hh:1<=h) (m7:h<=20) {e0 e1 e3:Option Ent}:bin (dI (ak (λ _=> .ok .non) (λ _=> .ok []))) (jM (λ ρ=>ao ρ 2) (λ _=> .ok none) (λ ρ=>(((pU (λ _=> .ok (.int 1))):aA->R D) ρ).bind Dk)) cO [e0,e1,vA (sm h s),e3]= .ok (.tup (bef h s)):=by
 have e:jM (λ ρ=>ao ρ 2) (λ _=> .ok none) (λ ρ=>(((pU (λ _=> .ok (.int 1))):aA->R D) ρ).bind Dk) [e0,e1,vA (sm h s),e3]= .ok (.tup ((List.range (h - 1)).map λ y=>D.int ((s y:Nat):Int))):=by
  show R.ok (D.tup (jz ((List.range h).map λ y=>D.int ((s y:Nat):Int)) none (some (-1))))=_;have e2:∀{n d:Nat},HT.sIx n d (some (-1))=n - 1:=λ {n d}=>by
   show (if (-1:Int) < 0 then ((-1:Int)+(n:Int)).toNat else min (-1:Int).toNat n)=n - 1;rw[if_pos (by decide)];omega
  rw[jz,e2,Ay,Nat.sub_zero,List.length_map,List.length_range,List.drop_zero,<-List.map_take,List.take_range,Nat.min_eq_left (by omega)]
 exact au (cZ (aB rfl)) e (tO (by simp;omega))
theorem aeg {y:Nat} (hy:y < h):bN (.tup (bef h s)) (.int (y:Int))= .ok (if y=0 then .non else .int ((s (y - 1):Nat):Int)):=by
 refine gB (i:=y) ?_;cases y with
 |zero=>rfl
 | succ y=>
  show ((List.range (h - 1)).map λ y=>D.int ((s y:Nat):Int))[y]?=_;rw[List.getElem?_map,List.getElem?_range (by omega)];rfl
theorem step_eq (hm:m= "worth"\/m= "joins") (o:Ok w h f) (q:lV w h s) {y:Nat} (hy:y < h):gK [aY w h f,.str m,.int ((s y:Nat):Int),.int (y:Int),if y=0 then .non else .int ((s (y - 1):Nat):Int)]= .ok (.int (if y=0 then tbl m w h f 0 (s 0) 1 else fare (tbl m w h f) s y)):=by
 rcases hm with rfl |rfl
 ·rw[aed o (q.lt y hy) hy];by_cases h0:y=0
  ·subst h0;rfl
  ·rw[if_neg h0];rfl
 ·by_cases h0:y=0
  ·subst h0;rw[if_pos rfl,if_pos rfl];exact acG o (q.lt 0 hy) hy
  ·obtain⟨k,rfl⟩:∃k,y=k+1:=⟨y - 1,by omega⟩;rw[if_neg h0,if_neg h0];obtain⟨k1,k2⟩:=q.st k hy;exact aee o (q.lt _ hy) hy (q.lt k (by omega)) k2 k1
theorem DP (hm:m= "worth"\/m= "joins") (o:Ok w h f) (q:lV w h s):gM [aY w h f,.str m,sm h s]= .ok (.int (cost h (tbl m w h f) s)):=by
 have m7:=o.h2;have e:((List.range h).map λ y=>if y=0 then tbl m w h f 0 (s 0) 1 else fare (tbl m w h f) s y).sum=cost h (tbl m w h f) s:=by
  rw[YF o.h1,if_pos rfl];rfl
 rw[<-e];refine bL (aJ (aX (aef o.h1 m7) rfl) (bx (aR (aB (cB (c:=λ (y:Nat)=>D.tup [.int (y:Int),.int ((s y:Nat):Int)]) (h:=λ y=> .int (if y=0 then tbl m w h f 0 (s 0) 1 else fare (tbl m w h f) s y)) (l:=List.range h) (tQ (aB rfl) rfl) (by rw[List.length_range];omega) λ y hy=>?_)) ab1)));have hy:=List.mem_range.mp hy;exact cL rfl (aZ (aD rfl (aD rfl (aD rfl (aD rfl (aB (au rfl rfl (aeg hy))))))) (step_eq hm o q hy))
end
noncomputable abbrev Wy:=Int×Int×List Int
noncomputable def fl (t:Wy):List Int:=t.1::t.2.1::t.2.2
noncomputable def un (l:List Int):Wy:=(l.getD 0 0,l.getD 1 0,l.drop 2)
theorem Vy (t:Wy):un (fl t)=t:=rfl
theorem O8 {a b:Wy} (h:fl a=fl b):a=b:=by have:=congrArg un h;simpa[Vy] using this
noncomputable def dU (t:Wy):D:= .tup [.int t.1,.int t.2.1,.tup (t.2.2.map .int)]
theorem yE (t:Wy):dU t=iZ (fl t):=rfl
noncomputable def cP (l:List Wy):D:= .lst (l.map dU)
section
variable {n w h:Nat} {g:Nat->Int} {f:Nat->Nat->Int} {ρ:aA}
theorem Uu {i:Nat} {u:aA->R D} {ds es:List D} (h:ρ[i]?=some (some (.lst ds))) (e:u ρ= .ok (.lst es)) (hl:ds.length+es.length<=1000000):Ey i u ρ= .nx (ρ.set i (some (.lst (ds++es)))):=by
 unfold Ey;simp only[h,e,FN,kI];rw[if_pos hl]
theorem acH {i k:Nat} {ds es:List D} (h:ρ[i]?=some (some (.lst ds))) (h2:ρ[k]?=some (some (.lst es))) (hl:ds.length < 1000000):Og i k ρ= .nx ((ρ.set i (some (.lst (ds++[.lst es])))).set k (some (.val (.lst es)))):=by
 unfold Og;simp only[h,h2];rw[if_pos hl]
theorem O9 {i a:Nat} {G:List D->R D} {n:Nat} {fa:aA->R (List D)} {ds:List D} {d:D} (h:ρ[i]?=some (some (.obj (.fn a)))) (e:fa ρ= .ok ds) (e2:G ds= .ok d) (hl:ds.length=n:=by rfl):CV i a G n fa ρ= .ok d:=by
 unfold CV;simp only[h,e,if_true,R.bh,aW,hl,e2];rfl
theorem aeh {i:Nat} {u:aA->R D} {ds:List D} {k:Int} {d:D} (h:ρ[i]?=some (some (.lst ds))) (e:u ρ= .ok (.int k)) (e2:bN (.lst ds) (.int k)= .ok d):Yj i u ρ= .ok d:=by
 unfold Yj;simp only[h,e,R.bh,e2]
theorem Dh {u:aA->R D} {ds:List D} (e:u ρ= .ok (.lst ds)):Oo u ρ= .ok (!ds.isEmpty):=by unfold Oo;rw[e];rfl
theorem m8 {m:Nat} {s:aA->So} {es:List Ent} {d:D} (e:s (es.map some++List.replicate m none)= .rt d):jh m s es= .ok d:=by rw[jh,e]
noncomputable def nr (w x:Nat):List Nat:=List.range' (x - 1) (min (x+2) w - (x - 1))
theorem GX {x p:Nat} (hx:x < w):p∈nr w x↔p < w/\p<=x+1/\x<=p+1:=by
 unfold nr;rw[List.mem_range'_1,Nat.add_sub_cancel' (Nat.le_min.mpr ⟨Nat.le_trans (Nat.sub_le x 1) (Nat.le_add_right x 2),Nat.le_trans (Nat.sub_le x 1) (Nat.le_of_lt hx)⟩),Nat.lt_min];exact⟨λ h=>⟨h.2.2,Nat.le_of_lt_succ h.2.1,Nat.le_add_of_sub_le h.1⟩,λ h=>⟨Nat.sub_le_of_le_add h.2.2,Nat.lt_succ_of_le h.2.1,h.1⟩⟩
theorem YG {x:Nat}:(nr w x).length<=3:=by unfold nr;rw[List.length_range'];omega
theorem acI {x:Nat} (hx:x < w) (hw:w<=20):Ar [.int (x:Int),.int (w:Int)]= .ok (.lst ((nr w x).map λ (p:Nat)=>D.int (p:Int))):=by
 have e2:minD [.int ((x+2:Nat):Int),.int (w:Int)]= .ok (.int ((min (x+2) w:Nat):Int)):=by
  show R.ok (D.int (if (w:Int) < ((x+2:Nat):Int) then (w:Int) else ((x+2:Nat):Int)))=_;congr 2;by_cases hz:w < x+2
  ·rw[if_pos (Int.ofNat_lt.mpr hz),Nat.min_eq_right (Nat.le_of_lt hz)]
  ·rw[if_neg (λ q=>hz (Int.ofNat_lt.mp q)),Nat.min_eq_left (Nat.le_of_not_lt hz)]
 refine bL (bx (aR (aD (x:= .int ((x - 1:Nat):Int)) (aR (aD (au rfl rfl rfl) (aB rfl)) Vx) (aB (x:= .int ((min (x+2) w:Nat):Int)) (aR (aD (x:= .int ((x+2:Nat):Int)) (au rfl rfl rfl) (aB rfl)) e2))) ?_));show (if _ then _ else _)=_;have b1:x - 1<=1000:=Nat.le_trans (Nat.sub_le x 1) (Nat.le_trans (Nat.le_of_lt hx) (Nat.le_trans hw (by decide)));have b2:min (x+2) w<=1000:=Nat.le_trans (Nat.min_le_right _ _) (Nat.le_trans hw (by decide));rw[if_pos ⟨Int.le_trans (by decide) (Int.natCast_nonneg _),Int.ofNat_le.mpr b1,Int.le_trans (by decide) (Int.natCast_nonneg _),Int.ofNat_le.mpr b2⟩];congr 2;unfold upto nr;rw[Int.toNat_sub,List.range'_eq_map_range,List.map_map];refine List.map_congr_left λ i _=>?_;simp
noncomputable def fX (c:Int) (t:Wy):Wy:=(t.1,t.2.1+c,t.2.2)
noncomputable def cands (w:Nat) (C:Nat->List Wy) (T:Nat->Nat->Int) (x:Nat):List Wy:=(nr w x).flatMap λ p=>(C p).map (fX (T p (x+1 - p)))
variable {C:Nat->List Wy} {T:Nat->Nat->Int}
theorem aei {x p:Nat} (hx:x < w) (hp:p∈nr w x) (hC:(C p).length<=1) {e5:Option Ent} {acc:List D} (hl:acc.length<=1000):
  onB [vA (.lst ((List.range w).map λ x=>cP (C x))),vA (.lst ((List.range w).map λ x=>fM (T x))),vA (.int (x:Int)),some (.lst acc),vA (.int (p:Int)),e5] =
   .nx [vA (.lst ((List.range w).map λ x=>cP (C x))),vA (.lst ((List.range w).map λ x=>fM (T x))),vA (.int (x:Int)),some (.lst (acc++((C p).map (fX (T p (x+1 - p)))).map dU)),vA (.int (p:Int)),vA (.int (T p (x+1 - p)))]:=by
 obtain⟨h1,h2,h3⟩:=(GX hx).mp hp;refine aJ (aX (aZ (aD rfl (aD rfl (aB rfl))) (GR (T:=T p) (p:=λ x=>fM (T x)) h1 (by omega) (by omega) rfl)) rfl) ?_;refine Uu (ds:=acc) rfl (cB (c:=dU) (h:=λ t=>dU (fX (T p (x+1 - p)) t)) (l:=C p) (pP (au rfl rfl (o8 (α:=D) h1))) (by omega) λ t ht=>?_) (by simp;omega) |>.trans ?_
 ·exact cL rfl (cZ (aD rfl (aD (x:= .int (t.2.1+T p (x+1 - p))) (au rfl rfl rfl) (aB rfl))))
 ·rw[List.map_map];rfl
theorem Uv {x:Nat} (hx:x < w) (hC:∀p < w,(C p).length<=1):∀{ps:List Nat} {acc:List D} {e4 e5:Option Ent},(∀p∈ps,p∈nr w x)->acc.length+ps.length<=1000->
  ∃ z4 z5,forL (aM 4) onB (ps.map λ (p:Nat)=>D.int (p:Int)) [vA (.lst ((List.range w).map λ x=>cP (C x))),vA (.lst ((List.range w).map λ x=>fM (T x))),vA (.int (x:Int)),some (.lst acc),e4,e5] =
   .nx [vA (.lst ((List.range w).map λ x=>cP (C x))),vA (.lst ((List.range w).map λ x=>fM (T x))),vA (.int (x:Int)),some (.lst (acc++(ps.flatMap λ p=>(C p).map (fX (T p (x+1 - p)))).map dU)),z4,z5]
 |[],acc,e4,e5,_,_=>⟨e4,e5,by simp[forL]⟩
 | p::ps,acc,e4,e5,hp,hl=>by
  rw[List.length_cons] at hl;have hpn:=hp p (by simp);have hpw:=((GX hx).mp hpn).1;have hc:=hC p hpw;obtain⟨z4,z5,e⟩:=Uv hx hC (ps:=ps) (acc:=acc++((C p).map (fX (T p (x+1 - p)))).map dU) (e4:=vA (.int (p:Int))) (e5:=vA (.int (T p (x+1 - p)))) (λ q hq=>hp q (by simp[hq])) (by simp;omega);refine⟨z4,z5,fW rfl (aei hx hpn hc (by omega)) (e.trans ?_)⟩;rw[List.flatMap_cons,List.map_append,List.append_assoc]
theorem YH {x:Nat} (hx:x < w) (hw:w<=20) (hC:∀p < w,(C p).length<=1):p7 [.lst ((List.range w).map λ x=>cP (C x)),.lst ((List.range w).map λ x=>fM (T x)),.int (x:Int)]= .ok (.lst ((cands w C T x).map dU)):=by
 obtain⟨z4,z5,e⟩:=Uv (T:=T) hx hC (ps:=nr w x) (acc:=[]) (e4:=none) (e5:=none) (λ p hp=>hp) (by have:=YG (w:=w) (x:=x);simp;omega);have hlen:bW [.lst ((List.range w).map λ x=>cP (C x))]= .ok (.int (w:Int)):=by simp[bW]
 refine bL (aJ (jZ rfl) (aJ (lE (pP (aZ (aD rfl (aB (aR (aB rfl) hlen))) (acI hx hw))) e) (bx rfl)))
end
section
variable {n w h:Nat} {g:Nat->Int} {f:Nat->Nat->Int} {ρ:aA}
theorem nA {i j:Int}:kJ (.int i) (.int j)= .ok (.bl (decide (i=j))):=by
 rw[kJ,if_pos (by simp[dep])];show R.ok (D.bl (fK (.int i) (.int j)))=_;by_cases h:i=j <;> simp[lg,lq,lu,lA,lB,gk,eF,h]
noncomputable def cG (cs:List Wy):List Wy:=((lH (cs.map fl)).take 1).map un
noncomputable def pre (x:Nat) (t:Wy):Wy:=(t.1,t.2.1,(x:Int)::t.2.2)
theorem yF:∀cs:List Wy,pY (cs.map dU)=some (cs.map fl)
 |[]=>rfl
 | t::cs=>by
  rw[List.map_cons,pY,yF cs,yE,show lJ (iZ (fl t))=some (fl t) from Ag];rfl
theorem Pb {cs:List Wy}:∀l∈lH (cs.map fl),fl (un l)=l:=λ l hl=>by
 obtain⟨t,_,rfl⟩:=List.mem_map.mp ((jm _).mem_iff.mp hl);rw[Vy]
theorem yG {cs:List Wy}:∀t∈cG cs,t∈cs:=λ t ht=>by
 obtain⟨l,hl,rfl⟩:=List.mem_map.mp ht;have hl:=List.mem_of_mem_take hl;obtain⟨t,h1,rfl⟩:=List.mem_map.mp ((jm _).mem_iff.mp hl);rw[Vy];exact h1
theorem sS {cs:List Wy}:(cG cs).length<=1:=by unfold cG;simp;omega
theorem zH {cs:List Wy} {x:Nat} (hl:cs.length < 64) (hn:(cs.map fl).Nodup) (hp:∀t∈cs,t.2.2.length<=100):dX 1 [.int (x:Int),.lst (cs.map dU)]= .ok (cP ((cG cs).map (pre x))):=by
 have e1:oW [.lst (cs.map dU)]= .ok (.lst ((lH (cs.map fl)).map iZ)):=by
  rw[oW,yF];show (if _ then _ else _)=_;rw[if_pos ⟨by simpa using hl,hn⟩]
 have e2:jz ((lH (cs.map fl)).map iZ) none (some 1)=(cG cs).map dU:=by
  have e3:∀{n d:Nat},HT.sIx n d (some 1)=min 1 n:=λ {n d}=>by
   show (if (1:Int) < 0 then ((1:Int)+(n:Int)).toNat else min (1:Int).toNat n)=min 1 n;rw[if_neg (by decide)];rfl
  rw[jz,e3,Ay,Nat.sub_zero,List.drop_zero,<-List.map_take];have e4:∀l:List (List Int),l.take (min 1 (l.map iZ).length)=l.take 1:=λ l=>by cases l <;> simp
  rw[e4];unfold cG;rw[List.map_map];refine List.map_congr_left λ l hl=>?_;show iZ l=dU (un l);rw[yE,Pb l (List.mem_of_mem_take hl)]
 have e5:cP ((cG cs).map (pre x))= .lst ((cG cs).map λ t=>dU (pre x t)):=by unfold cP;rw[List.map_map];rfl
 rw[e5];refine m8 (bx (cB (c:=dU) (h:=λ t=>dU (pre x t)) (l:=cG cs) (pP (ds:=(cG cs).map dU) ?_) (by have:=sS (cs:=cs);omega) λ t ht=>?_))
 ·show pX _ _ _ _=_;unfold pX;rw[aR (aB rfl) e1];show R.ok (D.lst (jz _ none (some 1)))=_;rw[e2]
 ·refine cL rfl (cZ (aD rfl (aD rfl (aB (x:= .tup ((((x:Int)::t.2.2)).map .int)) (au (cZ (aB rfl)) rfl ?_)))));have:=hp t (yG t ht);exact tO (xs:=[.int (x:Int)]) (ys:=t.2.2.map .int) (by simp;omega)
end
noncomputable def fB (m:Int):Int:=if m=2 then 1 else 0
noncomputable def sb (c:Int) (t:Wy):Wy:=(t.1 - c,t.2.1,t.2.2)
noncomputable def lX (x:Nat) (m:Int) (cs:List Wy):List Wy:=if m=1 then [] else ((cG cs).map (pre x)).map (sb (fB m))
section
variable {w h a y:Nat} {T:Nat->Nat->Nat->Int} {M:Nat->Nat->Int} {ρ:aA}
theorem aaX {l:List Wy} (hl:l.length<=1) {m:Int} {e0 e1 e2 e3 e4 e5 e7 e10:Option Ent} {acc:List D} (ha:acc.length<=1000):
  abG [e0,e1,e2,e3,e4,e5,some (.lst acc),e7,vA (.int m),vA (cP l),e10]= .nx [e0,e1,e2,e3,e4,e5,some (.lst (acc++[cP (l.map (sb (fB m)))])),e7,vA (.int m),vA (cP l),vA (.int (fB m))]:=by
 have e:(zu (bZ (bin (λ ρ=>ao ρ 8) (λ _=> .ok (.int 2)) kJ)) (λ _=> .ok (.int 1)) (λ _=> .ok (.int 0))) [e0,e1,e2,e3,e4,e5,some (.lst acc),e7,vA (.int m),vA (cP l),e10]= .ok (.int (fB m)):=by
  unfold fB;by_cases hm:m=2
  ·rw[if_pos hm];exact tR (aO (au rfl rfl (by rw[nA,decide_eq_true hm]))) rfl
  ·rw[if_neg hm];exact xV (aO (au rfl rfl (by rw[nA,decide_eq_false hm]))) rfl
 refine aJ (aX e rfl) ?_;have e2:cP (l.map (sb (fB m)))= .lst (l.map λ t=>dU (sb (fB m) t)):=by unfold cP;rw[List.map_map];rfl
 rw[e2];refine Ba (ds:=acc) (cB (c:=dU) (h:=λ t=>dU (sb (fB m) t)) (l:=l) (pP rfl) (by omega) λ t ht=>?_) rfl (by omega);exact cL rfl (cZ (aD (x:= .int (t.1 - fB m)) (au rfl rfl rfl) (aD rfl (aB rfl))))
inductive YJ (w:Nat) (T:Nat->Nat->Nat->Int) (y:Nat):List D->(Nat->List Wy)->Prop
 |last:YJ w T y [] λ _=>[(0,0,[])]
 |more (rs:List D) (C:Nat->List Wy):(∀p < w,(C p).length<=1)->YJ w T y (rs++[.lst ((List.range w).map λ x=>cP (C x))]) (cands w C (T (y+1)))
theorem aaY {rows:List D} {cs:Nat->List Wy} (B:YJ w T y rows cs) (hy:rows≠[]->y+1 < h) {x:Nat} (hx:x < w) (hw:w<=20) (hl:(cs x).length < 64) (hn:((cs x).map fl).Nodup) (hp:∀t∈cs x,t.2.2.length<=100) {m:Int} {e1 e6 e9 e10:Option Ent}:
  abF a (dX 1) [vA (tab w h T),e1,vA (.tup []),some (.obj (.fn a)),some (.lst rows),vA (.int (y:Int)),e6,vA (.int (x:Int)),vA (.int m),e9,e10] =
   .nx [vA (tab w h T),e1,vA (.tup []),some (.obj (.fn a)),some (.lst rows),vA (.int (y:Int)),e6,vA (.int (x:Int)),vA (.int m),vA (cP (if m=1 then [] else (cG (cs x)).map (pre x))),e10]:=by
 have th:∀(u:Option Ent),Vf (vA (.int m))=vA (.int m):=λ _=>rfl;by_cases hm:m=1
 ·rw[if_pos hm];exact dg (aO (au rfl rfl (by rw[nA,decide_eq_true hm]))) (aX (gq rfl) rfl)
 ·rw [if_neg hm];refine cj (aO (au rfl rfl (by rw[nA,decide_eq_false hm]))) ?_;cases B with
  | last=>
   refine dg (dO (Dh (ds:=[]) rfl)) (aX (O9 rfl (aD rfl (aB (gq (aB (cZ (aD rfl (aD rfl (aB rfl)))))))) (zH (cs:=[(0,0,[])]) hl hn hp)) rfl)
  | more rs C hC=>
   have hy:=hy (by simp);refine cj (dO (Dh (ds:=rs++[.lst ((List.range w).map λ x=>cP (C x))]) rfl) |>.trans (by simp)) (aX (O9 rfl (aD rfl (aB (aZ (aD (x:= .lst ((List.range w).map λ x=>cP (C x))) (aeh rfl (k:= -1) rfl ?_) (aD (au rfl (au (x:= .int (y:Int)) (y:= .int 1) (r:= .ok (.int ((y+1:Nat):Int))) rfl rfl rfl) (o8 (α:=D) hy)) (aB rfl))) (YH (C:=C) (T:=T (y+1)) hx hw hC)))) (zH hl hn hp)) rfl);rw[bN];have:L2.atI (rs++[D.lst ((List.range w).map λ x=>cP (C x))]) (-1)=some (.lst ((List.range w).map λ x=>cP (C x))):=by
    unfold L2.atI ixN;rw[if_neg (by decide),if_pos (by simp;omega)];simp only[List.length_append,List.length_singleton,Option.bind_some];rw[show ((-1:Int)+((rs.length+1:Nat):Int)).toNat=rs.length by omega,List.getElem?_append_right (Nat.le_refl _)];simp
   rw[this]
end
noncomputable def pB (w h:Nat) (T:Nat->Nat->Nat->Int) (M:Nat->Nat->Int):Nat->Nat->List Wy
 |0,_=>[(0,0,[])]
 |k+1,x=>cands w (λ p=>lX p (M (h - 1 - k) p) (pB w h T M k p)) (T (h - 1 - k)) x
noncomputable def pC (w h:Nat) (T:Nat->Nat->Nat->Int) (M:Nat->Nat->Int) (k x:Nat):List Wy:=lX x (M (h - 1 - k) x) (pB w h T M k x)
section
variable {w h a:Nat} {T:Nat->Nat->Nat->Int} {M:Nat->Nat->Int} {ρ:aA}
theorem qe {k x:Nat}:pB w h T M (k+1) x=cands w (pC w h T M k) (T (h - 1 - k)) x:=rfl
theorem qg {x:Nat} {m:Int} {cs:List Wy}:(lX x m cs).length<=1:=by
 unfold lX;split
 ·simp
 ·have:=sS (cs:=cs);simpa using this
theorem nQ {x:Nat} {m:Int} {cs:List Wy} {t:Wy} (h:t∈lX x m cs):∃u∈cs,t=sb (fB m) (pre x u):=by
 unfold lX at h;split at h
 ·simp at h
 ·rw[List.map_map] at h;obtain⟨u,hu,rfl⟩:=List.mem_map.mp h;exact⟨u,yG u hu,rfl⟩
theorem Fd {α β:Type} {F:α->List β}:∀{l:List α},(∀a∈l,(F a).length<=1)->(l.flatMap F).length<=l.length
 |[],_=>by simp
 | a::l,h=>by
  rw[List.flatMap_cons,List.length_append,List.length_cons];have h1:=h a (by simp);have h2:=Fd (l:=l) λ b hb=>h b (by simp[hb]);omega
theorem acJ:∀{k x:Nat},(pB w h T M k x).length < 64
 |0,_=>by simp[pB]
 | k+1,x=>by
  rw[qe];unfold cands;have:=Fd (F:=λ p=>(pC w h T M k p).map (fX (T (h - 1 - k) p (x+1 - p)))) (l:=nr w x) λ p _=>by rw[List.length_map];exact qg
  have h2:=YG (w:=w) (x:=x);omega
theorem YK:∀{k x:Nat},∀t∈pB w h T M k x,t.2.2.length=k
 |0,_,t,ht=>by simp[pB] at ht;subst ht;rfl
 | k+1,x,t,ht=>by
  rw[qe] at ht;obtain⟨p,_,hp⟩:=List.mem_flatMap.mp ht;obtain⟨u,hu,rfl⟩:=List.mem_map.mp hp;obtain⟨v,hv,rfl⟩:=nQ hu;show (((p:Nat):Int)::v.2.2).length=k+1;rw[List.length_cons,YK v hv]
theorem Pg:∀{k x:Nat},((pB w h T M k x).map fl).Nodup
 |0,_=>by simp[pB]
 | k +1,x=>by
  rw[qe];unfold cands List.Nodup;rw[List.pairwise_map,List.pairwise_flatMap];refine⟨λ p _=>?_,?_⟩
  ·have hl:((pC w h T M k p).map (fX (T (h - 1 - k) p (x+1 - p)))).length<=1:=by rw[List.length_map];exact qg
   match (pC w h T M k p).map (fX (T (h - 1 - k) p (x+1 - p))),hl with
   |[],_=>exact .nil
   |[_],_=>simp
   |_::_::_,hl=>simp at hl
  ·have nd:(nr w x).Nodup:=List.nodup_range';refine nd.imp λ {p q} hpq t ht u hu z=>?_;obtain⟨t',ht',rfl⟩:=List.mem_map.mp ht;obtain⟨u',hu',rfl⟩:=List.mem_map.mp hu;obtain⟨t2,_,rfl⟩:=nQ ht';obtain⟨u2,_,rfl⟩:=nQ hu';have:=O8 z;have h2:((p:Nat):Int)::t2.2.2=((q:Nat):Int)::u2.2.2:=congrArg (λ t:Wy=>t.2.2) this;have h3:((p:Nat):Int)=((q:Nat):Int):=(List.cons.inj h2).1;exact hpq (by omega)
noncomputable def vZ (w h:Nat) (T:Nat->Nat->Nat->Int) (M:Nat->Nat->Int) (k:Nat):D:= .lst ((List.range w).map λ x=>cP (pC w h T M k x))
theorem Uw {y:Nat} {rows:List D} {cs:Nat->List Wy} (B:YJ w T y rows cs) (hy:rows≠[]->y+1 < h) (hw:w<=20) (hl:∀x,(cs x).length < 64) (hn:∀x,((cs x).map fl).Nodup) (hp:∀x,∀t∈cs x,t.2.2.length<=100) {e1:Option Ent}:∀{xs:List Nat} {acc:List D} {e7 e8 e9 e10:Option Ent},(∀x∈xs,x < w)->acc.length+xs.length<=1000->
  ∃ z7 z8 z9 rE,forL (dj (dB 2 (bC (aM 7) (bC (aM 8) nilG)))) (inW a (dX 1)) (xs.map λ (x:Nat)=>D.tup [.int (x:Int),.int (M y x)]) [vA (tab w h T),e1,vA (.tup []),some (.obj (.fn a)),some (.lst rows),vA (.int (y:Int)),some (.lst acc),e7,e8,e9,e10] =
   .nx [vA (tab w h T),e1,vA (.tup []),some (.obj (.fn a)),some (.lst rows),vA (.int (y:Int)),some (.lst (acc++xs.map λ x=>cP (lX x (M y x) (cs x)))),z7,z8,z9,rE]
 |[],acc,e7,e8,e9,e10,_,_=>⟨e7,e8,e9,e10,by simp[forL]⟩
 | x ::xs,acc,e7,e8,e9,e10,hx,hle=>by
  rw[List.length_cons] at hle;have hxw:=hx x (by simp);obtain⟨z7,z8,z9,rE,e⟩:=Uw B hy hw hl hn hp (e1:=e1) (xs:=xs) (acc:=acc++[cP (lX x (M y x) (cs x))]) (e7:=vA (.int (x:Int))) (e8:=vA (.int (M y x))) (e9:=vA (cP (if M y x=1 then [] else (cG (cs x)).map (pre x)))) (e10:=vA (.int (fB (M y x)))) (λ q hq=>hx q (by simp[hq])) (by simp;omega);refine⟨z7,z8,z9,rE,fW rfl (aJ (aaY B hy hxw hw (hl x) (hn x) (hp x)) (aaX ?_ (by omega) |>.trans ?_)) (e.trans ?_)⟩
  ·split
   ·simp
   ·have:=sS (cs:=cs x);simpa using this
  ·have:lX x (M y x) (cs x)=(if M y x=1 then [] else (cG (cs x)).map (pre x)).map (sb (fB (M y x))):=by unfold lX;split <;> rfl
   rw[this]
  ·rw[List.map_cons,List.append_assoc];rfl
noncomputable def dn (r:Nat):List D:=(List.range r).map λ (i:Nat)=>D.int ((r:Int) - 1 - (i:Int))
theorem acK (r:Nat):dn (r+1)=D.int (r:Int)::dn r:=by
 unfold dn;rw[List.range_succ_eq_map,List.map_cons,List.map_map];congr 1
 ·congr 1;omega
 ·refine List.map_congr_left λ i _=>?_;show D.int _=D.int _;congr 1;simp only[Nat.succ_eq_add_one];omega
theorem aej {k y:Nat} (hk:k < h) (hy:y=h - 1 - k):YJ w T y ((List.range k).map (vZ w h T M)) (pB w h T M k):=by
 cases k with
 |zero=>exact .last
 | succ k=>
  rw[List.range_succ,List.map_append];have e:pB w h T M (k+1)=cands w (pC w h T M k) (T (y+1)):=by
   funext x;rw[qe,show y+1=h - 1 - k by omega]
  rw[e];exact .more _ _ λ p _=>qg
theorem aek {k y:Nat} (hk:k < h) (hy:y=h - 1 - k) (hh:h<=20) (hw:w<=20) {e6 e7 e8 e9 e10:Option Ent}:∃z6 z7 z8 z9 rE,aaU a (dX 1) [vA (tab w h T),vA (aY w h M),vA (.tup []),some (.obj (.fn a)),some (.lst ((List.range k).map (vZ w h T M))),vA (.int (y:Int)),e6,e7,e8,e9,e10] =
  .nx [vA (tab w h T),vA (aY w h M),vA (.tup []),some (.obj (.fn a)),some (.lst ((List.range (k+1)).map (vZ w h T M))),vA (.int (y:Int)),z6,z7,z8,z9,rE]:=by
 obtain⟨z7,z8,z9,rE,e⟩:=Uw (h:=h) (a:=a) (M:=M) (e1:=vA (aY w h M)) (aej (w:=w) (T:=T) (M:=M) hk hy) (λ hne=>by
  have:k≠0:=λ z=>hne (by rw[z];rfl);omega) hw (λ x=>acJ) (λ x=>Pg) (λ x t ht=>by rw[YK t ht];omega) (xs:=List.range w) (acc:=[]) (e7:=e7) (e8:=e8) (e9:=e9) (e10:=e10) (λ x hx=>List.mem_range.mp hx) (by simp;omega)
 refine⟨vA (.lst ([]++(List.range w).map λ x=>cP (lX x (M y x) (pB w h T M k x)))),z7,z8,z9,rE,aJ (jZ rfl) (aJ (lE (tQ (aB (au rfl rfl (rC (by omega)))) rfl) e) ((acH (ds:=(List.range k).map (vZ w h T M)) (es:=[]++(List.range w).map λ x=>cP (lX x (M y x) (pB w h T M k x))) rfl rfl (by rw[List.length_map,List.length_range];omega)).trans ?_))⟩;rw[List.range_succ,List.map_append];have er:((List.range w).map λ x=>cP (lX x (M y x) (pB w h T M k x)))=(List.range w).map λ x=>cP (pC w h T M k x):=by
  refine List.map_congr_left λ x _=>?_;unfold pC;rw[hy]
 simp only[List.nil_append];rw[er];rfl
theorem Ph (hh:h<=20) (hw:w<=20):∀{r k:Nat} {e5 e6 e7 e8 e9 e10:Option Ent},k+r=h->∃z5 z6 z7 z8 z9 rE,forL (aM 5) (aaU a (dX 1)) (dn r) [vA (tab w h T),vA (aY w h M),vA (.tup []),some (.obj (.fn a)),some (.lst ((List.range k).map (vZ w h T M))),e5,e6,e7,e8,e9,e10] =
  .nx [vA (tab w h T),vA (aY w h M),vA (.tup []),some (.obj (.fn a)),some (.lst ((List.range h).map (vZ w h T M))),z5,z6,z7,z8,z9,rE]
 |0,k,e5,e6,e7,e8,e9,e10,hk=>⟨e5,e6,e7,e8,e9,e10,by rw[show k=h by omega];rfl⟩
 | r+1,k,e5,e6,e7,e8,e9,e10,hk=>by
  obtain⟨y6,y7,y8,y9,y10,e1⟩:=aek (a:=a) (w:=w) (T:=T) (M:=M) (k:=k) (y:=r) (by omega) (by omega) hh hw (e6:=e6) (e7:=e7) (e8:=e8) (e9:=e9) (e10:=e10);obtain⟨z5,z6,z7,z8,z9,rE,e2⟩:=Ph hh hw (r:=r) (k:=k+1) (e5:=vA (.int (r:Int))) (e6:=y6) (e7:=y7) (e8:=y8) (e9:=y9) (e10:=y10) (by omega);rw[acK];exact⟨z5,z6,z7,z8,z9,rE,fW rfl e1 e2⟩
theorem aaZ (hh:h<=20) (hw:w<=20):tM a (dX 1) [tab w h T,aY w h M,.tup []]= .ok (.lst ((List.range h).map (vZ w h T M)).reverse):=by
 obtain⟨z5,z6,z7,z8,z9,rE,e⟩:=Ph (a:=a) (w:=w) (T:=T) (M:=M) hh hw (r:=h) (k:=0) (e5:=none) (e6:=none) (e7:=none) (e8:=none) (e9:=none) (e10:=none) (by omega);have er:Oh [.int (h:Int)]= .ok (dn h):=by
  show (if _ then _ else _)=_;rw[if_pos (by omega)];rfl
 refine m8 (aJ (jZ rfl) (aJ (lE ?_ e) (bx ?_)))
 ·show ((ak (aF bW (ak (λ ρ=>ao ρ 1) (λ _=> .ok []))) (λ _=> .ok [])) _).bind Oh=_;rw[aB (aR (aB rfl) qb)];exact er
 ·show Mx _ _=_;unfold Mx;rfl
end
section
variable {w h:Nat} {T:Nat->Nat->Nat->Int} {M:Nat->Nat->Int} {f:Nat->Nat->Int} {m:Str} {ρ:aA}
theorem acL (hh:h<=20) (hw:w<=20):qK [tab w h T,aY w h M,.int 1]= .ok (.lst ((List.range h).map (vZ w h T M)).reverse):=by
 refine m8 ?_;show (match allOf (λ x=>tM x (dX 1) [tab w h T,aY w h M,.tup []]) with | .ok r=>So.rt r |_=> .bad)=_;rw[aaN λ a=>aaZ hh hw]
theorem YL {F:Nat->D}:((List.range h).map F).reverse=(List.range h).map λ y=>F (h - 1 - y):=by
 apply List.ext_getElem?;intro i;by_cases hi:i < h
 ·rw[List.getElem?_reverse (by simpa using hi),List.getElem?_map,List.getElem?_map,List.getElem?_range hi,List.length_map,List.length_range,List.getElem?_range (by omega)];rfl
 ·rw[List.getElem?_eq_none (by simp;omega),List.getElem?_eq_none (by simp;omega)]
noncomputable def Mk (w h:Nat) (M:Nat->Nat->Int):Prop:=∀y x,0<=M y x/\M y x<=2
theorem acM {i:Int}:dH [.int i]= .ok (.bl true):=by rfl
theorem ael {i j:Int} (h:i<=j):sG (.int i) (.int j)= .ok (.bl true):=by
 show R.ok (D.bl (decide _))=_;rw[decide_eq_true h]
theorem Vz {i:Int} (h:0<=i/\i<=2):q9 [.int i]= .ok (.bl true):=
 bL (bx (lD (aZ (aB rfl) acM) (w6 rfl rfl (ael h.1) rfl (ael h.2))))
theorem abL {α:Type} {l:List α}:pL [.lst (l.map λ _=> .bl true)]= .ok (.bl true):=pQ
theorem GZ {g:Nat->Int} (hw:w<=20) (hg:∀x,0<=g x/\g x<=2):ji [row w g,.int (w:Int)]= .ok (.bl true):=by
 refine bL (bx (lD rfl (lD (au (aR (aB rfl) p8) rfl (by rw[nA,decide_eq_true rfl])) (aR (aB (cB (c:=λ x=>D.int (g x)) (h:=λ _=>D.bl true) (l:=List.range w) (gW rfl) (by rw[List.length_range];omega) λ x hx=>?_)) abL))));exact cL rfl (aZ (aB rfl) (Vz (hg x)))
theorem lC {i:Int}:jJ (.int i) (.int i)= .ok (.bl false):=by rw[abK,decide_eq_true rfl];rfl
theorem RD (o:Ok w h f) (hM:Mk w h M):oY [aY w h M,aY w h f]= .ok (.bl true):=by
 have m7:=o.h2;refine bL (aJ (cj (mV (dO (b:=true) (aO rfl)) (aO (au (aR (aB rfl) qb) (aR (aB rfl) qb) lC))) rfl) (bx (aR (aB (cB (c:=λ y=>row w (M y)) (h:=λ _=>D.bl true) (l:=List.range h) (gW rfl) (by rw[List.length_range];omega) λ y hy=>?_)) abL)));exact cL rfl (aZ (aD rfl (aB (len0 o rfl))) (GZ o.w2 (hM y)))
theorem mul_one {d:D} {k:Nat} (h1:1<=k) (m7:k<=20):zU (.tup [d]) (.int (k:Int))= .ok (.tup ((List.range k).map λ _=>d)):=by
 rw[zU,if_pos ⟨by simp,by omega,by omega,by simp;omega⟩];congr 2;rw[show ((k:Nat):Int).toNat=k by omega]
 clear h1 m7
 induction k with
 |zero=>rfl
 |succ k ih=>rw[List.replicate_succ,List.flatten_cons,ih,List.range_succ_eq_map,List.map_cons,List.map_map];rfl
theorem RG (o:Ok w h f):oX [aY w h f]= .ok (aY w h λ _ _=>0):=
 bL (bx (au (cZ (aB (au (cZ (aB rfl)) (len0 o rfl) (mul_one o.w1 o.w2)))) (aR (aB rfl) qb) (mul_one o.h1 o.h2)))
theorem rF (o:Ok w h f):iC [.non,aY w h f]= .ok (aY w h λ _ _=>0):=
 bL (gY (dg (aO (b:=true) (au rfl rfl rfl)) (bx (aZ (aB rfl) (RG o)))))
theorem KC (o:Ok w h f) (hM:Mk w h M):iC [aY w h M,aY w h f]= .ok (aY w h M):=
 bL (aJ (cj (aO (b:=false) (au rfl rfl rfl)) rfl) (aJ (cj (dO (b:=true) (aO (aZ (aD rfl (aB rfl)) (RD o hM)))) rfl) (bx rfl)))
theorem Pj (hm:m= "worth"\/m= "joins") (o:Ok w h f):pZ [aY w h f,.str m]= .ok (tab w h (tbl m w h f)):=by
 rcases hm with rfl |rfl
 ·exact acE o
 ·exact acF o
end
noncomputable abbrev lt (a b:Wy):Bool:=dR (fl a) (fl b)
section
variable {w h:Nat} {T:Nat->Nat->Nat->Int} {M:Nat->Nat->Int}
theorem YM {c:Int} {a b:Wy}:lt (fX c a) (fX c b)=lt a b:=by
 obtain⟨a1,a2,a3⟩:=a;obtain⟨b1,b2,b3⟩:=b;simp only[lt,fl,fX,dR];by_cases e1:a1=b1
 ·rw[if_pos e1,if_pos e1];by_cases e:a2=b2
  ·rw[if_pos (by omega),if_pos e]
  ·rw[if_neg (by omega),if_neg e];exact decide_eq_decide.mpr (by omega)
 ·rw[if_neg e1,if_neg e1]
theorem afL {c:Int} {a b:Wy}:lt (sb c a) (sb c b)=lt a b:=by
 obtain⟨a1,a2,a3⟩:=a;obtain⟨b1,b2,b3⟩:=b;simp only[lt,fl,sb,dR];by_cases e:a1=b1
 ·rw[if_pos (by omega),if_pos e]
 ·rw[if_neg (by omega),if_neg e];exact decide_eq_decide.mpr (by omega)
theorem aem {x:Nat} {a b:Wy}:lt (pre x a) (pre x b)=lt a b:=by
 obtain⟨a1,a2,a3⟩:=a;obtain⟨b1,b2,b3⟩:=b;simp only[lt,fl,pre,dR,if_true]
theorem Pk {a b c:Wy} (h1:lt b a=false) (h2:lt c b=false):lt c a=false:=by
 cases z:lt c a with
 |false=>rfl
 | true=>
  by_cases e:fl b=fl a
  ·have h2:dR (fl c) (fl b)=false:=h2;rw[e] at h2;exact h2.symm.trans z |>.symm
  ·have:=lG z (xO e h1);exact (this.symm.trans h2)
theorem aen {a b:Wy} (h1:lt a b=false) (h2:lt b a=false):a=b:=by
 by_cases e:fl a=fl b
 ·exact O8 e
 ·have h3:dR (fl b) (fl a)=true:=xO e h1;exact absurd (h3.symm.trans h2) (by decide)
theorem uF {cs:List Wy} (hn:(cs.map fl).Nodup) (hne:cs≠[]):∃v,cG cs=[v]/\v∈cs/\∀u∈cs,lt u v=false:=by
 have hr:=Af hn;cases es:lH (cs.map fl) with
 | nil=>
  have:=(jm (cs.map fl)).length_eq;rw[es,List.length_map] at this;exact absurd (List.length_eq_zero_iff.mp this.symm) hne
 | cons l ls=>
  have ef:cG cs=[un l]:=by unfold cG;rw[es];rfl
  rw[es] at hr;obtain⟨hr1,_⟩:=List.pairwise_cons.mp hr;have hl:l∈lH (cs.map fl):=by rw[es];exact List.mem_cons_self
  have hul:fl (un l)=l:=Pb l hl;refine⟨un l,ef,yG _ (by rw[ef];exact List.mem_cons_self),λ u hu=>?_⟩;have hm:fl u∈lH (cs.map fl):=(jm _).mem_iff.mpr (List.mem_map_of_mem hu);rw[es] at hm;show dR (fl u) (fl (un l))=false;rw[hul];rcases List.mem_cons.mp hm with z |z
  ·rw[z];exact oh _
  ·cases q:dR (fl u) l with
   |false=>rfl
   |true=>have:=lG q (hr1 _ z);rw[oh] at this;cases this
noncomputable def vl (T:Nat->Nat->Nat->Int) (M:Nat->Nat->Int):Nat->List Nat->Wy
 |_,[]=>(0,0,[])
 |y,[x]=>sb (fB (M y x)) (pre x (0,0,[]))
 |y,x::p::l=>sb (fB (M y x)) (pre x (fX (T (y+1) p (x+1 - p)) (vl T M (y+1) (p::l))))
noncomputable def Pa (w:Nat) (M:Nat->Nat->Int):Nat->List Nat->Prop
 |_,[]=>True
 |y,[x]=>x < w/\M y x≠1
 |y,x::p::l=>x < w/\M y x≠1/\p<=x+1/\x<=p+1/\Pa w M (y+1) (p::l)
theorem Pa.lt {y x:Nat} {l:List Nat} (h:Pa w M y (x::l)):x < w:=by
 cases l with
 |nil=>exact h.1
 |cons p l=>exact h.1
theorem Pa.ne {y x:Nat} {l:List Nat} (h:Pa w M y (x::l)):M y x≠1:=by
 cases l with
 |nil=>exact h.2
 |cons p l=>exact h.2.1
theorem Ux {x:Nat} {m:Int} {cs:List Wy} {t:Wy} (h:t∈lX x m cs):m≠1:=λ e=>by
 unfold lX at h;rw[if_pos e] at h;cases h
theorem YQ {h k:Nat} (hk:k+1 < h):h - 1 - k=h - 1 - (k+1)+1:=by omega
theorem KD:∀{k x:Nat} {t:Wy},x < w->k < h->t∈pC w h T M k x->∃l,l.length=k/\Pa w M (h - 1 - k) (x::l)/\t=vl T M (h - 1 - k) (x::l)
 | 0,x,t,hx,hk,ht=>by
  obtain⟨u,hu,e⟩:=nQ ht;have hu:u=(0,0,[]):=by simpa[pB] using hu
  subst hu;exact⟨[],rfl,⟨hx,Ux ht⟩,e⟩
 | k+1,x,t,hx,hk,ht=>by
  obtain⟨u,hu,e⟩:=nQ ht;have hm:=Ux ht;rw[qe] at hu;obtain⟨p,hp,hu⟩:=List.mem_flatMap.mp hu;obtain⟨v,hv,rfl⟩:=List.mem_map.mp hu;obtain⟨h1,h2,h3⟩:=(GX hx).mp hp;obtain⟨l,hl,hP,hvl⟩:=KD h1 (by omega) hv;have ey:h - 1 - k=h - 1 - (k+1)+1:=YQ hk;rw[ey] at hP hvl e;exact⟨p::l,by rw[List.length_cons,hl],⟨hx,hm,h2,h3,hP⟩,by rw[e,hvl];rfl⟩
theorem KH {x:Nat} {m:Int} {cs:List Wy} {v:Wy} (hm:m≠1) (e:cG cs=[v]):lX x m cs=[sb (fB m) (pre x v)]:=by
 unfold lX;rw[if_neg hm,e];rfl
theorem KJ:∀{k x:Nat} {l:List Nat},l.length=k->k < h->Pa w M (h - 1 - k) (x::l)->∃t∈pC w h T M k x,lt (vl T M (h - 1 - k) (x::l)) t=false
 | 0,x,l,hl,hk,hP=>by
  cases List.length_eq_zero_iff.mp hl;obtain⟨v,ev,hv,_⟩:=uF (Pg (w:=w) (h:=h) (T:=T) (M:=M) (k:=0) (x:=x)) (by simp[pB]);have hv:v=(0,0,[]):=by simpa[pB] using hv
  subst hv;exact⟨_,by unfold pC;rw[KH hP.ne ev];exact List.mem_cons_self,oh _⟩
 | k + 1,x,l,hl,hk,hP=>by
  cases l with
  |nil=>cases hl
  | cons p l=>
   have ey:h - 1 - k=h - 1 - (k+1)+1:=YQ hk;obtain⟨hx,hm,h2,h3,hP'⟩:=hP;have hl:l.length=k:=by simpa using hl
   rw[<-ey] at hP';obtain⟨t,ht,hlt⟩:=KJ hl (by omega) hP';have hu:fX (T (h - 1 - k) p (x+1 - p)) t∈pB w h T M (k+1) x:=by
    rw[qe];exact List.mem_flatMap.mpr ⟨p,(GX hx).mpr ⟨hP'.lt,h2,h3⟩,List.mem_map_of_mem ht⟩
   obtain⟨v,ev,hv,hle⟩:=uF (Pg (w:=w) (h:=h) (T:=T) (M:=M) (k:=k+1) (x:=x)) (List.ne_nil_of_mem hu);refine⟨_,by unfold pC;rw[KH hm ev];exact List.mem_cons_self,?_⟩;show lt (sb _ (pre x (fX (T (h - 1 - (k+1)+1) p (x+1 - p)) (vl T M (h - 1 - (k+1)+1) (p::l))))) _=false;rw[afL,aem,<-ey];exact Pk (hle _ hu) (by rw[YM];exact hlt)
noncomputable def topC (w h:Nat) (T:Nat->Nat->Nat->Int) (M:Nat->Nat->Int):List Wy:=(List.range w).flatMap λ x=>(pC w h T M (h - 1) x).map (fX (T 0 x 1))
theorem aa0:(topC w h T M).length<=w:=by
 have:=Fd (F:=λ x=>(pC w h T M (h - 1) x).map (fX (T 0 x 1))) (l:=List.range w) λ p _=>by rw[List.length_map];exact qg
 rw[List.length_range] at this;exact this
theorem Uy:((topC w h T M).map fl).Nodup:=by
 unfold topC List.Nodup;rw[List.pairwise_map,List.pairwise_flatMap];refine⟨λ p _=>?_,?_⟩
 ·have hl:((pC w h T M (h - 1) p).map (fX (T 0 p 1))).length<=1:=by rw[List.length_map];exact qg
  match (pC w h T M (h - 1) p).map (fX (T 0 p 1)),hl with
  |[],_=>exact .nil
  |[_],_=>simp
  |_::_::_,hl=>simp at hl
 ·have nd:(List.range w).Nodup:=List.nodup_range;refine nd.imp λ {p q} hpq t ht u hu z=>?_;obtain⟨t',ht',rfl⟩:=List.mem_map.mp ht;obtain⟨u',hu',rfl⟩:=List.mem_map.mp hu;obtain⟨t2,_,rfl⟩:=nQ ht';obtain⟨u2,_,rfl⟩:=nQ hu';have:=O8 z;have h2:((p:Nat):Int)::t2.2.2=((q:Nat):Int)::u2.2.2:=congrArg (λ t:Wy=>t.2.2) this;have h3:((p:Nat):Int)=((q:Nat):Int):=(List.cons.inj h2).1;exact hpq (by omega)
noncomputable def gn (M:Nat->Nat->Int) (h:Nat) (s:Nat->Nat):Int:=((List.range h).map λ y=>fB (M y (s y))).sum
noncomputable def wS (T:Nat->Nat->Nat->Int) (M:Nat->Nat->Int) (h:Nat) (s:Nat->Nat):Wy:=(-gn M h s,cost h T s,(List.range h).map λ y=>((s y:Nat):Int))
structure m9 (w h:Nat) (M:Nat->Nat->Int) (s:Nat->Nat):Prop where
 sm:lV w h s
 ne:∀y < h,M y (s y)≠1
theorem aeo {s:Nat->Nat}:∀{k y:Nat},vl T M y ((List.range' y (k+1)).map s)=(-((List.range' y (k+1)).map λ y=>fB (M y (s y))).sum,((List.range' (y+1) k).map λ y=>fare T s y).sum,(List.range' y (k+1)).map λ y=>((s y:Nat):Int))
 | 0,y=>by
  show (0 - fB (M y (s y)),(0:Int),[((s y:Nat):Int)])=(-(fB (M y (s y))+0),0,[((s y:Nat):Int)]);rw[show 0 - fB (M y (s y))= -(fB (M y (s y))+0) by omega]
 | k +1,y=>by
  have ih:=aeo (s:=s) (k:=k) (y:=y+1);rw[List.range'_succ (s:=y),List.map_cons,List.map_cons,List.map_cons,List.sum_cons];rw[List.range'_succ (s:=y+1),List.map_cons,List.map_cons,List.map_cons,List.sum_cons] at ih |-;show sb _ (pre _ (fX _ (vl T M (y+1) _)))=_;rw[ih];simp only[sb,pre,fX];refine Prod.ext ?_ (Prod.ext ?_ rfl)
  ·show -_ - fB _= -_;omega
  ·rw[List.map_cons,List.sum_cons];show _+T (y+1) (s (y+1)) (s y+1 - s (y+1))=T (y+1) (s (y+1)) (s y+1 - s (y+1))+_;rw[Int.add_comm]
theorem aep {s:Nat->Nat} (h1:1<=h):fX (T 0 (s 0) 1) (vl T M 0 ((List.range h).map s))=wS T M h s:=by
 obtain⟨k,rfl⟩:∃k,h=k+1:=⟨h - 1,by omega⟩;rw[List.range_eq_range',aeo];simp only[fX,wS,gn,cost];refine Prod.ext ?_ (Prod.ext ?_ ?_)
 ·rw[List.range_eq_range']
 ·show ((List.range' (0+1) k).map λ y=>fare T s y).sum+T 0 (s 0) 1=T 0 (s 0) 1+((List.range (k+1 - 1)).map λ y=>fare T s (y+1)).sum;rw[Int.add_comm,Nat.add_sub_cancel,List.range'_eq_map_range,List.map_map];congr 3;funext i;show fare T s (0+1+i)=fare T s (i+1);rw[show 0+1+i=i+1 by omega]
 ·rw[List.range_eq_range']
theorem aer {s : Nat -> Nat} : ∀ {k y : Nat},Pa w M y ((List.range' y (k+1)).map s)↔(∀z,y<=z->z<=y+k->s z < w/\M z (s z)≠1)/\∀z,y<=z->z < y+k->s (z+1)<=s z+1/\s z<=s (z+1)+1
 | 0, y => ⟨λ h => ⟨λ z h1 h2 => by have:z=y:=by omega
                                    subst this;exact h,λ z h1 h2=>by omega⟩,λ h=>h.1 y (Nat.le_refl _) (Nat.le_refl _)⟩
 | k + 1,y=>by
  have ih:=aer (s:=s) (k:=k) (y:=y+1);rw[List.range'_succ (s:=y),List.map_cons];rw[List.range'_succ (s:=y+1),List.map_cons] at ih |-;constructor
  ·rintro⟨h1,h2,h3,h4,h5⟩
   obtain⟨q1,q2⟩:=ih.mp h5;refine⟨λ z z1 z2=>?_,λ z z1 z2=>?_⟩
   ·by_cases e:z=y
    ·subst e;exact⟨h1,h2⟩
    ·exact q1 z (by omega) (by omega)
   ·by_cases e:z=y
    ·subst e;exact⟨h3,h4⟩
    ·exact q2 z (by omega) (by omega)
  ·rintro⟨q1,q2⟩
   have a:=q1 y (Nat.le_refl _) (by omega);have b:=q2 y (Nat.le_refl _) (by omega);exact⟨a.1,a.2,b.1,b.2,ih.mpr ⟨λ z z1 z2=>q1 z (by omega) (by omega),λ z z1 z2=>q2 z (by omega) (by omega)⟩⟩
theorem YS {s:Nat->Nat} (h1:1<=h):Pa w M 0 ((List.range h).map s)↔m9 w h M s:=by
 obtain⟨k,rfl⟩:∃k,h=k+1:=⟨h - 1,by omega⟩;rw[List.range_eq_range',aer];constructor
 ·rintro⟨a,b⟩
  exact⟨⟨λ y hy=>(a y (by omega) (by omega)).1,λ y hy=>b y (by omega) (by omega)⟩,λ y hy=>(a y (by omega) (by omega)).2⟩
 ·rintro⟨⟨a,b⟩,c⟩
  exact⟨λ z _ z2=>⟨a z (by omega),c z (by omega)⟩,λ z _ z2=>b z (by omega)⟩
theorem acN (l:List Nat):∃s:Nat->Nat,l=(List.range l.length).map s:=
 ⟨λ y=>l.getD y 0,by
  apply List.ext_getElem?;intro i;rw[List.getElem?_map];by_cases hi:i < l.length
  ·rw[List.getElem?_range hi];simp[hi]
  ·rw[List.getElem?_eq_none (by omega),List.getElem?_eq_none (by simp;omega)];rfl⟩
theorem acO (h1:1<=h) {t:Wy} (ht:t∈topC w h T M):∃s,m9 w h M s/\t=wS T M h s:=by
 obtain⟨x,hx,hu⟩:=List.mem_flatMap.mp ht;obtain⟨u,hv,rfl⟩:=List.mem_map.mp hu;obtain⟨l,hl,hP,rfl⟩:=KD (k:=h - 1) (h:=h) (List.mem_range.mp hx) (by omega) hv;rw[show h - 1 - (h - 1)=0 by omega] at hP |-;obtain⟨s,hs⟩:=acN (x::l);have hlen:(x::l).length=h:=by rw[List.length_cons,hl];omega
 rw[hlen] at hs;have h0:s 0=x:=by
  obtain⟨k,rfl⟩:∃k,h=k+1:=⟨h - 1,by omega⟩;rw[List.range_succ_eq_map,List.map_cons] at hs;exact (List.cons.inj hs).1.symm
 rw[hs] at hP |-;refine⟨s,(YS h1).mp hP,?_⟩;rw[<-aep h1,h0]
theorem YT (h1:1<=h) {s:Nat->Nat} (q:m9 w h M s):∃t∈topC w h T M,lt (wS T M h s) t=false:=by
 have hP:=(YS h1).mpr q;rw[<-aep h1];obtain⟨k,rfl⟩:∃k,h=k+1:=⟨h - 1,by omega⟩;have e:(List.range (k+1)).map s=s 0::(List.range k).map λ y=>s (y+1):=by
  rw[List.range_succ_eq_map,List.map_cons,List.map_map];rfl
 rw[e] at hP |-;obtain⟨t,ht,hl⟩:=KJ (w:=w) (h:=k+1) (T:=T) (M:=M) (k:=k+1 - 1) (x:=s 0) (l:=(List.range k).map λ y=>s (y+1)) (by simp) (by omega) (by rw[show k+1 - 1 - (k+1 - 1)=0 by omega];exact hP);rw[show k+1 - 1 - (k+1 - 1)=0 by omega] at hl;exact⟨_,List.mem_flatMap.mpr ⟨s 0,List.mem_range.mpr (q.sm.lt 0 (by omega)),List.mem_map_of_mem ht⟩,by rw[YM];exact hl⟩
noncomputable def Bst (w h:Nat) (T:Nat->Nat->Nat->Int) (M:Nat->Nat->Int) (s:Nat->Nat):Prop:=m9 w h M s/\∀s',m9 w h M s'->lt (wS T M h s') (wS T M h s)=false
theorem least (h1:1<=h):(cG (topC w h T M)=[]/\∀s,¬m9 w h M s)\/∃s,cG (topC w h T M)=[wS T M h s]/\Bst w h T M s:=by
 by_cases hne:topC w h T M=[]
 ·left;refine⟨by rw[hne];rfl,λ s q=>?_⟩;obtain⟨t,ht,_⟩:=YT (T:=T) h1 q;rw[hne] at ht;cases ht
 ·right;obtain⟨v,ev,hv,hle⟩:=uF Uy hne;obtain⟨s,q,rfl⟩:=acO h1 hv;refine⟨s,ev,q,λ s' q'=>?_⟩;obtain⟨t,ht,hl⟩:=YT (T:=T) h1 q';exact Pk (hle t ht) hl
end
section
variable {w h:Nat} {T:Nat->Nat->Nat->Int} {M:Nat->Nat->Int} {f:Nat->Nat->Int} {m:Str} {ρ:aA}
noncomputable def aes:aA->So:=(aQ (bF (aF (aW iR 3) (ak (bin (λ ρ=>ao ρ 0) (λ _=> .ok (.int 0)) bN) (ak (λ ρ=>ao ρ 3) (ak (λ ρ=>ao ρ 3) (λ _=> .ok []))))) (aM 5)) (Ey 2 (bU 3 [5] (fV (λ ρ=>ao ρ 4)) (dj (dB 3 (bC (aM 0) (bC (aM 1) (bC (aM 2) nilG))))) (λ _=> .ok true) (dI (ak (λ ρ=>ao ρ 0) (ak (bin (λ ρ=>ao ρ 1) (λ ρ=>ao ρ 3) cO) (ak (λ ρ=>ao ρ 2) (λ _=> .ok []))))))))
theorem acP (h1:1<=h) {C:Nat->List Wy} {x:Nat} (hx:x < w) (hC:(C x).length<=1) {e1 e5:Option Ent} {acc:List D} (hl:acc.length<=1000):
  aes [vA (tab w h T),e1,some (.lst acc),vA (.int (x:Int)),vA (cP (C x)),e5]= .nx [vA (tab w h T),e1,some (.lst (acc++((C x).map (fX (T 0 x 1))).map dU)),vA (.int (x:Int)),vA (cP (C x)),vA (.int (T 0 x 1))]:=by
 have e0:iR [.lst ((List.range w).map λ x=>fM (T 0 x)),.int (x:Int),.int (x:Int)]= .ok (.int (T 0 x 1)):=by
  have:=GR (T:=T 0 x) (p:=λ x=>fM (T 0 x)) (a:=x) (b:=x) hx (by omega) (by omega) rfl
  rwa [show x+1 - x=1 by omega] at this
 refine aJ (aX (aZ (aD (au rfl rfl (o8 (α:=D) (x:=0) h1)) (aD rfl (aB rfl))) e0) rfl) ?_;refine (Uu (ds:=acc) rfl (cB (c:=dU) (h:=λ t=>dU (fX (T 0 x 1) t)) (l:=C x) (pP rfl) (by omega) λ t ht=>?_) (by simp;omega)).trans ?_
 ·exact cL rfl (cZ (aD rfl (aD (x:= .int (t.2.1+T 0 x 1)) (au rfl rfl rfl) (aB rfl))))
 ·rw[List.map_map];rfl
theorem Pn (h1:1<=h) {C:Nat->List Wy} (hC:∀p,(C p).length<=1) {e1:Option Ent}:∀{ps:List Nat} {acc:List D} {e3 e4 e5:Option Ent},(∀p∈ps,p < w)->acc.length+ps.length<=1000->
  ∃ z3 z4 z5,forL (dj (dB 2 (bC (aM 3) (bC (aM 4) nilG)))) aes (ps.map λ (p:Nat)=>D.tup [.int (p:Int),cP (C p)]) [vA (tab w h T),e1,some (.lst acc),e3,e4,e5] =
   .nx [vA (tab w h T),e1,some (.lst (acc++(ps.flatMap λ p=>(C p).map (fX (T 0 p 1))).map dU)),z3,z4,z5]
 |[],acc,e3,e4,e5,_,_=>⟨e3,e4,e5,by simp[forL]⟩
 | p::ps,acc,e3,e4,e5,hp,hl=>by
  rw[List.length_cons] at hl;have hpw:=hp p (by simp);have hc:=hC p;obtain⟨z3,z4,z5,e⟩:=Pn h1 hC (e1:=e1) (ps:=ps) (acc:=acc++((C p).map (fX (T 0 p 1))).map dU) (e3:=vA (.int (p:Int))) (e4:=vA (cP (C p))) (e5:=vA (.int (T 0 p 1))) (λ q hq=>hp q (by simp[hq])) (by simp;omega);refine⟨z3,z4,z5,fW rfl (acP h1 hpw hc (by omega)) (e.trans ?_)⟩;rw[List.flatMap_cons,List.map_append,List.append_assoc]
theorem RJ (h1:1<=h) (hw:w<=20):oZ [tab w h T,.lst ((List.range h).map λ y=>vZ w h T M (h - 1 - y))]= .ok (.lst ((topC w h T M).map dU)):=by
 obtain⟨z3,z4,z5,e⟩:=Pn (T:=T) h1 (C:=pC w h T M (h - 1)) (λ p=>qg) (e1:=vA (.lst ((List.range h).map λ y=>vZ w h T M (h - 1 - y)))) (ps:=List.range w) (acc:=[]) (e3:=none) (e4:=none) (e5:=none) (λ p hp=>List.mem_range.mp hp) (by simp;omega);exact bL (aJ (jZ rfl) (aJ (lE (tQ (p:=λ p=>cP (pC w h T M (h - 1) p)) (aB (au rfl rfl (o8 (α:=D) (x:=0) h1))) rfl) e) (bx rfl)))
theorem VB {cs:List Wy} (hl:cs.length < 64) (hn:(cs.map fl).Nodup) {u:aA->R D} {v:aA->R (Option Int)} (e:u ρ= .ok (.lst (cs.map dU))) (e0:v ρ= .ok (some 1)):pX (aF oW (ak u (λ _=> .ok []))) (λ _=> .ok none) v ρ= .ok (.lst ((cG cs).map dU)):=by
 have e1:oW [.lst (cs.map dU)]= .ok (.lst ((lH (cs.map fl)).map iZ)):=by
  rw[oW,yF];show (if _ then _ else _)=_;rw[if_pos ⟨by simpa using hl,hn⟩]
 have e2:jz ((lH (cs.map fl)).map iZ) none (some 1)=(cG cs).map dU:=by
  have e3:∀{n d:Nat},HT.sIx n d (some 1)=min 1 n:=λ {n d}=>by
   show (if (1:Int) < 0 then ((1:Int)+(n:Int)).toNat else min (1:Int).toNat n)=min 1 n;rw[if_neg (by decide)];rfl
  rw[jz,e3,Ay,Nat.sub_zero,List.drop_zero,<-List.map_take];have e4:∀l:List (List Int),l.take (min 1 (l.map iZ).length)=l.take 1:=λ l=>by cases l <;> simp
  rw[e4];unfold cG;rw[List.map_map];refine List.map_congr_left λ l hl=>?_;show iZ l=dU (un l);rw[yE,Pb l (List.mem_of_mem_take hl)]
 unfold pX;rw[aR (aB e) e1,e0];show R.ok (D.lst (jz _ none (some 1)))=_;rw[e2]
theorem Iz (h1:1<=h) (hh:h<=20) (hw:w<=20):nu [tab w h T,aY w h M,.int 1]= .ok (.lst ((cG (topC w h T M)).map dU)):=by
 have hl:=aa0 (w:=w) (h:=h) (T:=T) (M:=M);exact m8 (bx (VB (by omega) Uy (aZ (aD rfl (aB (aZ (aD rfl (aD rfl (aB rfl))) ((acL hh hw).trans (by rw[YL]))))) (RJ h1 hw)) rfl))
noncomputable def lwD:List Wy->D
 |[]=> .non
 |t::_=> .tup [.int t.2.1,.tup (t.2.2.map .int)]
noncomputable def lsD:List Wy->D
 |[]=> .non
 |t::_=> .tup (t.2.2.map .int)
theorem Pq (h1:1<=h) (hh:h<=20) (hw:w<=20):mY [tab w h T,aY w h M]= .ok (lwD (cG (topC w h T M))):=by
 have e:=Iz (T:=T) (M:=M) h1 hh hw;have hl:=sS (cs:=topC w h T M)
 match cG (topC w h T M),e,hl with
 |[],e,_=>exact m8 (aJ (aX (aZ (aD rfl (aD rfl (aB rfl))) e) rfl) (gY (dg (dO (Dh (ds:=[]) rfl)) (bx rfl))))
 |[t],e,_=>exact m8 (aJ (aX (aZ (aD rfl (aD rfl (aB rfl))) e) rfl) (aJ (cj (dO (Dh (ds:=[dU t]) rfl)) rfl) (aJ (aX (d:=dU t) (au (y:= .int 0) rfl rfl (Nk (i:=0) rfl)) rfl) (bx (cZ (aD rfl (aB rfl)))))))
 |_::_::_,_,hl=>simp at hl
theorem YW {α:Type} {k:D->R (Option D)} {c:α->D} {o:α->Option D}:∀{l:List α},(∀a∈l,k (c a)= .ok (o a))->kj k (l.map c)= .ok (l.filterMap o)
 |[],_=>rfl
 | a::l,h=>by
  rw[List.map_cons,kj,h a (by simp),FN,R.bh,YW λ b hb=>h b (by simp[hb]),R.bh];cases e:o a with
  |none=>rw[List.filterMap_cons_none e];rfl
  |some d=>rw[List.filterMap_cons_some e];rfl
theorem G3 {α:Type} {n:Nat} {caps:List Nat} {fi:aA->R (List D)} {gt:D->aA->R aA} {ft:aA->R Bool} {fe:aA->R D} {ρ:aA} {c:α->D} {o:α->Option D} {l:List α} (e1:fi ρ= .ok (l.map c)) (hl:l.length<=1000000)
  (e2:∀a∈l,pI gt ft fe (Cu n caps ρ) (c a)= .ok (o a)):bU n caps fi gt ft fe ρ= .ok (.lst (l.filterMap o)):=by
 rw[bU,e1,R.bh,YW e2,R.bh,cap,if_pos (Nat.le_trans (List.length_filterMap_le _ _) hl)]
theorem Di {ρ ρ1:aA} {gt:D->aA->R aA} {ft:aA->R Bool} {fe:aA->R D} {x d:D} {b:Bool} (e1:gt x ρ= .ok ρ1) (e2:ft ρ1= .ok b) (e3:fe ρ1= .ok d):pI gt ft fe ρ x= .ok (if b=true then some d else none):=by
 rw[pI,e1,R.bh,e2,R.bh];cases b with
 |true=>rw[if_pos rfl,if_pos rfl,e3];rfl
 |false=>rw[if_neg (by decide),if_neg (by decide)]
theorem aeu {u:aA->R D} {i:Int} (e:u ρ= .ok (.int i)):pU u ρ= .ok (.int (-i)):=by rw[pU,e];rfl
noncomputable def cnt (M:Nat->Nat->Int) (h:Nat) (s:Nat->Nat) (k:Int):Int:=((List.range h).map λ y=>if M y (s y)=k then (1:Int) else 0).sum
theorem Pr {α:Type} {p:α->Bool} {g:α->D}:∀{l:List α},((l.filterMap λ a=>if p a=true then some (g a) else none).length:Int)=(l.map λ a=>if p a=true then (1:Int) else 0).sum
 |[]=>rfl
 | a::l=>by
  rw[List.map_cons,List.sum_cons];cases e:p a with
  |true=>rw[List.filterMap_cons_some (b:=g a) (by simp[e]),List.length_cons,if_pos rfl,<-Pr (g:=g)];omega
  |false=>rw[List.filterMap_cons_none (by simp[e]),if_neg (by decide),<-Pr (g:=g)];omega
theorem Px {s:Nat->Nat} (hh:h<=20) (q:lV w h s) {k:Int}:iB [aY w h M,sm h s,.int k]= .ok (.int (cnt M h s k)):=by
 have e:cnt M h s k=(((List.range h).filterMap λ y=>if decide (M y (s y)=k)=true then some (D.int ((s y:Nat):Int)) else none).length:Int):=by
  rw[Pr];unfold cnt;simp only[decide_eq_true_eq]
 rw[e];refine bL (bx (aR (aB (x:= .lst ((List.range h).filterMap λ y=>if decide (M y (s y)=k)=true then some (D.int ((s y:Nat):Int)) else none)) (G3 (l:=List.range h) (c:=λ y=> .tup [row w (M y),.int ((s y:Nat):Int)]) (xT (aD rfl (aB rfl)) rfl rfl) (by rw[List.length_range];omega) λ y hy=>?_)) rfl));exact Di rfl (aO (au (au rfl rfl (jT (q.lt y (List.mem_range.mp hy)))) rfl nA)) rfl
theorem Py {p:Nat->Bool}:∀{l:List Nat},(l.map λ a=>if p a=true then (1:Int) else 0).sum=0↔∀a∈l,p a=false
 |[]=>by simp
 | a ::l=>by
  have ih:=Py (p:=p) (l:=l);have hp:∀l:List Nat,0<=(l.map λ a=>if p a=true then (1:Int) else 0).sum:=λ l=>by
   induction l with
   |nil=>exact Int.le_refl 0
   |cons a l ih=>rw[List.map_cons,List.sum_cons];split <;> omega
  have:=hp l;rw[List.map_cons,List.sum_cons];cases e:p a with
  | true=>
   rw[if_pos rfl];exact⟨λ z=>by omega,λ z=>by have:=z a (by simp);rw[e] at this;cases this⟩
  | false=>
   rw[if_neg (by decide),Int.zero_add,ih];exact⟨λ z b hb=>by rcases List.mem_cons.mp hb with q |q;(· rw[q];exact e);exact z b q,λ z b hb=>z b (by simp[hb])⟩
theorem Pz {s:Nat->Nat} {k:Int}:cnt M h s k=0↔∀y < h,M y (s y)≠k:=by
 have:cnt M h s k=((List.range h).map λ y=>if decide (M y (s y)=k)=true then (1:Int) else 0).sum:=by unfold cnt;simp only[decide_eq_true_eq]
 rw[this,Py];exact⟨λ z y hy=>of_decide_eq_false (z y (List.mem_range.mpr hy)),λ z y hy=>decide_eq_false (z y (List.mem_range.mp hy))⟩
end
section
variable {ns:List Int} {w h:Nat} {f M:Nat->Nat->Int} {T:Nat->Nat->Nat->Int} {m:Str} {s:Nat->Nat} {ρ:aA}
noncomputable def tI (l:List Int):D:= .tup (l.map .int)
noncomputable def cH (h:Nat) (s:Nat->Nat):List Int:=(List.range h).map λ y=>((s y:Nat):Int)
theorem abM:tI (cH h s)=sm h s:=by unfold tI cH;rw[List.map_map];rfl
noncomputable def ext (w:Nat) (l:List Int) (a:Int):List (List Int):=[a - 1,a,a+1].filterMap λ x=>if (decide (0<=x) && decide (x < (w:Int)))=true then some (l++[x]) else none
noncomputable def lst (l:List Int):Int:=l.getD (l.length - 1) 0
noncomputable def mK (w:Nat):Nat->List (List Int)
 |0=>(List.range w).map λ x=>[((x:Nat):Int)]
 |k+1=>(mK w k).flatMap λ l=>ext w l (lst l)
theorem IK {k:Nat}:lst (cH (k+1) s)=((s k:Nat):Int):=by simp[lst,cH]
theorem PB {k:Nat}:cH (k+1) s=cH k s++[((s k:Nat):Int)]:=by unfold cH;rw[List.range_succ,List.map_append];rfl
theorem Uz {l r:List Int} {a:Int}:r∈ext w l a↔∃x,(x=a - 1\/x=a\/x=a+1)/\0<=x/\x < (w:Int)/\r=l++[x]:=by
 unfold ext;rw[List.mem_filterMap];constructor
 ·rintro⟨x,hx,e⟩
  split at e
  ·rename_i hb;cases e;simp only[List.mem_cons,List.not_mem_nil,or_false] at hx;simp only[Bool.and_eq_true,decide_eq_true_eq] at hb;exact⟨x,hx,hb.1,hb.2,rfl⟩
  ·cases e
 ·rintro⟨x,hx,h0,h1,rfl⟩
  refine⟨x,by simpa using hx,?_⟩;rw[if_pos (by simp[h0,h1])]
theorem KN {s':Nat->Nat} {k:Nat} (e:∀y < k,s y=s' y):cH k s=cH k s':=by
 unfold cH;exact List.map_congr_left λ y hy=>by rw[e y (List.mem_range.mp hy)]
theorem IV {s':Nat->Nat} {k:Nat} (e:cH k s=cH k s'):∀y < k,s y=s' y:=λ y hy=>by
 have:=congrArg (λ l:List Int=>l[y]?) e;simp only[cH,List.getElem?_map,List.getElem?_range hy,Option.map_some,Option.some.injEq] at this;omega
theorem xW:∀{k:Nat} {l:List Int},l∈mK w k↔∃s,lV w (k+1) s/\l=cH (k+1) s
 | 0,l=>by
  unfold mK;rw[List.mem_map];constructor
  ·rintro⟨x,hx,rfl⟩
   exact⟨λ _=>x,⟨λ _ _=>List.mem_range.mp hx,λ y hy=>by omega⟩,rfl⟩
  ·rintro⟨s,q,rfl⟩
   exact⟨s 0,List.mem_range.mpr (q.lt 0 (by omega)),rfl⟩
 | k + 1,l=>by
  unfold mK;rw[List.mem_flatMap];constructor
  ·rintro⟨l',h',hl⟩
   obtain⟨s,q,rfl⟩:=xW.mp h';rw[IK] at hl;obtain⟨x,hx,h0,h1,rfl⟩:=Uz.mp hl;obtain⟨p,rfl⟩:=Int.eq_ofNat_of_zero_le h0;have e1:∀y < k+1,(λ y=>if y=k+1 then p else s y) y=s y:=λ y hy=>if_neg (by omega);refine⟨λ y=>if y=k+1 then p else s y,⟨λ y hy=>?_,λ y hy=>?_⟩,?_⟩
   ·by_cases e:y=k+1
    ·simp only[e,if_true];omega
    ·simp only[e,if_false];exact q.lt y (by omega)
   ·by_cases e:y=k
    ·subst e;simp only[if_true,show ¬y=y+1 by omega,if_false];omega
    ·simp only[show ¬y+1=k+1 by omega,show ¬y=k+1 by omega,if_false];exact q.st y (by omega)
   ·rw[PB (k:=k+1),KN e1];simp
  ·rintro⟨s,q,rfl⟩
   refine⟨cH (k+1) s,xW.mpr ⟨s,⟨λ y hy=>q.lt y (by omega),λ y hy=>q.st y (by omega)⟩,rfl⟩,?_⟩;rw[IK,Uz];have a:=q.st k (by omega);have b:=q.lt (k+1) (by omega);exact⟨((s (k+1):Nat):Int),by omega,by omega,by omega,PB⟩
theorem IW {l:List Int} {a:Int}:(ext w l a).length<=3:=by unfold ext;exact List.length_filterMap_le _ _
theorem KQ {F:List Int->List (List Int)}:∀{l:List (List Int)},(∀a∈l,(F a).length<=3)->(l.flatMap F).length<=3*l.length
 |[],_=>by simp
 | a::l,h=>by
  rw[List.flatMap_cons,List.length_append,List.length_cons];have h1:=h a (by simp);have h2:=KQ (l:=l) λ b hb=>h b (by simp[hb]);omega
theorem UG:∀{k:Nat},(mK w k).length<=w*3 ^ k
 |0=>by simp[mK]
 | k+1=>by
  unfold mK;have:=KQ (F:=λ l=>ext w l (lst l)) (l:=mK w k) λ a _=>IW;have h2:=UG (k:=k);rw[Nat.pow_succ];have:w*(3 ^ k*3)=3*(w*3 ^ k):=by rw[Nat.mul_comm (3 ^ k) 3,<-Nat.mul_assoc,Nat.mul_comm w 3,Nat.mul_assoc]
  omega
theorem aa1 {k:Nat} (hw:w<=4) (hk:k<=3):(mK w k).length<=108:=by
 have:=UG (w:=w) (k:=k);have h3:3 ^ k<=27:=by
  have:k=0\/k=1\/k=2\/k=3:=by omega
  rcases this with rfl |rfl |rfl |rfl <;> decide
 have:w*3 ^ k<=4*27:=Nat.mul_le_mul hw h3;omega
theorem Ja {k:Nat}:bN (tI (cH (k+1) s)) (.int (-1))= .ok (.int ((s k:Nat):Int)):=by
 have:atI ((cH (k+1) s).map D.int) (-1)=some (.int ((s k:Nat):Int)):=by
  unfold atI ixN;rw[if_neg (by omega),if_pos (by simp[cH];omega)];show ((cH (k+1) s).map D.int)[_]?=_;have e:(-1+(((cH (k+1) s).map D.int).length:Int)).toNat=k:=by simp[cH];omega
  rw[e];simp[cH]
 show bN (.tup ((cH (k+1) s).map D.int)) (.int (-1))=_;rw[bN,this]
theorem acQ {l:List Int} {a:Int}:(ext w l a).map tI=[a - 1,a,a+1].filterMap λ x=>if (decide (0<=x) && decide (x < (w:Int)))=true then some (tI (l++[x])) else none:=by
 unfold ext;rw[List.map_filterMap];congr 1;funext x;split <;> rfl
theorem aev {k:Nat} (hk:k < 20) (q:lV w (k+1) s) {e1 e2 e3:Option Ent} {acc:List D} (hl:acc.length<=1000):
  wyI [vA (.int (w:Int)),e1,e2,e3,vA (.lst acc),vA (tI (cH (k+1) s))]= .nx [vA (.int (w:Int)),e1,e2,e3,vA (.lst (acc++(ext w (cH (k+1) s) (lst (cH (k+1) s))).map tI)),vA (tI (cH (k+1) s))]:=by
 have hlen:=IW (w:=w) (l:=cH (k+1) s) (a:=lst (cH (k+1) s));have hwl:(cH (k+1) s).length=k+1:=by simp[cH]
 rw[IK] at hlen |-;refine aX (au rfl (y:= .lst ((ext w (cH (k+1) s) ((s k:Nat):Int)).map tI)) ?_ (acD (by rw[List.length_map];omega))) rfl;rw[acQ];refine G3 (l:=[((s k:Nat):Int) - 1,((s k:Nat):Int),((s k:Nat):Int)+1]) (c:=D.int) (gW (cZ (aD (au (au rfl rfl Ja) rfl rfl) (aD (au rfl rfl Ja) (aB (au (au rfl rfl Ja) rfl rfl)))))) (by simp) λ x hx=>?_;refine Di rfl ?_ (au rfl (cZ (aB rfl)) ((tO (by rw[List.length_map,hwl];simp;omega)).trans (by rw[tI,List.map_append];rfl)));by_cases h0:0<=x
 ·rw[decide_eq_true h0,Bool.true_and];exact nY (aO (au rfl rfl (qL h0))) (aO (au rfl rfl rfl))
 ·rw[decide_eq_false h0,Bool.false_and];refine CK (aO (au rfl rfl ?_));show R.ok (D.bl (decide _))=_;rw[decide_eq_false h0]
theorem PJ {k:Nat} (hk:k < 20) {e1 e2 e3:Option Ent}:∀{ws:List (List Int)} {acc:List D} {e5:Option Ent},(∀l∈ws,∃s,lV w (k+1) s/\l=cH (k+1) s)->acc.length+3*ws.length<=1000->
  ∃z5,forL (aM 5) wyI (ws.map tI) [vA (.int (w:Int)),e1,e2,e3,vA (.lst acc),e5]= .nx [vA (.int (w:Int)),e1,e2,e3,vA (.lst (acc++(ws.flatMap λ l=>ext w l (lst l)).map tI)),z5]
 |[],acc,e5,_,_=>⟨e5,by simp[forL]⟩
 | l::ws,acc,e5,hw,hl=>by
  rw[List.length_cons] at hl;obtain⟨s,q,rfl⟩:=hw l (by simp);have hlen:=IW (w:=w) (l:=cH (k+1) s) (a:=lst (cH (k+1) s));obtain⟨z5,e⟩:=PJ hk (e1:=e1) (e2:=e2) (e3:=e3) (ws:=ws) (acc:=acc++(ext w (cH (k+1) s) (lst (cH (k+1) s))).map tI) (e5:=vA (tI (cH (k+1) s))) (λ l hl=>hw l (by simp[hl])) (by rw[List.length_append,List.length_map];omega);refine⟨z5,fW rfl (aev hk q (by omega)) (e.trans ?_)⟩;rw[List.flatMap_cons,List.map_append,List.append_assoc]
theorem aew {k:Nat} (hk:k < 3) (hw:w<=4) {e1 e3 e4 e5:Option Ent}:∃z4 z5,wyO [vA (.int (w:Int)),e1,vA (.lst ((mK w k).map tI)),e3,e4,e5]= .nx [vA (.int (w:Int)),e1,vA (.lst ((mK w (k+1)).map tI)),e3,z4,z5]:=by
 have hl:=aa1 (k:=k) hw (by omega);obtain⟨z5,e⟩:=PJ (w:=w) (k:=k) (by omega) (e1:=e1) (e2:=vA (.lst ((mK w k).map tI))) (e3:=e3) (ws:=mK w k) (acc:=[]) (e5:=e5) (λ l hl=>xW.mp hl) (by simp;omega);exact⟨_,z5,aJ (aX (gq rfl) rfl) (aJ (lE (pP rfl) e) (aX (d:= .lst ((mK w (k+1)).map tI)) rfl rfl))⟩
theorem PL (hw:w<=4) {e1:Option Ent}:∀{r k:Nat} {ys:List Nat} {e3 e4 e5:Option Ent},ys.length=r->k+r<=3->∃z3 z4 z5,forL (aM 3) wyO (ys.map λ (y:Nat)=>D.int (y:Int)) [vA (.int (w:Int)),e1,vA (.lst ((mK w k).map tI)),e3,e4,e5]= .nx [vA (.int (w:Int)),e1,vA (.lst ((mK w (k+r)).map tI)),z3,z4,z5]
 |0,k,ys,e3,e4,e5,hl,_=>by cases List.length_eq_zero_iff.mp hl;exact⟨e3,e4,e5,rfl⟩
 | r +1,k,ys,e3,e4,e5,hl,hk=>by
  cases ys with
  |nil=>cases hl
  | cons y ys=>
   obtain⟨y4,y5,e⟩:=aew (k:=k) (by omega) hw (e1:=e1) (e3:=vA (.int (y:Int))) (e4:=e4) (e5:=e5);obtain⟨z3,z4,z5,e'⟩:=PL hw (e1:=e1) (r:=r) (k:=k+1) (ys:=ys) (e3:=vA (.int (y:Int))) (e4:=y4) (e5:=y5) (by simpa using hl) (by omega);rw[show k+1+r=k+(r+1) by omega] at e';exact⟨z3,z4,z5,fW rfl e e'⟩
theorem acR (hw:w<=4) (h1:1<=h) (hh:h<=4):mX [.int (w:Int),.int (h:Int)]= .ok (.lst ((mK w (h - 1)).map tI)):=by
 obtain⟨z3,z4,z5,e⟩:=PL hw (e1:=vA (.int (h:Int))) (r:=h - 1) (k:=0) (ys:=List.range (h - 1)) (e3:=none) (e4:=none) (e5:=none) (by simp) (by omega);rw[Nat.zero_add] at e;refine bL (aJ (aX (d:= .lst ((mK w 0).map tI)) ?_ rfl) (aJ (lE (jL (m:=h - 1) (aB (au rfl rfl (Az h1))) (by omega)) e) (bx rfl)));have:(mK w 0).map tI=(List.range w).map λ (x:Nat)=>D.tup [.int (x:Int)]:=by unfold mK;rw[List.map_map];rfl
 rw[this];exact cB (c:=λ (x:Nat)=>D.int (x:Int)) (h:=λ (x:Nat)=>D.tup [.int (x:Int)]) (l:=List.range w) (jL (aB rfl) (by omega)) (by rw[List.length_range];omega) λ x hx=>cL rfl (cZ (aB rfl))
theorem aex {p q:aA->R Bool} (e1:p ρ= .ok true):tX p q ρ= .ok true:=by rw[tX,e1,R.bh,if_pos rfl]
noncomputable def bD:Option Wy->D
 |none=> .non
 |some t=>dU t
theorem YX {a b:Wy}:Ou (dU a) (dU b)= .ok (.bl (lt a b)):=by
 have e:∀t:Wy,lJ (dU t)=some (fl t):=λ t=>by rw[yE];exact Ag
 rw[Ou,e,e]
theorem agJ:dU (wS T M h s)= .tup [.int (-gn M h s),.int (cost h T s),sm h s]:=by
 rw[<-abM];rfl
theorem VD {s':Nat->Nat} (h1:1<=h) (e:∀y < h,s y=s' y):cost h T s=cost h T s':=by
 unfold cost;rw[e 0 h1];congr 2;refine List.map_congr_left λ y hy=>?_;have hy:y+1 < h:=by have:=List.mem_range.mp hy;omega
 unfold fare;rw[e (y+1) hy,e (y+1 - 1) (by omega)]
theorem PN {s':Nat->Nat} (h1:1<=h) (e:∀y < h,s y=s' y):wS T M h s=wS T M h s':=by
 unfold wS;rw[VD h1 e,show gn M h s=gn M h s' by unfold gn;exact congrArg List.sum (List.map_congr_left λ y hy=>by rw[e y (List.mem_range.mp hy)])];exact congrArg (λ z=>(_,_,z)) (KN e)
theorem YZ {s':Nat->Nat} (e:∀y < h,s y=s' y) (q:m9 w h M s):m9 w h M s':=
 ⟨⟨λ y hy=>by rw[<-e y hy];exact q.sm.lt y hy,λ y hy=>by rw[<-e y (by omega),<-e (y+1) hy];exact q.sm.st y hy⟩,λ y hy=>by rw[<-e y hy];exact q.ne y hy⟩
noncomputable def DQ (w h:Nat) (T:Nat->Nat->Nat->Int) (M:Nat->Nat->Int) (seen:List (List Int)):Option Wy->Prop
 |none=>∀s,cH h s∈seen->¬m9 w h M s
 |some t=>(∃s,m9 w h M s/\t=wS T M h s)/\∀s,cH h s∈seen->m9 w h M s->lt (wS T M h s) t=false
theorem aa2 {seen:List (List Int)} {b:Option Wy} (hs:¬m9 w h M s) (q:DQ w h T M seen b):DQ w h T M (seen++[cH h s]) b:=by
 have key:∀s',cH h s'∈seen++[cH h s]->m9 w h M s'->cH h s'∈seen:=λ s' h' q'=>by
  rcases List.mem_append.mp h' with z |z
  ·exact z
  ·exact absurd (YZ (IV (List.mem_singleton.mp z)) q') hs
 cases b with
 |none=>exact λ s' h' q'=>q s' (key s' h' q') q'
 |some t=>exact⟨q.1,λ s' h' q'=>q.2 s' (key s' h' q') q'⟩
theorem PX {seen:List (List Int)} {b:Option Wy} (h1:1<=h) (hs:m9 w h M s) (q:DQ w h T M seen b) (hb:∀t,b=some t->lt (wS T M h s) t=true):DQ w h T M (seen++[cH h s]) (some (wS T M h s)):=by
 refine⟨⟨s,hs,rfl⟩,λ s' h' q'=>?_⟩;rcases List.mem_append.mp h' with z |z
 ·cases b with
  |none=>exact absurd q' (q s' z)
  | some t=>
   have a:=q.2 s' z q';cases e:lt (wS T M h s') (wS T M h s) with
   |false=>rfl
   | true=>
    have:=lG e (hb t rfl);exact this.symm.trans a
 ·rw[PN (T:=T) (M:=M) h1 (IV (List.mem_singleton.mp z))];exact oh _
theorem Y0 {seen:List (List Int)} {t:Wy} (h1:1<=h) (q:DQ w h T M seen (some t)) (hb:lt (wS T M h s) t=false):DQ w h T M (seen++[cH h s]) (some t):=by
 refine⟨q.1,λ s' h' q'=>?_⟩;rcases List.mem_append.mp h' with z |z
 ·exact q.2 s' z q'
 ·rw[PN (T:=T) (M:=M) h1 (IV (List.mem_singleton.mp z))];exact hb
theorem aey (hm:m= "worth"\/m= "joins") (o:Ok w h f) (q:lV w h s) {seen:List (List Int)} {b:Option Wy} (hb:DQ w h (tbl m w h f) M seen b) {e5:Option Ent}:
  ∃b' z5,beB [vA (aY w h f),vA (.str m),vA (aY w h M),vA (bD b),vA (tI (cH h s)),e5]= .nx [vA (aY w h f),vA (.str m),vA (aY w h M),vA (bD b'),vA (tI (cH h s)),z5]/\DQ w h (tbl m w h f) M (seen++[cH h s]) b':=by
 have e1:=Px (M:=M) (k:=1) o.h2 q;rw[abM];by_cases hc:cnt M h s 1=0
 ·have fr:m9 w h M s:=⟨q,Pz.mp hc⟩;have eh:dI (ak (pU (aF (aW iB 3) (ak (λ ρ=>ao ρ 2) (ak (λ ρ=>ao ρ 4) (ak (λ _=> .ok (.int 2)) (λ _=> .ok [])))))) (ak (aF (aW gM 3) (ak (λ ρ=>ao ρ 0) (ak (λ ρ=>ao ρ 1) (ak (λ ρ=>ao ρ 4) (λ _=> .ok []))))) (ak (λ ρ=>ao ρ 4) (λ _=> .ok [])))) [vA (aY w h f),vA (.str m),vA (aY w h M),vA (bD b),vA (sm h s),e5]= .ok (dU (wS (tbl m w h f) M h s)):=by
   rw[agJ];exact cZ (aD (aeu (aZ (aD rfl (aD rfl (aB rfl))) (Px o.h2 q))) (aD (aZ (aD rfl (aD rfl (aB rfl))) (DP hm o q)) (aB rfl)))
  cases b with
  | none=>
   exact⟨some (wS (tbl m w h f) M h s),vA (dU (wS (tbl m w h f) M h s)),dg (aO (au (aZ (aD rfl (aD rfl (aB rfl))) e1) rfl (by rw[nA,decide_eq_true hc]))) (aJ (aX eh rfl) (aX (tR (aex (aO (au rfl rfl rfl))) rfl) rfl)),PX o.h1 fr hb λ t e=>nomatch e⟩
  | some t=>
   cases hlt:lt (wS (tbl m w h f) M h s) t with
   | true=>
    exact⟨some (wS (tbl m w h f) M h s),vA (dU (wS (tbl m w h f) M h s)),dg (aO (au (aZ (aD rfl (aD rfl (aB rfl))) e1) rfl (by rw[nA,decide_eq_true hc]))) (aJ (aX eh rfl) (aX (tR (mV (aO (au rfl rfl rfl)) (aO (au rfl rfl (YX.trans (by rw[hlt]))))) rfl) rfl)),PX o.h1 fr hb λ t' e=>by cases e;exact hlt⟩
   | false=>
    exact⟨some t,vA (dU (wS (tbl m w h f) M h s)),dg (aO (au (aZ (aD rfl (aD rfl (aB rfl))) e1) rfl (by rw[nA,decide_eq_true hc]))) (aJ (aX eh rfl) (aX (xV (mV (aO (au rfl rfl rfl)) (aO (au rfl rfl (YX.trans (by rw[hlt]))))) rfl) rfl)),Y0 o.h1 hb hlt⟩
 ·exact⟨b,e5,cj (aO (au (aZ (aD rfl (aD rfl (aB rfl))) e1) rfl (by rw[nA,decide_eq_false hc]))) rfl,aa2 (λ z=>hc (Pz.mpr z.ne)) hb⟩
theorem UJ (hm:m= "worth"\/m= "joins") (o:Ok w h f):∀{ws seen:List (List Int)} {b:Option Wy} {e4 e5:Option Ent},(∀l∈ws,∃s,lV w h s/\l=cH h s)->DQ w h (tbl m w h f) M seen b->
  ∃b' z4 z5,forL (aM 4) beB (ws.map tI) [vA (aY w h f),vA (.str m),vA (aY w h M),vA (bD b),e4,e5]= .nx [vA (aY w h f),vA (.str m),vA (aY w h M),vA (bD b'),z4,z5]/\DQ w h (tbl m w h f) M (seen++ws) b'
 |[],seen,b,e4,e5,_,hb=>⟨b,e4,e5,rfl,by rw[List.append_nil];exact hb⟩
 | l::ws,seen,b,e4,e5,hw,hb=>by
  obtain⟨s,q,rfl⟩:=hw l (by simp);obtain⟨b1,y5,e1,h1⟩:=aey hm o q hb (e5:=e5);obtain⟨b',z4,z5,e2,h2⟩:=UJ hm o (ws:=ws) (seen:=seen++[cH h s]) (b:=b1) (e4:=vA (tI (cH h s))) (e5:=y5) (λ l hl=>hw l (by simp[hl])) h1;exact⟨b',z4,z5,fW rfl e1 e2,by rw[List.append_assoc] at h2;exact h2⟩
theorem Fe (hm:m= "worth"\/m= "joins") (o:Ok w h f) (hw:w<=4) (hh:h<=4):iV [aY w h f,.str m,aY w h M]= .ok (lsD (cG (topC w h (tbl m w h f) M))):=by
 have h1:=o.h1;have hk:h - 1+1=h:=by omega
 obtain⟨b,z4,z5,e,hb⟩:=UJ (M:=M) hm o (ws:=mK w (h - 1)) (seen:=[]) (b:=none) (e4:=none) (e5:=none) (λ l hl=>by have:=xW.mp hl;rwa [hk] at this) (λ s hs=>by cases hs);rw[List.nil_append] at hb;have all:∀s,m9 w h M s->cH h s∈mK w (h - 1):=λ s q=>xW.mpr ⟨s,by rw[hk];exact⟨q.sm,rfl⟩⟩;have fin:(retS (zu (bZ (bin (λ ρ=>ao ρ 3) (λ _=> .ok .non) isD)) (λ _=> .ok .non) (bin (λ ρ=>ao ρ 3) (λ _=> .ok (.int 2)) bN))) [vA (aY w h f),vA (.str m),vA (aY w h M),vA (bD b),z4,z5]= .rt (lsD (cG (topC w h (tbl m w h f) M))):=by
  rcases least (w:=w) (h:=h) (T:=tbl m w h f) (M:=M) h1 with⟨en,hno⟩ |⟨s,en,hs⟩
  ·rw[en];cases b with
   |none=>exact bx (tR (aO (au rfl rfl rfl)) rfl)
   |some t=>obtain⟨⟨s,q,_⟩,_⟩:=hb;exact absurd q (hno s)
  ·rw[en];cases b with
   |none=>exact absurd hs.1 (hb s (all s hs.1))
   | some t=>
    obtain⟨⟨s',q',rfl⟩,hle⟩:=hb;have e1:=hs.2 s' q';have e2:=hle s (all s hs.1) hs.1;rw[aen e2 e1];exact bx (xV (aO (au rfl rfl rfl)) (au (y:= .int 2) rfl rfl (gB (i:=2) rfl)))
 exact bL (aJ (aX rfl rfl) (aJ (lE (pP (aZ (aD (len0 o rfl) (aB (aR (aB rfl) qb))) (acR hw h1 hh))) e) fin))
end
section
variable {ns:List Int} {w h k:Nat} {f M:Nat->Nat->Int} {T:Nat->Nat->Nat->Int} {m:Str} {s:Nat->Nat} {ρ:aA}
theorem aez (hns:ns.length<=1000000):∃w h f,mZ [.lst (ns.map .int),.int 0,.int 4,.int 3]= .ok (aY w h f)/\Ok w h f/\w<=4/\h<=3:=by
 obtain⟨e1,h1,h2⟩:=qH (k:=0) (m:=4) hns (by omega) (by omega);obtain⟨e2,h3,h4⟩:=qH (k:=0+1) (m:=3) hns (by omega) (by omega);obtain⟨w,hw⟩:=Int.eq_ofNat_of_zero_le (show 0<=1+dr ns 0 4 by omega);obtain⟨h,hh⟩:=Int.eq_ofNat_of_zero_le (show 0<=1+dr ns (0+1) 3 by omega);obtain⟨f,e,o⟩:=Vw (ns:=ns) (a:=0+2) (w:=w) (h:=h) hns (by omega) (by omega) (by omega) (by omega) (by omega);refine⟨w,h,f,bL (bx (aZ (aD rfl (aD (au rfl rfl rfl) (aD (au rfl (aZ (aD rfl (aD rfl (aB rfl))) e1) (congrArg (λ z=>R.ok (D.int z)) hw)) (aB (au rfl (aZ (aD rfl (aD (au rfl rfl rfl) (aB rfl))) e2) (congrArg (λ z=>R.ok (D.int z)) hh)))))) e)),o,by omega,by omega⟩
noncomputable def Sg (sg:List Int):Prop:=0 < sg.length/\sg.length<=5/\∀i∈sg,0<=i/\i<=2
theorem Sg.get {sg:List Int} (s:Sg sg) (k:Nat):0<=sg.getD k 0/\sg.getD k 0<=2:=by
 by_cases hk:k < sg.length
 ·have:sg.getD k 0=sg[k]:=by simp[hk]
  rw[this];exact s.2.2 _ (List.getElem_mem _)
 ·have:sg.getD k 0=0:=by simp[List.getD,List.getElem?_eq_none (Nat.le_of_not_lt hk)]
  rw[this];omega
theorem afM {sg:List Int} {k:Int} (h0:0<=k) (h1:k < sg.length):bN (.lst (sg.map .int)) (.int k)= .ok (.int (sg.getD k.toNat 0)):=by
 obtain⟨n,rfl⟩:=Int.eq_ofNat_of_zero_le h0;have hn:n < sg.length:=by omega
 refine Nk (i:=n) ?_;rw[List.getElem?_map,List.getElem?_eq_getElem hn];simp[hn]
noncomputable def Y4 (ns:List Int) (w:Nat) (sg:List Int) (y x:Nat):Int:=sg.getD (dr ns (30+1+(w:Int)*(y:Int)+(x:Int)) sg.length).toNat 0
theorem aeA (hns:ns.length<=1000000) (hw:w<=20) {sg:List Int} (s:Sg sg) {y:Nat} (hy:y < 20) {e2 e7:Option Ent} {acc:List D} (hl:acc.length<=1000):
  mkB [vA (.lst (ns.map .int)),vA (.int 30),e2,some (.lst acc),vA (.lst (sg.map .int)),vA (.int (y:Int)),vA (row w (f y)),e7] =
   .nx [vA (.lst (ns.map .int)),vA (.int 30),e2,some (.lst (acc++[row w (Y4 ns w sg y)])),vA (.lst (sg.map .int)),vA (.int (y:Int)),vA (row w (f y)),vA (.int (30+1+(w:Int)*(y:Int)))]:=by
 have hp:(0:Int)<=(w:Int)*(y:Int):=Int.mul_nonneg (by omega) (by omega);refine aJ (aX (d:= .int (30+1+(w:Int)*(y:Int))) (au (x:= .int (30+1)) (au rfl rfl rfl) (au (aR (aB rfl) p8) rfl ((show zU (.int (w:Int)) (.int (y:Int))=ig (.int (w:Int)) (.int (y:Int)) from rfl).trans (mW (.inl (by omega))))) rfl) rfl) ?_;refine Ba (ds:=acc) (aR (aB (cB (c:=λ (x:Nat)=>D.int (x:Int)) (h:=λ x=> .int (Y4 ns w sg y x)) (l:=List.range w) (jL (aB (aR (aB rfl) p8)) (by omega)) (by rw[List.length_range];omega) λ x hx=>?_)) rfl) rfl (by omega);obtain⟨e1,h1,h2⟩:=qH (k:=30+1+(w:Int)*(y:Int)+(x:Int)) (m:=(sg.length:Int)) hns (by omega) (by have:=s.1;omega);have hlen:bW [.lst (sg.map .int)]= .ok (.int (sg.length:Int)):=by simp[bW]
 exact cL rfl (au rfl (aZ (aD rfl (aD (au rfl rfl rfl) (aB (aR (aB rfl) hlen)))) e1) (afM h1 h2))
theorem UL (hns:ns.length<=1000000) (hw:w<=20) {sg:List Int} (s:Sg sg) {e2:Option Ent}:∀{ys:List Nat} {acc:List D} {e5 e6 e7:Option Ent},(∀y∈ys,y < 20)->acc.length+ys.length<=1000->
  ∃ z5 z6 z7,forL (dj (dB 2 (bC (aM 5) (bC (aM 6) nilG)))) mkB (ys.map λ (y:Nat)=>D.tup [.int (y:Int),row w (f y)]) [vA (.lst (ns.map .int)),vA (.int 30),e2,some (.lst acc),vA (.lst (sg.map .int)),e5,e6,e7] =
   .nx [vA (.lst (ns.map .int)),vA (.int 30),e2,some (.lst (acc++ys.map λ y=>row w (Y4 ns w sg y))),vA (.lst (sg.map .int)),z5,z6,z7]
 |[],acc,e5,e6,e7,_,_=>⟨e5,e6,e7,by simp[forL]⟩
 | y::ys,acc,e5,e6,e7,hy,hl=>by
  rw[List.length_cons] at hl;obtain⟨z5,z6,z7,e⟩:=UL hns hw s (e2:=e2) (ys:=ys) (acc:=acc++[row w (Y4 ns w sg y)]) (e5:=vA (.int (y:Int))) (e6:=vA (row w (f y))) (e7:=vA (.int (30+1+(w:Int)*(y:Int)))) (λ q hq=>hy q (by simp[hq])) (by simp;omega);exact⟨z5,z6,z7,fW rfl (aeA hns hw s (hy y (by simp)) (by omega)) (e.trans (by rw[List.map_cons,List.append_assoc];rfl))⟩
theorem aa3 (hns:ns.length<=1000000) (o:Ok w h f):∃M,lM [.lst (ns.map .int),.int 30,aY w h f]= .ok (aY w h M)/\Mk w h M:=by
 have m7:=o.h2;obtain⟨e1,h0,h4⟩:=qH (k:=30) (m:=4) hns (by omega) (by omega);obtain⟨d,hd,ed⟩:=CJ (xs:=[D.lst (([0,0,0,1,2]:List Int).map .int),.lst (([0,0,0,0,1]:List Int).map .int),.lst (([0,0,2,0,0]:List Int).map .int),.lst (([0]:List Int).map .int)]) h0 h4;have hs:∃sg,d= .lst (sg.map .int)/\Sg sg:=by
  simp only[List.mem_cons,List.not_mem_nil,or_false] at hd;rcases hd with rfl |rfl |rfl |rfl
  ·exact⟨[0,0,0,1,2],rfl,by decide,by decide,by decide⟩
  ·exact⟨[0,0,0,0,1],rfl,by decide,by decide,by decide⟩
  ·exact⟨[0,0,2,0,0],rfl,by decide,by decide,by decide⟩
  ·exact⟨[0],rfl,by decide,by decide,by decide⟩
 obtain⟨sg,rfl,s⟩:=hs;obtain⟨z5,z6,z7,e⟩:=UL (f:=f) hns o.w2 s (e2:=vA (aY w h f)) (ys:=List.range h) (acc:=[]) (e5:=none) (e6:=none) (e7:=none) (λ y hy=>by have:=List.mem_range.mp hy;omega) (by simp;omega);refine⟨Y4 ns w sg,bL (aJ (jZ rfl) (aJ (aX (au (x:= .lst [D.lst (([0,0,0,1,2]:List Int).map .int),.lst (([0,0,0,0,1]:List Int).map .int),.lst (([0,0,2,0,0]:List Int).map .int),.lst (([0]:List Int).map .int)]) (gq (aD (gq rfl) (aD (gq rfl) (aD (gq rfl) (aB (gq rfl)))))) (aZ (aD rfl (aD rfl (aB rfl))) e1) (xg ed)) rfl) (aJ (lE (tQ (aB rfl) rfl) e) (bx (aR (aB rfl) rfl))))),λ y x=>s.get _⟩
theorem Y5 (hns:ns.length<=1000000):∃m:Str,(m= "worth"\/m= "joins")/\jP [.lst (ns.map .int),.int 60]= .ok (.str m):=by
 obtain⟨e1,h0,h2⟩:=qH (k:=60) (m:=2) hns (by omega) (by omega);obtain⟨d,hd,ed⟩:=CJ (xs:=[D.str "worth",.str "joins"]) h0 h2;simp only[List.mem_cons,List.not_mem_nil,or_false] at hd;rcases hd with rfl |rfl
 ·exact⟨"worth",.inl rfl,bL (bx (au (x:= .lst [D.str "worth",.str "joins"]) (gq rfl) (aZ (aD rfl (aD rfl (aB rfl))) e1) (xg ed)))⟩
 ·exact⟨"joins",.inr rfl,bL (bx (au (x:= .lst [D.str "worth",.str "joins"]) (gq rfl) (aZ (aD rfl (aD rfl (aB rfl))) e1) (xg ed)))⟩
theorem P0 {α β:Type} {f:α->Option β} {g:α->β}:∀{l:List α},(∀a∈l,f a=some (g a))->l.filterMap f=l.map g
 |[],_=>rfl
 |a::l,h=>by rw[List.filterMap_cons_some (h a (by simp)),List.map_cons,P0 λ b hb=>h b (by simp[hb])]
theorem acS {g:Nat->Int} {n:Nat} (hn:n < w):(List.range w).filterMap (λ x=>if x=n then none else some (D.int (g x)))=(List.range (w - 1)).map λ x=>D.int (if x < n then g x else g (x+1)):=by
 rw[<-O6 hn,<-List.map_take,<-List.map_drop];have e2:List.range w=(List.range w).take n++n::(List.range w).drop (n+1):=by
  have:=List.take_append_drop n (List.range w);rw[List.drop_eq_getElem_cons (by simpa using hn)] at this;simpa using this.symm
 conv=>lhs;rw[e2]
 rw[List.filterMap_append,List.filterMap_cons_none (by simp),P0 (g:=λ x=>D.int (g x)) λ x hx=>?_,P0 (g:=λ x=>D.int (g x)) λ x hx=>?_]
 ·obtain⟨i,hi,e⟩:=List.mem_iff_getElem.mp hx;simp at e;rw[if_neg (by omega)]
 ·rw[List.take_range] at hx;have:=List.mem_range.mp hx;rw[if_neg (by omega)]
theorem Bb (q:lV w h s) (m7:h<=20) (w20:w<=20):iM [aY w h f,sm h s]= .ok (aY (w - 1) h (less s f)):=by
 refine bL (bx (aR (aB (cB (c:=λ y=> .tup [row w (f y),.int ((s y:Nat):Int)]) (h:=λ y=>row (w - 1) (less s f y)) (l:=List.range h) (xT (aD rfl (aB rfl)) rfl rfl) (by rw[List.length_range];omega) λ y hy=>?_)) rfl));refine cL rfl (aR (aB (x:= .lst ((List.range w).filterMap λ x=>if x=s y then none else some (D.int (f y x)))) (G3 (l:=List.range w) (c:=λ (x:Nat)=>D.tup [.int (x:Int),.int (f y x)]) (tQ (aB rfl) rfl) (by rw[List.length_range];omega) λ x hx=>?_)) ?_)
 ·have e:jJ (.int (x:Int)) (.int ((s y:Nat):Int))= .ok (.bl (!decide (x=s y))):=by
   rw[jJ,if_pos (by simp[dep])];show R.ok (D.bl (!fK (.int (x:Int)) (.int ((s y:Nat):Int))))=_;by_cases h:x=s y
   ·simp[lg,lq,lu,lA,lB,gk,eF,h]
   ·have h':¬(x:Int)=((s y:Nat):Int):=by omega
    simp[fK,h,h']
  refine (Di rfl (aO (au rfl rfl e)) rfl).trans ?_;by_cases h:x=s y
  ·simp[h]
  ·simp[h]
 ·rw[acS (q.lt y (List.mem_range.mp hy))];rfl
theorem free_eq (o:Ok w h f):jY [aY w h f]= .ok (aY w h λ _ _=>0):=by
 have m7:=o.h2;exact bL (bx (aR (aB (cB (c:=λ y=>row w (f y)) (h:=λ _=>row w λ _=>0) (l:=List.range h) (gW rfl) (by rw[List.length_range];omega) λ y hy=>cL rfl (au (cZ (aB rfl)) (aR (aB rfl) p8) (mul_one o.w1 o.w2)))) rfl))
theorem aeB:lwD [wS T M h s]= .tup [.int (cost h T s),sm h s]:=by
 show D.tup [.int (cost h T s),.tup (((List.range h).map λ y=>((s y:Nat):Int)).map .int)]=_;rw[List.map_map];rfl
theorem Y6:lsD [wS T M h s]=sm h s:=by
 show D.tup (((List.range h).map λ y=>((s y:Nat):Int)).map .int)=_;rw[List.map_map];rfl
theorem acT {p q:aA->R Bool} (e1:p ρ= .ok true):tX p q ρ= .ok true:=by rw[tX,e1,R.bh,if_pos rfl]
theorem aa4 {p:aA->R Bool} {b:aA->So} {n:Nat} (e:p (cR ρ)= .ok false):fZ p b (n+1) ρ= .nx ρ:=by rw[fZ,e]
theorem Qa {p:aA->R Bool} {b:aA->So} {n:Nat} {ρ1:aA} {o:So} (e:p (cR ρ)= .ok true) (e1:b ρ= .nx ρ1) (e2:fZ p b n ρ1=o):fZ p b (n+1) ρ=o:=by rw[fZ,e];simp only[e1,e2]
theorem abN {p:aA->R Bool} {b:aA->So} {n:Nat} {d:D} (e:p (cR ρ)= .ok true) (e1:b ρ= .rt d):fZ p b (n+1) ρ= .rt d:=by rw[fZ,e];simp only[e1]
noncomputable abbrev gO:=(Nat->Nat)×(Nat->Int)
noncomputable def cY (h:Nat) (p:gO):D:= .tup [sm h p.1,row h p.2]
noncomputable def Jb (h:Nat):Nat->List gO->Prop
 |_,[]=>True
 |w,p::r=>lV (w+1) h p.1/\(∀y < h,0<=p.2 y/\p.2 y<=99)/\Jb h (w+1) r
noncomputable def Qc:(Nat->Nat->Int)->List gO->(Nat->Nat->Int)
 |f,[]=>f
 |f,p::r=>Qc (more p.1 p.2 f) r
theorem Qd {p:gO}:∀{L:List gO} {f:Nat->Nat->Int},Qc f (L++[p])=more p.1 p.2 (Qc f L)
 |[],f=>rfl
 |q::L,f=>Qd (L:=L)
theorem KR {h:Nat} {p:gO}:∀{L:List gO} {w:Nat},Jb h w L->lV (w+L.length+1) h p.1->(∀y < h,0<=p.2 y/\p.2 y<=99)->Jb h w (L++[p])
 |[],w,_,q,c=>⟨q,c,trivial⟩
 |r::L,w,s,q,c=>⟨s.1,s.2.1,KR s.2.2 (by rw[List.length_cons] at q;rwa [show w+1+L.length+1=w+(L.length+1)+1 by omega]) c⟩
section
variable {p:gO}
theorem VF (q:lV (w+1) h p.1) (m7:h<=20) (hc:∀y < h,0<=p.2 y/\p.2 y<=99):rA [cY h p,.int ((w+1:Nat):Int),.int (h:Int)]= .ok (.bl true):=
 bL (aJ (cj (mV (dO (b:=true) (aO rfl)) (aO (au (aR (aB rfl) rfl) rfl (Df rfl)))) rfl)
  (bx (lD (aZ (aD (au rfl rfl (gB (i:=0) rfl)) (aD rfl (aB rfl))) (YC q m7)) (aZ (aD (au rfl rfl (gB (i:=1) rfl)) (aB rfl)) (RB m7 hc)))))
theorem acU {e0 e1 e2 x6 x7:Option Ent} (o:Ok w h f) (q:lV (w+1) h p.1) (hc:∀y < h,0<=p.2 y/\p.2 y<=99):
  rbB [e0,e1,e2,vA (.int (h:Int)),vA (aY w h f),vA (cY h p),x6,x7]= .nx [e0,e1,e2,vA (.int (h:Int)),vA (aY (w+1) h (more p.1 p.2 f)),vA (cY h p),vA (sm h p.1),vA (row h p.2)]:=
 aJ (cj (dO (aO (aZ (aD rfl (aD (x:= .int ((w+1:Nat):Int)) (au (len0 o rfl) rfl rfl) (aB rfl))) (VF q o.h2 hc)))) rfl)
  (aJ (aX (d:=cY h p) rfl rfl) (aX (aZ (aD rfl (aD rfl (aB rfl))) (Lg (λ y hy=>by have:=q.lt y hy;omega) o.h2 o.w2 rfl rfl)) rfl))
theorem UW {e0 e1 e2:Option Ent}:∀{L:List gO} {w:Nat} {f:Nat->Nat->Int} {x5 x6 x7:Option Ent},Ok w h f->Jb h w L->w+L.length<=20->
  ∃z5 z6 z7,forL (aM 5) rbB (L.map (cY h)) [e0,e1,e2,vA (.int (h:Int)),vA (aY w h f),x5,x6,x7]= .nx [e0,e1,e2,vA (.int (h:Int)),vA (aY (w+L.length) h (Qc f L)),z5,z6,z7]
 |[],w,f,x5,x6,x7,_,_,_=>⟨x5,x6,x7,rfl⟩
 | p::L,w,f,x5,x6,x7,o,s,hl=>by
  rw[List.length_cons] at hl;obtain⟨z5,z6,z7,e⟩:=UW (e0:=e0) (e1:=e1) (e2:=e2) (L:=L) (w:=w+1) (f:=more p.1 p.2 f) (x5:=vA (cY h p)) (x6:=vA (sm h p.1)) (x7:=vA (row h p.2)) (o.more (by omega) (λ y hy=>by have:=s.1.lt y hy;omega) s.2.1) s.2.2 (by omega);refine⟨z5,z6,z7,?_⟩;rw[List.map_cons,List.length_cons,show w+(L.length+1)=w+1+L.length by omega];exact fW rfl (acU o s.1 s.2.1) e
theorem VG {L:List gO} (o:Ok w h f) (s:Jb h w L) (hl:w+L.length<=20):oE [aY w h f,.lst (L.map (cY h)).reverse]= .ok (aY (w+L.length) h (Qc f L)):=by
 obtain⟨z5,z6,z7,e⟩:=UW (e0:=vA (aY w h f)) (e1:=vA (.lst (L.map (cY h)).reverse)) (e2:=vA (.int (w:Int))) (x5:=none) (x6:=none) (x7:=none) o s hl;refine bL (aJ (aX (aZ (aB rfl) (size_eq o)) rfl) (aJ (cj (mV (dO (b:=true) (aO rfl)) (aO (au (au rfl (aR (aB rfl) rfl) rfl) rfl ?_))) rfl) (aJ (aX rfl rfl) (aJ (lE (xs:=L.map (cY h)) ?_ e) (bx rfl)))))
 ·rw[qG,decide_eq_false (by simp;omega)]
 ·show R.ok (L.map (cY h)).reverse.reverse=_;rw[List.reverse_reverse]
theorem qj {l:List D} {n:Nat} (h:∀d∈l,dep d<=n):deps l<=n:=by
 have:=tH (c:=id) (n:=n) (l:=l) h
 rwa [List.map_id] at this
theorem Qe {p:gO}:dep (cY h p)<=2:=by
 have hr:∀g:Nat->Int,dep (row h g)<=1:=λ g=>by
  unfold row;rw[dep];have:=tH (c:=λ x=>D.int (g x)) (n:=0) (l:=List.range h) (λ x _=>by simp[dep]);omega
 unfold cY;rw[dep];have:=qj (l:=[sm h p.1,row h p.2]) (n:=1) (λ d hd=>by simp at hd;rcases hd with rfl |rfl <;> exact hr _);omega
end
theorem gP {F:List D->R D} {n j:Nat} {sel:List (Sum Nat D)} {fa fk:aA->R (List D)} {ds zs:List D} {r:R D} (e1:fa ρ= .ok ds) (e2:fk ρ= .ok zs) (e3:F (ds++pickK .non sel zs)=r) (hl:(ds++pickK .non sel zs).length=n:=by rfl) (hj:zs.length=j:=by rfl):fH F n j sel fa fk ρ=r:=by
 unfold fH;rw[e1,R.bh,e2,R.bh,if_pos hj,okN,if_pos hl,e3]
noncomputable def Go (m:Str) (h:Nat):Nat->Nat->(Nat->Nat->Int)->(Nat->Nat->Int)->Option (List gO)->Prop
 |0,_,_,_,r=>r=some []
 |k+1,w,f,M,r=>(cG (topC w h (tbl m w h f) M)=[]/\(∀s,¬m9 w h M s)/\r=none)\/∃s r',m9 w h M s/\cG (topC w h (tbl m w h f) M)=[wS (tbl m w h f) M h s]/\Go m h k (w - 1) (less s f) (less s M) r'/\r=r'.map ((s,λ y=>f y (s y)):: ·)
noncomputable def vN:(Nat->Nat->Int)->List gO->Nat->Nat->Int
 |f,[]=>f
 |f,p::L=>vN (less p.1 f) L
noncomputable def tot (m:Str) (h:Nat):Nat->(Nat->Nat->Int)->List gO->Int
 |_,_,[]=>0
 |w,f,p::L=>cost h (tbl m w h f) p.1+tot m h (w - 1) (less p.1 f) L
theorem MJ (h1:1<=h):∀{k w:Nat} {f M:Nat->Nat->Int},∃r,Go m h k w f M r
 |0,w,f,M=>⟨_,rfl⟩
 | k +1,w,f,M=>by
  rcases least (w:=w) (T:=tbl m w h f) (M:=M) h1 with⟨e,q⟩ |⟨s,e,q,_⟩
  ·exact⟨none,.inl ⟨e,q,rfl⟩⟩
  ·obtain⟨r,g⟩:=MJ h1 (k:=k) (w:=w - 1) (f:=less s f) (M:=less s M);exact⟨_,.inr ⟨s,r,q,e,g,rfl⟩⟩
theorem Qf:∀{k w:Nat} {f M:Nat->Nat->Int} {L:List gO},Go m h k w f M (some L)->L.length=k
 |0,w,f,M,L,g=>by cases Option.some.inj g;rfl
 | k +1,w,f,M,L,g=>by
  rcases g with⟨_,_,e⟩ |⟨s,r,_,_,g,e⟩
  ·cases e
  ·cases r with
   |none=>cases e
   |some L'=>cases Option.some.inj e;rw[List.length_cons,Qf g]
theorem Y7:less s (λ _ _=>(0:Int))=λ _ _=>0:=by funext y x;unfold less;split <;> rfl
theorem Jc:∀{k w:Nat} {f M:Nat->Nat->Int} {r:Option (List gO)},k < w->(∀y < h,∀x < w,M y x≠1)->Go m h k w f M r->∃L,r=some L
 |0,w,f,M,r,_,_,g=>⟨_,g⟩
 | k +1,w,f,M,r,hk,z,g=>by
  rcases g with⟨_,q,_⟩ |⟨s,r',q,_,g,e⟩
  ·exact absurd ⟨⟨λ y hy=>by show 0 < w;omega,λ y hy=>by show 0<=0+1/\0<=0+1;omega⟩,λ y hy=>z y hy 0 (by omega)⟩ (q λ _=>0)
  ·obtain⟨L,rfl⟩:=Jc (by omega) (λ y hy x hx=>by unfold less;split;exact z _ hy _ (by omega);exact z _ hy _ (by omega)) g;exact⟨_,e⟩
theorem Y8:∀{k w:Nat} {f M:Nat->Nat->Int} {L:List gO},Go m h k w f M (some L)->Ok w h f->k < w->Ok (w - k) h (vN f L)
 |0,w,f,M,L,g,o,_=>by cases Option.some.inj g;exact o
 | k + 1,w,f,M,L,g,o,hk=>by
  rcases g with⟨_,_,e⟩ |⟨s,r,q,e1,g,e⟩
  ·cases e
  ·cases r with
   |none=>cases e
   | some L'=>
    cases Option.some.inj e;have:=Y8 g (o.less (by omega)) (by omega);rw[show w - (k+1)=w - 1 - k by omega];exact this
noncomputable def tkD (m:Str) (w h k:Nat) (f:Nat->Nat->Int):Option (List gO)->D
 |none=> .non
 |some L=> .tup [aY (w - k) h (vN f L),.lst (L.map (cY h)),.int (tot m h w f L)]
section
variable (hm:m= "worth"\/m= "joins") (o:Ok w h f)
include hm o
theorem abO:mY [tab w h (tbl m w h f),aY w h M]= .ok (lwD (cG (topC w h (tbl m w h f) M))):=Pq o.h1 o.h2 o.w2
theorem aa5 (e:cG (topC w h (tbl m w h f) M)=[]) {e0 e1 e3 e7 e8 e9 e10:Option Ent} {acc:List D}:tkB [e0,e1,vA (.str m),e3,vA (aY w h f),vA (aY w h M),some (.lst acc),e7,e8,e9,e10]= .rt .non:=by
 have el:=abO (M:=M) hm o;rw[e] at el;exact aJ (aX (aZ (aD (aZ (aD rfl (aB rfl)) (Pj hm o)) (aB rfl)) el) rfl) (gY (dg (aO (au rfl rfl rfl)) (bx rfl)))
theorem Y9 (q:m9 w h M s) (e:cG (topC w h (tbl m w h f) M)=[wS (tbl m w h f) M h s]) {e0 e1 e3 e8 e9 e10:Option Ent} {acc:List D} {t:Int} (hl:acc.length<=1000):tkB [e0,e1,vA (.str m),e3,vA (aY w h f),vA (aY w h M),some (.lst acc),vA (.int t),e8,e9,e10] =
  .nx [e0,e1,vA (.str m),e3,vA (aY (w - 1) h (less s f)),vA (aY (w - 1) h (less s M)),some (.lst (acc++[cY h (s,λ y=>f y (s y))])),vA (.int (t+cost h (tbl m w h f) s)),vA (.tup [.int (cost h (tbl m w h f) s),sm h s]),vA (.int (cost h (tbl m w h f) s)),vA (sm h s)]:=by
 have el:=abO (M:=M) hm o;rw[e,aeB] at el;refine aJ (aX (aZ (aD (aZ (aD rfl (aB rfl)) (Pj hm o)) (aB rfl)) el) rfl) (aJ (cj (aO (au rfl rfl rfl)) rfl) (aJ (aX rfl rfl) (aJ (Ba (ds:=acc) (d:=cY h (s,λ y=>f y (s y))) (cZ (aD rfl (aB (aZ (aD rfl (aB rfl)) (Iv q.sm o.h2))))) rfl (by omega)) (aJ (aec (a:=t) (b:=cost h (tbl m w h f) s) rfl rfl) ?_))));exact pR (aZ (aD rfl (aB rfl)) (GQ q.sm o.h2 o.w2)) (aZ (aD rfl (aB rfl)) (GQ q.sm o.h2 o.w2))
end
theorem Za {e0 e2 e3 e4 e5 e7 e8 e9 e10:Option Ent} {acc:List D} {K:Nat}:Ys (cR [e0,vA (.int (K:Int)),e2,e3,e4,e5,some (.lst acc),e7,e8,e9,e10])= .ok (decide (acc.length < K)):=by
 refine aO (au (aR (aB rfl) rfl) rfl ?_);show R.ok (D.bl (decide ((acc.length:Int) < (K:Int))))=_;rw[decide_eq_decide.mpr (by omega:(acc.length:Int) < (K:Int)↔acc.length < K)]
theorem U0 (hm:m= "worth"\/m= "joins") {e0 e3:Option Ent}:∀{k w n K:Nat} {f M:Nat->Nat->Int} {r:Option (List gO)} {acc:List D} {t:Int} {e8 e9 e10:Option Ent},Go m h k w f M r->Ok w h f->k < w->k < n->acc.length+k=K->K<=500->
  match (generalizing:=false) r with
  |none=>fZ Ys tkB n [e0,vA (.int (K:Int)),vA (.str m),e3,vA (aY w h f),vA (aY w h M),some (.lst acc),vA (.int t),e8,e9,e10]= .rt .non
  | some L=>∃z5 z8 z9 rE,fZ Ys tkB n [e0,vA (.int (K:Int)),vA (.str m),e3,vA (aY w h f),vA (aY w h M),some (.lst acc),vA (.int t),e8,e9,e10] =
    .nx [e0,vA (.int (K:Int)),vA (.str m),e3,vA (aY (w - k) h (vN f L)),z5,some (.lst (acc++L.map (cY h))),vA (.int (t+tot m h w f L)),z8,z9,rE]
 | 0,w,n,K,f,M,r,acc,t,e8,e9,e10,g,o,hw,hn,hK,hb=>by
  obtain⟨n,rfl⟩:∃j,n=j+1:=⟨n - 1,by omega⟩;have g:r=some []:=g;subst g;refine⟨vA (aY w h M),e8,e9,e10,?_⟩;rw[aa4 (by rw[Za,decide_eq_false (by omega)]),List.map_nil,List.append_nil,vN,tot,Int.add_zero];rfl
 | k + 1,w,n,K,f,M,r,acc,t,e8,e9,e10,g,o,hw,hn,hK,hb=>by
  obtain⟨n,rfl⟩:∃j,n=j+1:=⟨n - 1,by omega⟩;have et:∀e8 e9 e10,Ys (cR [e0,vA (.int (K:Int)),vA (.str m),e3,vA (aY w h f),vA (aY w h M),some (.lst acc),vA (.int t),e8,e9,e10])= .ok true:=λ _ _ _=>by rw[Za,decide_eq_true (by omega)]
  rcases g with⟨e,_,rfl⟩ |⟨s,r',q,e,g,rfl⟩
  ·exact abN (et _ _ _) (aa5 hm o e)
  ·have ih:=U0 hm (e0:=e0) (e3:=e3) (n:=n) (K:=K) (acc:=acc++[cY h (s,λ y=>f y (s y))]) (t:=t+cost h (tbl m w h f) s) (e8:=vA (.tup [.int (cost h (tbl m w h f) s),sm h s])) (e9:=vA (.int (cost h (tbl m w h f) s))) (e10:=vA (sm h s)) g (o.less (by omega)) (by omega) (by omega) (by rw[List.length_append,List.length_singleton];omega) hb;cases r' with
   |none=>exact Qa (et _ _ _) (Y9 hm o q e (by omega)) ih
   | some L=>
    obtain⟨z5,z8,z9,rE,e'⟩:=ih;refine⟨z5,z8,z9,rE,Qa (et _ _ _) (Y9 hm o q e (by omega)) ?_⟩;rw[e',List.append_assoc,Int.add_assoc,show w - (k+1)=w - 1 - k by omega];rfl
theorem aa6 {r:Option (List gO)} (hm:m= "worth"\/m= "joins") (o:Ok w h f) (hk:k < w) (g:Go m h k w f M r):Dc [aY w h f,.int (k:Int),.str m,aY w h M]= .ok (tkD m w h k f r):=by
 have ow:=o.w2;have e:=U0 hm (e0:=vA (aY w h f)) (e3:=vA (aY w h M)) (n:=64) (K:=k) (acc:=[]) (t:=0) (e8:=none) (e9:=none) (e10:=none) g o hk (by omega) (by rw[List.length_nil];omega) (by omega);cases r with
 |none=>exact m8 (aJ (pR rfl rfl) (aJ (jZ rfl) (aJ (aX rfl rfl) (gY e))))
 | some L=>
  obtain⟨z5,z8,z9,rE,e⟩:=e;rw[List.nil_append,Int.zero_add] at e;exact m8 (aJ (pR rfl rfl) (aJ (jZ rfl) (aJ (aX rfl rfl) (aJ e (bx (cZ (aD rfl (aD rfl (aB rfl)))))))))
theorem U3:∀{k w:Nat} {f M:Nat->Nat->Int} {L:List gO},Go m h k w f M (some L)->Ok w h f->k < w->Jb h (w - k) L.reverse/\∀y < h,∀x < w,Qc (vN f L) L.reverse y x=f y x
 |0,w,f,M,L,g,o,_=>by cases Option.some.inj g;exact⟨trivial,λ _ _ _ _=>rfl⟩
 | k + 1, w,f,M,L,g,o,hk=>by
  rcases g with⟨_,_,e⟩ |⟨s,r,q,e1,g,e⟩
  ·cases e
  ·cases r with
   |none=>cases e
   | some L'=>
    cases Option.some.inj e;obtain⟨i1,i2⟩:=U3 g (o.less (by omega)) (by omega);rw[List.reverse_cons];refine⟨?_,λ y hy x hx=>?_⟩
    ·rw[show w - (k+1)=w - 1 - k by omega];refine KR i1 ?_ λ y hy=>o.c y hy _ (q.sm.lt y hy);rw[List.length_reverse,Qf g,show w - 1 - k+k+1=w by omega];exact q.sm
    ·have hs:=q.sm.lt y hy;rw[Qd,vN];show more s (λ y=>f y (s y)) (Qc (vN (less s f) L') L'.reverse) y x=_;unfold more;by_cases c1:x < s y
     ·rw[if_pos c1,i2 y hy x (by omega),less,if_pos c1]
     ·rw[if_neg c1];by_cases c2:x=s y
      ·rw[if_pos c2,c2]
      ·rw[if_neg c2,i2 y hy (x - 1) (by omega),less,if_neg (by omega),show x - 1+1=x by omega]
theorem back_eq {L:List gO} (o:Ok w h f) (hk:k < w) (g:Go m h k w f M (some L)):oE [aY (w - k) h (vN f L),.lst (L.map (cY h))]= .ok (aY w h f):=by
 obtain⟨i1,i2⟩:=U3 g o hk;have l1:=Qf g;have ow:=o.w2;have e:=VG (Y8 g o hk) i1 (by rw[List.length_reverse];omega);rw[List.map_reverse,List.reverse_reverse,List.length_reverse,l1,show w - k+k=w by omega,Yy i2] at e;exact e
theorem aeC {L:List gO}:dep (.lst (L.map (cY h)))<=40:=by
 rw[dep];have:=qj (l:=L.map (cY h)) (n:=2) (λ d hd=>by obtain⟨p,_,rfl⟩:=List.mem_map.mp hd;exact Qe);omega
end
section
variable {ns:List Int} {w h k:Nat} {f M:Nat->Nat->Int} {T:Nat->Nat->Nat->Int} {m:Str} {s:Nat->Nat} {ρ:aA}
theorem Li {i n:Nat} (h1:1<=i) (h2:i<=n):lQ [.int (i:Int),.int 1,.int (n:Int)]= .ok .non:=
 Mw (cj (mV (dO (b:=true) (aO (aZ (aB rfl) qM))) (dO (b:=true) (aO (w6 rfl rfl (qL (by omega)) rfl (qL (by omega)))))) rfl)
theorem iW {F:List D->R D} {n:Nat} {fa:aA->R (List D)} {ds:List D} {r:R D} (e1:fa ρ= .ok ds) (e3:F ds=r) (hl:ds.length=n:=by rfl):fH F n 0 [] fa (λ _=> .ok []) ρ=r:=
 gP (ds:=ds) (zs:=[]) e1 rfl (by show F (ds++[])=r;rw[List.append_nil];exact e3) (by show (ds++[]).length=n;rw[List.append_nil];exact hl)
noncomputable def nwD (low h:Nat) (f:Nat->Nat->Int):Option (List gO)->D
 |none=> .non
 |some L=>aY low h (vN f L)
noncomputable def hiD (h:Nat):Option (List gO)->D
 |none=> .non
 |some L=> .lst (L.map (cY h))
section
variable {low:Nat} {d:D} {r:Option (List gO)} (hm:m= "worth"\/m= "joins") (o:Ok w h f) (hd:iC [d,aY w h f]= .ok (aY w h M)) (h1:1<=low) (h2:low<=w) (g:Go m h (w - low) w f M r)
include hm o hd h1 h2 g
theorem wg:gC [aY w h f,.int (low:Int),.str m,d]= .ok (tkD m w h (w - low) f r):=by
 refine bL (aJ (tK (aZ (aB rfl) (Ir o))) (aJ (tK (aZ (aB rfl) (xU hm))) (aJ (aX (aZ (aD rfl (aB rfl)) hd) rfl) (aJ (tK (iW (aD rfl (aD rfl (aB (len0 o rfl)))) (Li h1 h2))) (bx (aZ (aD rfl (aD (x:= .int ((w - low:Nat):Int)) (au (len0 o rfl) rfl ?_) (aD rfl (aB rfl)))) (aa6 hm o (by omega) g)))))));show R.ok (D.int ((w:Int) - (low:Int)))=_;rw[show (w:Int) - (low:Int)=((w - low:Nat):Int) by omega]
theorem wj:gD [aY w h f,.int (low:Int),.str m,d]= .ok (nwD low h f r):=by
 have e:=wg hm o hd h1 h2 g;cases r with
 |none=>exact bL (aJ (aX (iW (aD rfl (aD rfl (aD rfl (aB rfl)))) e) rfl) (gY (dg (aO (au rfl rfl rfl)) (bx rfl))))
 | some L=>
  rw[tkD,show w - (w - low)=low by omega] at e;exact bL (aJ (aX (iW (aD rfl (aD rfl (aD rfl (aB rfl)))) e) rfl) (aJ (cj (aO (au rfl rfl rfl)) rfl) (bx (au rfl rfl (gB (i:=0) rfl)))))
theorem G4:jq [aY w h f,.int (low:Int),.str m,d]= .ok (hiD h r):=by
 have e:=wg hm o hd h1 h2 g;cases r with
 |none=>exact bL (aJ (aX (iW (aD rfl (aD rfl (aD rfl (aB rfl)))) e) rfl) (gY (dg (aO (au rfl rfl rfl)) (bx rfl))))
 |some L=>exact bL (aJ (aX (iW (aD rfl (aD rfl (aD rfl (aB rfl)))) e) rfl) (aJ (cj (aO (au rfl rfl rfl)) rfl) (bx (au rfl rfl (gB (i:=1) rfl)))))
end
theorem acV {low:Nat} {L:List gO} (hm:m= "worth"\/m= "joins") (o:Ok w h f) (h1:1<=low) (h2:low<=w) (g:Go m h (w - low) w f (λ _ _=>0) (some L)):uz [aY w h f,.int (low:Int),.str m]= .ok (.int (tot m h w f L)):=
 bL (bx (au (iW (aD rfl (aD rfl (aD rfl (aB rfl)))) (wg hm o (rF o) h1 h2 g)) rfl (gB (i:=2) rfl)))
theorem acW {f g h:aA->R D} {k l:D->D->R D} {x y:D} (e1:f ρ= .ok x) (e2:g ρ= .ok y) (e3:k x y= .ok (.bl false)):zq f g h k l ρ= .ok (.bl false):=by
 rw[zq,e1,R.bh,e2,R.bh,e3,R.bh]
theorem abP {i j:Int} (h:j < i):sG (.int i) (.int j)= .ok (.bl false):=by rw[aeb,decide_eq_false (by omega)]
noncomputable def VH (w:Nat) (d:D):Prop:=dH [d]= .ok (.bl false)\/∃i:Int,d= .int i/\(i < 1\/(w:Int) < i)
theorem Zb {d:D} (hw:w<=20) (z:VH w d):lQ [d,.int 1,.int (w:Int)]= .err "NoWidth" :=by
 rcases z with z |⟨i,rfl,z⟩
 ·exact xK (dg (acT (dO (b:=false) (aO (aZ (aB rfl) z)))) (abE (abD rfl rfl (by decide) (by omega))))
 ·refine xK (dg (mV (dO (b:=true) (aO (aZ (aB rfl) qM))) (dO (b:=false) (aO ?_))) (abE (abD rfl rfl (by decide) (by omega))));by_cases c:i < 1
  ·exact acW rfl rfl (abP c)
  ·exact w6 rfl rfl (qL (by omega)) rfl (abP (by omega))
theorem aeD {u:aA->R D} {c:Str} (e:u (cR ρ)= .err c):retS u ρ= .ex c ρ:=by rw[retS,e];rfl
section
variable {d:D} (o:Ok w h f) (z:VH w d)
include o z
theorem uG:gC [aY w h f,d,.str "worth",.non]= .err "NoWidth" :=
 xK (aJ (tK (aZ (aB rfl) (Ir o))) (aJ (tK (aZ (aB rfl) (xU (.inl rfl)))) (aJ (aX (aZ (aD rfl (aB rfl)) (rF o)) rfl) (N7 (CQ (iW (aD rfl (aD rfl (aB (len0 o rfl)))) (Zb o.w2 z)))))))
theorem Qg:gD [aY w h f,d,.str "worth",.non]= .err "NoWidth" :=
 xK (N7 (X8 (iW (aD rfl (aD rfl (aD rfl (aB rfl)))) (uG o z))))
theorem RK:jq [aY w h f,d,.str "worth",.non]= .err "NoWidth" :=
 xK (N7 (X8 (iW (aD rfl (aD rfl (aD rfl (aB rfl)))) (uG o z))))
theorem aa7:uz [aY w h f,d,.str "worth"]= .err "NoWidth" :=by
 refine xK (aeD ?_);rw[Pu.bin,iW (aD rfl (aD rfl (aD rfl (aB rfl)))) (uG o z)];rfl
end
end
section
variable {ns:List Int} {w h k:Nat} {f M:Nat->Nat->Int} {T:Nat->Nat->Nat->Int} {m:Str} {s:Nat->Nat} {ρ:aA}
theorem aeE {e0 e1 e2:Option Ent}:retS (mL (vK jB 3 "NoWidth") (MK (vK jB 3 "NoDeeds"))) [e0,e1,e2,some (.obj (.exc "NoWidth"))]= .rt (.bl true):=by
 refine bx (lD (N8 (c:= "NoWidth") rfl (by decide)) ?_);rw[MK,N8 (c:= "NoWidth") rfl (by decide)];rfl
theorem afN {d:D} {k:Int} (o:Ok w h f) (z:VH w d):vM [.int k,aY w h f,d]= .ok (.bl true):=by
 refine m8 (gY (adW (c:= "NoWidth") (ρ1:=[vA (.int k),vA (aY w h f),vA d,none]) ?_ (by decide) aeE));by_cases c0:k=0
 ·subst c0;exact dg (aO (au rfl rfl rfl)) (CQ (gP (ds:=[aY w h f,d]) (zs:=[]) (aD rfl (aB rfl)) rfl (Qg o z)))
 ·refine cj (aO (au rfl rfl (by rw[nA,decide_eq_false c0]))) ?_;by_cases c1:k=1
  ·subst c1;exact dg (aO (au rfl rfl rfl)) (CQ (gP (ds:=[aY w h f,d]) (zs:=[]) (aD rfl (aB rfl)) rfl (RK o z)))
  ·exact cj (aO (au rfl rfl (by rw[nA,decide_eq_false c1]))) (CQ (gP (ds:=[aY w h f,d]) (zs:=[]) (aD rfl (aB rfl)) rfl (aa7 o z)))
noncomputable def aeF (low h:Nat) (f:Nat->Nat->Int):Option (List gO)->D
 |none=> .non
 |some L=> .tup [.lst (L.map (cY h)),aY low h (vN f L)]
theorem Zc {low:Nat} (o:Ok w h f) {e2 e3 e4 e5:Option Ent}:Yu (cR [vA (aY w h f),vA (.int (low:Int)),e2,e3,e4,e5])= .ok (decide (low < w)):=by
 refine aO (au (len0 o rfl) rfl ?_);rw[qG,decide_eq_decide.mpr (by omega:(low:Int) < (w:Int)↔low < w)]
section
variable (hm:m= "worth"\/m= "joins") (o:Ok w h f) (w4:w<=4) (h4:h<=4)
include hm o w4 h4
theorem aa8 (e:cG (topC w h (tbl m w h f) M)=[]) {e1 e5:Option Ent} {acc:List D}:Yv [vA (aY w h f),e1,vA (.str m),vA (aY w h M),some (.lst acc),e5]= .rt .non:=by
 have el:=Fe (M:=M) hm o w4 h4;rw[e] at el;exact aJ (aX (aZ (aD rfl (aD rfl (aB rfl))) el) rfl) (gY (dg (aO (au rfl rfl rfl)) (bx rfl)))
theorem Zd (q:m9 w h M s) (e:cG (topC w h (tbl m w h f) M)=[wS (tbl m w h f) M h s]) {e1 e5:Option Ent} {acc:List D} (hl:acc.length<=1000):Yv [vA (aY w h f),e1,vA (.str m),vA (aY w h M),some (.lst acc),e5] =
  .nx [vA (aY (w - 1) h (less s f)),e1,vA (.str m),vA (aY (w - 1) h (less s M)),some (.lst (acc++[cY h (s,λ y=>f y (s y))])),vA (sm h s)]:=by
 have el:=Fe (M:=M) hm o w4 h4;have m7:=o.h2;rw[e,Y6] at el;refine aJ (aX (aZ (aD rfl (aD rfl (aB rfl))) el) rfl) (aJ (cj (aO (au rfl rfl rfl)) rfl) (aJ (Ba (ds:=acc) (d:=cY h (s,λ y=>f y (s y))) (cZ (aD rfl (aB (aR (aB (cB (c:=λ y=> .tup [row w (f y),.int ((s y:Nat):Int)]) (h:=λ y=> .int (f y (s y))) (l:=List.range h) (xT (aD rfl (aB rfl)) rfl rfl) (by rw[List.length_range];omega) λ y hy=>?_)) rfl)))) rfl (by omega)) ?_))
 ·refine cL rfl (au rfl rfl (gB (i:=s y) ?_));rw[List.getElem?_map,List.getElem?_range (q.sm.lt y (List.mem_range.mp hy))];rfl
 ·exact pR (aZ (aD rfl (aB rfl)) (Bb q.sm o.h2 o.w2)) (aZ (aD rfl (aB rfl)) (Bb q.sm o.h2 o.w2))
end
theorem U4 (hm:m= "worth"\/m= "joins") (h4:h<=4) {low:Nat} (l1:1<=low):∀{k w n:Nat} {f M:Nat->Nat->Int} {r:Option (List gO)} {acc:List D} {e5:Option Ent},Go m h k w f M r->Ok w h f->w=low+k->w<=4->k < n->acc.length+k<=500->
  match (generalizing:=false) r with
  |none=>fZ Yu Yv n [vA (aY w h f),vA (.int (low:Int)),vA (.str m),vA (aY w h M),some (.lst acc),e5]= .rt .non
  | some L=>∃z3 z5,fZ Yu Yv n [vA (aY w h f),vA (.int (low:Int)),vA (.str m),vA (aY w h M),some (.lst acc),e5] =
    .nx [vA (aY low h (vN f L)),vA (.int (low:Int)),vA (.str m),z3,some (.lst (acc++L.map (cY h))),z5]
 | 0,w,n,f,M,r,acc,e5,g,o,hw,w4,hn,ha=>by
  obtain⟨n,rfl⟩:∃j,n=j+1:=⟨n - 1,by omega⟩;have g:r=some []:=g;subst g;refine⟨vA (aY w h M),e5,?_⟩;rw[aa4 (by rw[Zc o,decide_eq_false (by omega)]),List.map_nil,List.append_nil,vN,show low=w by omega]
 | k + 1,w,n,f,M,r,acc,e5,g,o,hw,w4,hn,ha=>by
  obtain⟨n,rfl⟩:∃j,n=j+1:=⟨n - 1,by omega⟩;have et:∀e5,Yu (cR [vA (aY w h f),vA (.int (low:Int)),vA (.str m),vA (aY w h M),some (.lst acc),e5])= .ok true:=λ _=>by rw[Zc o,decide_eq_true (by omega)]
  rcases g with⟨e,_,rfl⟩ |⟨s,r',q,e,g,rfl⟩
  ·exact abN (et _) (aa8 hm o w4 h4 e)
  ·have ih:=U4 hm h4 l1 (n:=n) (acc:=acc++[cY h (s,λ y=>f y (s y))]) (e5:=vA (sm h s)) g (o.less (by omega)) (by omega) (by omega) (by omega) (by rw[List.length_append,List.length_singleton];omega);cases r' with
   |none=>exact Qa (et _) (Zd hm o w4 h4 q e (by omega)) ih
   | some L=>
    obtain⟨z3,z5,e'⟩:=ih;refine⟨z3,z5,Qa (et _) (Zd hm o w4 h4 q e (by omega)) ?_⟩;rw[e',List.append_assoc];rfl
theorem Qh {low:Nat} {r:Option (List gO)} (hm:m= "worth"\/m= "joins") (o:Ok w h f) (w4:w<=4) (h4:h<=4) (l1:1<=low) (l2:low<=w) (g:Go m h (w - low) w f M r):jk [aY w h f,.int (low:Int),.str m,aY w h M]= .ok (aeF low h f r):=by
 have e:=U4 hm h4 l1 (n:=64) (acc:=[]) (e5:=none) g o (by omega) w4 (by omega) (by rw[List.length_nil];omega);cases r with
 |none=>exact bL (aJ (jZ rfl) (gY e))
 | some L=>
  obtain⟨z3,z5,e⟩:=e;rw[List.nil_append] at e;exact bL (aJ (jZ rfl) (aJ e (bx (cZ (aD rfl (aB rfl))))))
theorem Ze {low:Nat} (o:Ok w h f) {e0 e1 e2 e3 e5 e6 e7 e8 e10 DR DY:Option Ent}:lwT (cR [e0,e1,e2,e3,vA (.int (low:Int)),e5,e6,e7,e8,vA (aY w h f),e10,DR,DY])= .ok (decide (low < w)):=by
 refine aO (au (len0 o rfl) rfl ?_);rw[qG,decide_eq_decide.mpr (by omega:(low:Int) < (w:Int)↔low < w)]
theorem aeG (hm:m= "worth"\/m= "joins") (o:Ok w h f) (w4:w<=4) (h4:h<=4) (q:m9 w h (λ _ _=>0) s) (e:cG (topC w h (tbl m w h f) λ _ _=>0)=[wS (tbl m w h f) (λ _ _=>0) h s]) {t:Int} {e0 e1 e2 e4 e5 e6 e7 e8 DR DY:Option Ent}:
  lwB [e0,e1,e2,vA (.str m),e4,e5,e6,e7,e8,vA (aY w h f),vA (.int t),DR,DY] =
   .nx [e0,e1,e2,vA (.str m),e4,e5,e6,e7,e8,vA (aY (w - 1) h (less s f)),vA (.int (t+cost h (tbl m w h f) s)),vA (sm h s),DY]:=by
 have el:=Fe (M:=λ _ _=>0) hm o w4 h4;rw[e,Y6] at el;refine aJ (aX (aZ (aD rfl (aD rfl (aB (aZ (aB rfl) (free_eq o))))) el) rfl) ?_;exact pR (au rfl (aZ (aD rfl (aD rfl (aB rfl))) (DP hm o q.sm)) rfl) (aZ (aD rfl (aB rfl)) (Bb q.sm o.h2 o.w2))
theorem U5 (hm:m= "worth"\/m= "joins") (h4:h<=4) {low:Nat} (l1:1<=low) {e0 e1 e2 e5 e6 e7 e8 DY:Option Ent}:∀{k w n:Nat} {f:Nat->Nat->Int} {L:List gO} {t:Int} {DR:Option Ent},Go m h k w f (λ _ _=>0) (some L)->Ok w h f->w=low+k->w<=4->k < n->
  ∃ z9 z11,fZ lwT lwB n [e0,e1,e2,vA (.str m),vA (.int (low:Int)),e5,e6,e7,e8,vA (aY w h f),vA (.int t),DR,DY] =
   .nx [e0,e1,e2,vA (.str m),vA (.int (low:Int)),e5,e6,e7,e8,z9,vA (.int (t+tot m h w f L)),z11,DY]
 | 0,w,n,f,L,t,DR,g,o,hw,w4,hn=>by
  obtain⟨n,rfl⟩:∃j,n=j+1:=⟨n - 1,by omega⟩;cases Option.some.inj g;refine⟨vA (aY w h f),DR,?_⟩;rw[aa4 (by rw[Ze o,decide_eq_false (by omega)]),tot,Int.add_zero]
 | k + 1,w,n,f,L,t,DR,g,o,hw,w4,hn=>by
  obtain⟨n,rfl⟩:∃j,n=j+1:=⟨n - 1,by omega⟩;rcases g with⟨_,_,e⟩ |⟨s,r,q,e',g,e⟩
  ·cases e
  ·cases r with
   |none=>cases e
   | some L'=>
    cases Option.some.inj e;rw[Y7] at g;obtain⟨z9,z11,i⟩:=U5 hm h4 l1 (e0:=e0) (e1:=e1) (e2:=e2) (e5:=e5) (e6:=e6) (e7:=e7) (e8:=e8) (DY:=DY) (n:=n) (t:=t+cost h (tbl m w h f) s) (DR:=vA (sm h s)) g (o.less (by omega)) (by omega) (by omega) (by omega);refine⟨z9,z11,?_⟩;rw[Int.add_assoc] at i;exact Qa (by rw[Ze o,decide_eq_true (by omega)]) (aeG hm o w4 h4 q e' ) i
theorem acX {L:List gO} {low:Nat}:dep (.tup [.lst (L.map (cY h)),aY low h f])<=40:=by
 have h1:dep (.lst (L.map (cY h)))<=3:=by
  rw[dep];have:=qj (l:=L.map (cY h)) (n:=2) (λ d hd=>by obtain⟨p,_,rfl⟩:=List.mem_map.mp hd;exact Qe);omega
 have h2:dep (aY low h f)<=39:=by
  have:dep (aY low h f)<=3:=by
   rw[aY,dep];have:=qj (l:=(List.range h).map λ y=>row low (f y)) (n:=2) (λ d hd=>by
    obtain⟨y,_,rfl⟩:=List.mem_map.mp hd;rw[row,dep];have:=qj (l:=(List.range low).map λ x=>D.int (f y x)) (n:=0) (λ d hd=>by obtain⟨x,_,rfl⟩:=List.mem_map.mp hd;simp[dep]);omega)
   omega
  omega
 have:=qj (l:=[D.lst (L.map (cY h)),aY low h f]) (n:=39) (λ d hd=>by
  simp only[List.mem_cons,List.not_mem_nil,or_false] at hd;rcases hd with rfl |rfl
  ·omega
  ·exact h2)
 rw[dep];omega
theorem aa9 (ns:List Int) (hns:ns.length<=63):GF [.lst (ns.map .int)]= .ok (.bl true):=by
 have hn:ns.length<=1000000:=by omega
 obtain⟨w,h,f,e1,o,hw,hh⟩:=aez (ns:=ns) hn;obtain⟨M,e2,hM⟩:=aa3 (ns:=ns) hn o;obtain⟨m,hm,e3⟩:=Y5 (ns:=ns) hn;have w1:=o.w1;have h1:=o.h1;obtain⟨d1,d2,d3⟩:=qH (k:=61) (m:=(w:Int)) hn (by omega) (by omega);obtain⟨low,hlow⟩:=Int.eq_ofNat_of_zero_le (show 0<=1+dr ns 61 (w:Int) by omega);have l1:1<=low:=by omega
 have l2:low<=w:=by omega
 obtain⟨c1,c2,c3⟩:=qH (k:=62) (m:=6) hn (by omega) (by omega);obtain⟨r,g⟩:=MJ (m:=m) h1 (k:=w - low) (w:=w) (f:=f) (M:=M);obtain⟨r0,g0⟩:=MJ (m:= "worth") h1 (k:=w - low) (w:=w) (f:=f) (M:=λ _ _=>0);obtain⟨L,rfl⟩:=Jc (by omega) (λ _ _ _ _=>by decide) g0;obtain⟨r1,g1⟩:=MJ (m:=m) h1 (k:=w - low) (w:=w) (f:=f) (M:=λ _ _=>0);obtain⟨L1,rfl⟩:=Jc (by omega) (λ _ _ _ _=>by decide) g1;have gw:Go "worth" h (w - w) w f (λ _ _=>0) (some []):=by rw[Nat.sub_self];rfl
 have hw0:("worth" :Str)= "worth"\/("worth" :Str)= "joins" := .inl rfl;have es:=Qh hm o hw (by omega) l1 l2 g;have eh:=G4 hm o (KC o hM) l1 l2 g;have en:=wj hm o (KC o hM) l1 l2 g;have es0:=Qh hw0 o hw (by omega) l1 l2 g0;have eh0:=G4 hw0 o (rF o) l1 l2 g0;have en0:=wj hw0 o (rF o) l1 l2 g0;have eb:=back_eq o (by omega) g0;rw[show w - (w - low)=low by omega] at eb;have ew:=wj hw0 o (rF o) w1 (Nat.le_refl w) gw;refine m8 (aJ (aX (aZ (aD rfl (aD rfl (aD rfl (aB rfl)))) e1) rfl) ?_);refine aJ (pR (aZ (aD rfl (aD rfl (aB rfl))) e2) (aZ (aD rfl (aB rfl)) e3)) ?_;refine aJ (aX (d:= .int (low:Int)) (au rfl (aZ (aD rfl (aD rfl (aB (len0 o rfl)))) d1) (congrArg (λ z=>R.ok (D.int z)) hlow)) rfl) ?_;refine aJ (aX (aZ (aD rfl (aD rfl (aD rfl (aB rfl)))) es) rfl) ?_;refine aJ (aX (gP (aD rfl (aB rfl)) (aD rfl (aB rfl)) eh) rfl) ?_;refine aJ (aX (cZ (aD rfl (aB (gP (aD rfl (aB rfl)) (aD rfl (aB rfl)) en)))) rfl) ?_;refine aJ (cj (aO (au (y:= .tup [hiD h r,nwD low h f r]) rfl ?_ (Pu.lC rfl ?_))) rfl) ?_
 ·cases r with
  |none=>exact tR (aO (au rfl rfl rfl)) (cZ (aD rfl (aB rfl)))
  |some L=>exact xV (aO (au rfl rfl rfl)) rfl
 ·cases r with
  |none=>exact Nat.le_of_ble_eq_true rfl
  |some L=>exact acX
 refine aJ (aX (aZ (aD rfl (aD rfl (aD rfl (aB (aZ (aB rfl) (free_eq o)))))) es0) rfl) ?_;refine aJ (cj (mV (aO (au (gP (ds:=[aY w h f,.int (low:Int)]) (zs:=[]) (aD rfl (aB rfl)) rfl eh0) rfl (Pu.lC rfl aeC))) (aO (au (gP (ds:=[aY w h f,.int (low:Int)]) (zs:=[]) (aD rfl (aB rfl)) rfl en0) rfl (Pu.lC rfl Iu)))) rfl) ?_;refine aJ (cj (aO (au (aZ (aD rfl (aB rfl)) eb) rfl (Pu.lC rfl Iu))) rfl) ?_;refine aJ (pR rfl rfl) ?_;obtain⟨z9,z11,i1⟩:=U5 hm (by omega) l1 (e0:=vA (.lst (ns.map .int))) (e1:=vA (aY w h f)) (e2:=vA (aY w h M)) (e5:=vA (aeF low h f r)) (e6:=vA (.tup [hiD h r,nwD low h f r])) (e7:=vA (.lst (L.map (cY h)))) (e8:=vA (aY low h (vN f L))) (DY:=none) (n:=64) (t:=0) (DR:=none) g1 o (by omega) hw (by omega);rw[Int.zero_add] at i1;refine aJ i1 ?_;refine aJ (cj (aO (au (gP (aD rfl (aB rfl)) (aB rfl) (acV hm o l1 l2 g1)) rfl (Df rfl))) rfl) ?_;obtain⟨d,hd,z⟩:∃d,bN (.lst [.int 0,.int ((w:Int)+1),.non,.bl true,.str "1",.int (-1)]) (.int (dr ns 62 6))= .ok d/\VH w d:=by
  obtain⟨j,hj⟩:=Int.eq_ofNat_of_zero_le c2;rw[hj] at c3 |-;have:j=0\/j=1\/j=2\/j=3\/j=4\/j=5:=by omega
  rcases this with rfl |rfl |rfl |rfl |rfl |rfl
  ·exact⟨_,rfl,.inr ⟨0,rfl,by omega⟩⟩
  ·exact⟨_,rfl,.inr ⟨_,rfl,by omega⟩⟩
  ·exact⟨_,rfl,.inl rfl⟩
  ·exact⟨_,rfl,.inl rfl⟩
  ·exact⟨_,rfl,.inl rfl⟩
  ·exact⟨_,rfl,.inr ⟨-1,rfl,by omega⟩⟩
 refine aJ (aX (d:=d) (au (gq (aD rfl (aD (au (len0 o rfl) rfl rfl) (aD rfl (aD rfl (aD rfl (aB rfl))))))) (aZ (aD rfl (aD rfl (aB rfl))) c1) hd) rfl) ?_;refine aJ (cj (dO (b:=true) (aO (au (x:= .lst []) (G3 (c:=λ (k:Nat)=>D.int (k:Int)) (o:=λ _=>none) (l:=List.range 3) (jL (aB rfl) (by omega)) (by rw[List.length_range];omega) λ k _=>Di (b:=false) rfl (dO (b:=true) (aO (aZ (aD rfl (aD rfl (aB rfl))) (afN o z)))) rfl) (gq rfl) rfl))) rfl) ?_;refine bx (au (gP (ds:=[aY w h f,.int (w:Int)]) (zs:=[]) (aD rfl (aB (len0 o rfl))) rfl ew) rfl (Pu.Nj rfl Iu))
end
end zA
namespace zA
open PySem PySem.Spec L2 Pu
open PyProof.Rows hiding St
noncomputable def DX (K:PySem.W.Frag) (x:Str) (st:Stmt):Prop:=∃f fd,Fun K x x st f fd/\PySem.W.nsIn K mainGlobals x=some (some (.ref f))
theorem afO {K:PySem.W.Frag} {x:Str} {st:Stmt} {f:Addr} {oc:Value} {od an:Option Addr} {osl:Array (Option Value)} {kV doc pm cdv ct:Value} (a:PySem.W.nsIn K mainGlobals x=some (some (.ref f))) (l:K.lookup f=some ⟨oc,od,.func (PySem.W.fnOf x x (defArgs st) (defBody st) (defScope st) .none kV doc pm an cdv ct),osl⟩)
  (c:PySem.W.codeIn K cdv x=true) (k:PySem.W.keepIn K (.ref f)=true):DX K x st:=⟨f,_,fun_mk l c k,a⟩
theorem uH {us:List Value} {n:Nat} (hl:us.length=n+1):∃a u,us=a::u/\u.length=n:=by
 cases us with
 |nil=>cases hl
 |cons a u=>exact⟨a,u,rfl,Nat.succ.inj hl⟩
theorem uI {F:FuncData} {ps:List Str} {us:List Value} (hl:us.length=1) (h:∀a0,bindArgs F ⟨[a0],[]⟩=pure (ps.zip [a0])):bindArgs F ⟨us,[]⟩=pure (ps.zip us):=by
 obtain⟨a0,u1,rfl,h1⟩:=uH hl;cases List.eq_nil_of_length_eq_zero h1;exact h a0
theorem sJ {F:FuncData} {ps:List Str} {us:List Value} (hl:us.length=2) (h:∀a0 a1,bindArgs F ⟨[a0,a1],[]⟩=pure (ps.zip [a0,a1])):bindArgs F ⟨us,[]⟩=pure (ps.zip us):=by
 obtain⟨a0,u1,rfl,h1⟩:=uH hl;obtain⟨a1,u2,rfl,h2⟩:=uH h1;cases List.eq_nil_of_length_eq_zero h2;exact h a0 a1
theorem uJ {F:FuncData} {ps:List Str} {us:List Value} (hl:us.length=3) (h:∀a0 a1 a2,bindArgs F ⟨[a0,a1,a2],[]⟩=pure (ps.zip [a0,a1,a2])):bindArgs F ⟨us,[]⟩=pure (ps.zip us):=by
 obtain⟨a0,u1,rfl,h1⟩:=uH hl;obtain⟨a1,u2,rfl,h2⟩:=uH h1;obtain⟨a2,u3,rfl,h3⟩:=uH h2;cases List.eq_nil_of_length_eq_zero h3;exact h a0 a1 a2
theorem U6 {F:FuncData} {ps:List Str} {us:List Value} (hl:us.length=4) (h:∀a0 a1 a2 a3,bindArgs F ⟨[a0,a1,a2,a3],[]⟩=pure (ps.zip [a0,a1,a2,a3])):bindArgs F ⟨us,[]⟩=pure (ps.zip us):=by
 obtain⟨a0,u1,rfl,h1⟩:=uH hl;obtain⟨a1,u2,rfl,h2⟩:=uH h1;obtain⟨a2,u3,rfl,h3⟩:=uH h2;obtain⟨a3,u4,rfl,h4⟩:=uH h3;cases List.eq_nil_of_length_eq_zero h4;exact h a0 a1 a2 a3
theorem lk5 {F:FuncData} {ps:List Str} {us:List Value} (hl:us.length=5) (h:∀a0 a1 a2 a3 a4,bindArgs F ⟨[a0,a1,a2,a3,a4],[]⟩=pure (ps.zip [a0,a1,a2,a3,a4])):bindArgs F ⟨us,[]⟩=pure (ps.zip us):=by
 obtain⟨a0,u1,rfl,h1⟩:=uH hl;obtain⟨a1,u2,rfl,h2⟩:=uH h1;obtain⟨a2,u3,rfl,h3⟩:=uH h2;obtain⟨a3,u4,rfl,h4⟩:=uH h3;obtain⟨a4,u5,rfl,h5⟩:=uH h4;cases List.eq_nil_of_length_eq_zero h5;exact h a0 a1 a2 a3 a4
noncomputable def top (i:Nat):Stmt:=PySem.Challenge.pw_seamhall_k30_narrowed.main.body.getD i (.Pass ⟨0,0,0,0⟩)
noncomputable abbrev Bc:Stmt:=top 62
theorem VJ:FnScope ["_law_picture_here","_law_x","_law_y"] ["_law_picture_here","_law_x","_law_y"] (defScope Bc):=⟨rfl,rfl,rfl,by decide +kernel,rfl,by decide +kernel,by decide +kernel⟩
noncomputable abbrev wk:Stmt:=top 63
theorem uK:FnScope ["_law_picture_here","_law_mode","_law_x","_law_y","_law_before","_law_found"] ["_law_picture_here","_law_mode","_law_x","_law_y","_law_before"] (defScope wk):=⟨rfl,rfl,rfl,by decide +kernel,rfl,by decide +kernel,by decide +kernel⟩
noncomputable abbrev wu:Stmt:=top 64
theorem Bd:FnScope ["_law_picture_here","_law_mode","_law_seam","_law_befores"] ["_law_picture_here","_law_mode","_law_seam"] (defScope wu):=⟨rfl,rfl,rfl,by decide +kernel,rfl,by decide +kernel,by decide +kernel⟩
noncomputable abbrev uL:Stmt:=top 67
theorem Lj:FnScope ["_law_tags","_law_seam","_law_sign"] ["_law_tags","_law_seam","_law_sign"] (defScope uL):=⟨rfl,rfl,rfl,by decide +kernel,rfl,by decide +kernel,by decide +kernel⟩
noncomputable abbrev wz:Stmt:=top 65
theorem iG:FnScope ["_law_broad","_law_tall","_law_found","_law_y","_law_more","_law_way"] ["_law_broad","_law_tall"] (defScope wz):=⟨rfl,rfl,rfl,by decide +kernel,rfl,by decide +kernel,by decide +kernel⟩
noncomputable abbrev wA:Stmt:=top 68
theorem lY:FnScope ["_law_picture_here","_law_mode","_law_tags","_law_best_here","_law_way","_law_here"] ["_law_picture_here","_law_mode","_law_tags"] (defScope wA):=⟨rfl,rfl,rfl,by decide +kernel,rfl,by decide +kernel,by decide +kernel⟩
noncomputable abbrev yH:Stmt:=top 69
theorem RL:FnScope ["_law_rows","_law_seam"] ["_law_rows","_law_seam"] (defScope yH):=⟨rfl,rfl,rfl,by decide +kernel,rfl,by decide +kernel,by decide +kernel⟩
noncomputable abbrev uM:Stmt:=top 58
theorem dG:FnScope ["_law_script","_law_k","_law_many","_law_cell","_law_turn","_law_rest"] ["_law_script","_law_k","_law_many"] (defScope uM):=⟨rfl,rfl,rfl,by decide +kernel,rfl,by decide +kernel,by decide +kernel⟩
noncomputable abbrev wB:Stmt:=top 66
theorem Qi:FnScope ["_law_picture_here"] ["_law_picture_here"] (defScope wB):=⟨rfl,rfl,rfl,by decide +kernel,rfl,by decide +kernel,by decide +kernel⟩
noncomputable abbrev rP:Stmt:=top 70
theorem Jd:FnScope ["_law_script","_law_at_here"] ["_law_script","_law_at_here"] (defScope rP):=⟨rfl,rfl,rfl,by decide +kernel,rfl,by decide +kernel,by decide +kernel⟩
noncomputable abbrev uN:Stmt:=top 61
theorem jU:FnScope ["_law_script","_law_at_here","_law_picture_here","_law_rows","_law_signs_here","_law_y","_law_row","_law_here"] ["_law_script","_law_at_here","_law_picture_here"] (defScope uN):=⟨rfl,rfl,rfl,by decide +kernel,rfl,by decide +kernel,by decide +kernel⟩
noncomputable abbrev yI:Stmt:=top 30
theorem RM:FnScope ["picture"] ["picture"] (defScope yI):=⟨rfl,rfl,rfl,by decide +kernel,rfl,by decide +kernel,by decide +kernel⟩
noncomputable abbrev yJ:Stmt:=top 10
theorem RN:FnScope ["thing"] ["thing"] (defScope yJ):=⟨rfl,rfl,rfl,by decide +kernel,rfl,by decide +kernel,by decide +kernel⟩
noncomputable abbrev Bf:Stmt:=top 27
theorem VL:FnScope ["thing"] ["thing"] (defScope Bf):=⟨rfl,rfl,rfl,by decide +kernel,rfl,by decide +kernel,by decide +kernel⟩
noncomputable abbrev qm:Stmt:=top 28
theorem G5:FnScope ["thing","wide"] ["thing","wide"] (defScope qm):=⟨rfl,rfl,rfl,by decide +kernel,rfl,by decide +kernel,by decide +kernel⟩
noncomputable abbrev yK:Stmt:=top 29
theorem RP:FnScope ["thing","picture"] ["thing","picture"] (defScope yK):=⟨rfl,rfl,rfl,by decide +kernel,rfl,by decide +kernel,by decide +kernel⟩
noncomputable abbrev uO:Stmt:=top 31
theorem Ln:FnScope ["thing","picture"] ["thing","picture"] (defScope uO):=⟨rfl,rfl,rfl,by decide +kernel,rfl,by decide +kernel,by decide +kernel⟩
noncomputable abbrev rQ:Stmt:=top 26
theorem Je:FnScope ["thing"] ["thing"] (defScope rQ):=⟨rfl,rfl,rfl,by decide +kernel,rfl,by decide +kernel,by decide +kernel⟩
noncomputable abbrev Bg:Stmt:=top 12
theorem VN:FnScope ["thing"] ["thing"] (defScope Bg):=⟨rfl,rfl,rfl,by decide +kernel,rfl,by decide +kernel,by decide +kernel⟩
noncomputable abbrev Bh:Stmt:=top 11
theorem VP:FnScope ["thing"] ["thing"] (defScope Bh):=⟨rfl,rfl,rfl,by decide +kernel,rfl,by decide +kernel,by decide +kernel⟩
noncomputable abbrev Fg:Stmt:=top 13
theorem Zf:FnScope ["thing"] ["thing"] (defScope Fg):=⟨rfl,rfl,rfl,by decide +kernel,rfl,by decide +kernel,by decide +kernel⟩
noncomputable abbrev uP:Stmt:=top 14
theorem Lp:FnScope ["thing"] ["thing"] (defScope uP):=⟨rfl,rfl,rfl,by decide +kernel,rfl,by decide +kernel,by decide +kernel⟩
noncomputable abbrev qu:Stmt:=top 15
theorem G6:FnScope ["thing"] ["thing"] (defScope qu):=⟨rfl,rfl,rfl,by decide +kernel,rfl,by decide +kernel,by decide +kernel⟩
noncomputable abbrev uQ:Stmt:=top 49
theorem Lq:FnScope ["thing","least","most"] ["thing","least","most"] (defScope uQ):=⟨rfl,rfl,rfl,by decide +kernel,rfl,by decide +kernel,by decide +kernel⟩
noncomputable abbrev rR:Stmt:=top 44
theorem Jf:FnScope ["picture","seam"] ["picture","seam"] (defScope rR):=⟨rfl,rfl,rfl,by decide +kernel,rfl,by decide +kernel,by decide +kernel⟩
noncomputable abbrev Qj:Stmt:=top 19
theorem U7:FnScope ["line","last"] ["line"] (defScope Qj):=⟨rfl,rfl,rfl,by decide +kernel,rfl,by decide +kernel,by decide +kernel⟩
noncomputable abbrev uR:Stmt:=top 34
theorem eY:FnScope ["picture","y","row","above","last","told","x","gap","from_left","from_right"] ["picture","y"] (defScope uR):=⟨rfl,rfl,rfl,by decide +kernel,rfl,by decide +kernel,by decide +kernel⟩
noncomputable abbrev Bj:Stmt:=top 16
theorem VR:FnScope ["picture"] ["picture"] (defScope Bj):=⟨rfl,rfl,rfl,by decide +kernel,rfl,by decide +kernel,by decide +kernel⟩
noncomputable abbrev Fi:Stmt:=top 17
theorem KY:FnScope ["picture","wide","high"] ["picture"] (defScope Fi):=⟨rfl,rfl,rfl,by decide +kernel,rfl,by decide +kernel,by decide +kernel⟩
noncomputable abbrev Fj:Stmt:=top 20
theorem vO:FnScope ["picture","wide","high","across","down"] ["picture"] (defScope Fj):=⟨rfl,rfl,rfl,by decide +kernel,rfl,by decide +kernel,by decide +kernel⟩
noncomputable abbrev Jg:Stmt:=top 35
theorem abb:FnScope ["picture","manner"] ["picture","manner"] (defScope Jg):=⟨rfl,rfl,rfl,by decide +kernel,rfl,by decide +kernel,by decide +kernel⟩
noncomputable abbrev Bk:Stmt:=top 36
theorem V0:FnScope ["row","above","place"] ["row","above","place"] (defScope Bk):=⟨rfl,rfl,rfl,by decide +kernel,rfl,by decide +kernel,by decide +kernel⟩
noncomputable abbrev Qk:Stmt:=top 33
theorem acY:FnScope ["place","wide"] ["place","wide"] (defScope Qk):=⟨rfl,rfl,rfl,by decide +kernel,rfl,by decide +kernel,by decide +kernel⟩
noncomputable abbrev Fl:Stmt:=top 37
theorem rG:FnScope ["beneath","row","x","told","place","fare"] ["beneath","row","x"] (defScope Fl):=⟨rfl,rfl,rfl,by decide +kernel,rfl,by decide +kernel,by decide +kernel⟩
noncomputable abbrev tU:Stmt:=top 38
theorem jC:FnScope ["table","marks","start","gather","rows","y","row","x","mark","told","lost"] ["table","marks","start","gather"] (defScope tU):=⟨rfl,rfl,rfl,by decide +kernel,rfl,by decide +kernel,by decide +kernel⟩
noncomputable abbrev iY:Stmt:=top 39
theorem Bl:FnScope ["table","marks","many","first_ones"] ["table","marks","many"] (defScope iY):=⟨rfl,rfl,rfl,by decide +kernel,rfl,by decide +kernel,by decide +kernel⟩
noncomputable abbrev yL:Stmt:=top 40
theorem ni:FnScope ["table","rows","told","x","cell","fare"] ["table","rows"] (defScope yL):=⟨rfl,rfl,rfl,by decide +kernel,rfl,by decide +kernel,by decide +kernel⟩
noncomputable abbrev rT:Stmt:=top 41
theorem Jh:FnScope ["table","marks","many"] ["table","marks","many"] (defScope rT):=⟨rfl,rfl,rfl,by decide +kernel,rfl,by decide +kernel,by decide +kernel⟩
noncomputable abbrev wC:Stmt:=top 42
theorem uT:FnScope ["table","marks","found","less","cost","seam"] ["table","marks"] (defScope wC):=⟨rfl,rfl,rfl,by decide +kernel,rfl,by decide +kernel,by decide +kernel⟩
noncomputable abbrev Bm:Stmt:=top 45
theorem V1:FnScope ["rows","seam"] ["rows","seam"] (defScope Bm):=⟨rfl,rfl,rfl,by decide +kernel,rfl,by decide +kernel,by decide +kernel⟩
noncomputable abbrev Ji:Stmt:=top 50
theorem lZ:FnScope ["picture","many","manner","marks","left","marked","steps","total","found","cost","seam"] ["picture","many","manner","marks"] (defScope Ji):=⟨rfl,rfl,rfl,by decide +kernel,rfl,by decide +kernel,by decide +kernel⟩
noncomputable abbrev yM:Stmt:=top 51
theorem Ea:FnScope ["picture","wide","manner","marks","marked"] ["picture","wide","manner","marks"] (defScope yM):=⟨rfl,rfl,rfl,by decide +kernel,rfl,by decide +kernel,by decide +kernel⟩
noncomputable abbrev eZ:Stmt:=top 53
theorem G7:FnScope ["picture","wide","manner","marks","told"] ["picture","wide","manner","marks"] (defScope eZ):=⟨rfl,rfl,rfl,by decide +kernel,rfl,by decide +kernel,by decide +kernel⟩
noncomputable abbrev jV:Stmt:=top 54
theorem acZ:FnScope ["picture","wide","manner"] ["picture","wide","manner"] (defScope jV):=⟨rfl,rfl,rfl,by decide +kernel,rfl,by decide +kernel,by decide +kernel⟩
noncomputable abbrev dY:Stmt:=top 52
theorem Eb:FnScope ["picture","wide","manner","marks","told"] ["picture","wide","manner","marks"] (defScope dY):=⟨rfl,rfl,rfl,by decide +kernel,rfl,by decide +kernel,by decide +kernel⟩
noncomputable abbrev Bo:Stmt:=top 72
theorem G8:FnScope ["_law_way","_law_picture_here","_law_broad","e"] ["_law_way","_law_picture_here","_law_broad"] (defScope Bo):=⟨rfl,rfl,rfl,by decide +kernel,rfl,by decide +kernel,by decide +kernel⟩
noncomputable abbrev qw:Stmt:=top 59
theorem o9:FnScope ["_law_script","_law_at_here","_law_broad","_law_tall","_law_most","_law_rows","_law_y"] ["_law_script","_law_at_here","_law_broad","_law_tall"] (defScope qw):=⟨rfl,rfl,rfl,by decide +kernel,rfl,by decide +kernel,by decide +kernel⟩
noncomputable abbrev wD:Stmt:=top 60
theorem Ql:FnScope ["_law_script","_law_at_here","_law_broad","_law_tall"] ["_law_script","_law_at_here","_law_broad","_law_tall"] (defScope wD):=⟨rfl,rfl,rfl,by decide +kernel,rfl,by decide +kernel,by decide +kernel⟩
noncomputable abbrev uU:Stmt:=top 71
theorem nD:FnScope ["_law_picture_here","_law_broad","_law_mode","_law_tags","_law_rows","_law_seam"] ["_law_picture_here","_law_broad","_law_mode","_law_tags"] (defScope uU):=⟨rfl,rfl,rfl,by decide +kernel,rfl,by decide +kernel,by decide +kernel⟩
noncomputable abbrev yN:Stmt:=top 47
theorem RQ:FnScope ["thing","high"] ["thing","high"] (defScope yN):=⟨rfl,rfl,rfl,by decide +kernel,rfl,by decide +kernel,by decide +kernel⟩
noncomputable abbrev Fo:Stmt:=top 32
theorem Zg:FnScope ["thing","wide","high"] ["thing","wide","high"] (defScope Fo):=⟨rfl,rfl,rfl,by decide +kernel,rfl,by decide +kernel,by decide +kernel⟩
noncomputable abbrev Bp:Stmt:=top 55
theorem V2:FnScope ["thing","wide","high"] ["thing","wide","high"] (defScope Bp):=⟨rfl,rfl,rfl,by decide +kernel,rfl,by decide +kernel,by decide +kernel⟩
noncomputable abbrev uV:Stmt:=top 46
theorem Lr:FnScope ["rows","seam","cells"] ["rows","seam","cells"] (defScope uV):=⟨rfl,rfl,rfl,by decide +kernel,rfl,by decide +kernel,by decide +kernel⟩
noncomputable abbrev Bq:Stmt:=top 56
theorem mH:FnScope ["picture","steps","wide","high","told","step","seam","cells"] ["picture","steps"] (defScope Bq):=⟨rfl,rfl,rfl,by decide +kernel,rfl,by decide +kernel,by decide +kernel⟩
noncomputable abbrev sU:Stmt:=top 73
theorem jW:FnScope ["_law_script","_law_picture_here","_law_tags","_law_mode","_law_broad","_law_due","_law_told","_law_rows","_law_left","_law_here","_law_cost_here","_law_seam","_law_odd"] ["_law_script"] (defScope sU):=⟨rfl,rfl,rfl,by decide +kernel,rfl,by decide +kernel,by decide +kernel⟩
noncomputable abbrev iH:Stmt:=(defBody iY).getD 0 (.Pass ⟨0,0,0,0⟩)
theorem Ls:Ii ["x","told","many"] ["x","told"] "many" (defScope iH):=⟨rfl,rfl,rfl,by decide +kernel,rfl,by decide +kernel,by decide +kernel,by decide +kernel,by decide +kernel⟩
structure Txt (K:PySem.W.Frag) (mg:Str->Option Value):Prop where
 G9:∃t,mg "FREE" =some (.int 0 t)
 Hf:∃t,mg "GONE" =some (.int 2 t)
 Qm:∃t,mg "KEPT" =some (.int 1 t)
 wF:∃t,mg "MOST_CELL" =some (.int 99 t)
 qN:∃t,mg "MOST_LONG" =some (.int 20 t)
 Br:aaE K mg "MANNERS" ["worth","joins"]
 sV:mg "abs" =none
 qO:mg "all" =none
 Qn:mg "bool" =none
 gQ:mg "enumerate" =none
 V3:mg "int" =none
 cT:mg "isinstance" =none
 cF:mg "len" =none
 Hg:mg "list" =none
 vP:mg "max" =none
 yO:mg "min" =none
 eG:mg "range" =none
 sW:mg "reversed" =none
 yP:mg "sorted" =none
 V4:mg "sum" =none
 cU:mg "tuple" =none
 vQ:mg "zip" =none
 Hh:∀d:D,PySem.W.kitOne K (.type (kZ d)) (.type "int")=some (CG (kZ d))
 Bs:∀d:D,PySem.W.kitOne K (.type (kZ d)) (.type "bool")=some (yw (kZ d))
 j5:∀d:D,PySem.W.kitOne K (.type (kZ d)) (.type "tuple")=some (dM (kZ d))
 Bt:∀d:D,PySem.W.kitOne K (.type (kZ d)) (.type "list")=some (yx (kZ d))
 Bu:∃C,XCl K mg "NoWidth" C
 wG:∃C,mg "SeamError" =some (.ref C)/\∀c C',jB c "SeamError" =true->PySem.W.nsIn K mainGlobals c=some (some (.ref C'))->PySem.W.exmOne K (.ref C') (.ref C)=some true
 rH:∃C,mg "NoDeeds" =some (.ref C)/\∀c C',jB c c=true->PySem.W.nsIn K mainGlobals c=some (some (.ref C'))->Gj K C'/\PySem.W.kitOne K (.ref C') (.ref C)=some (jB c "NoDeeds")
 rJ:∃C,mg "NoWidth" =some (.ref C)/\∀c C',jB c c=true->PySem.W.nsIn K mainGlobals c=some (some (.ref C'))->Gj K C'/\PySem.W.kitOne K (.ref C') (.ref C)=some (jB c "NoWidth")
section
variable {P:Program} {w:World} {K:PySem.W.Frag} {mg:Str->Option Value} {base:Heap}
theorem V5 {f:Addr} {fd:FuncData} (Fn:Fun K "_law_at" "_law_at" Bc f fd) (hmg:mg "_law_at" =some (.ref f)) (hb:Binds K fd ["_law_picture_here","_law_x","_law_y"] []) (T:Txt K mg)  :bf P w K mg base 1 "_law_at" 3 gJ:=
 bQ (k:=0) (g:=Kh) Fn hmg hb VJ rfl rfl λ cdv A outer s H E hr=>(aL (bw (bH (bH (dv 0) (aP (xq rfl) rfl T.vP boot_max (aj aK (aj (aP (zT rfl) rfl T.yO boot_min (aj (aN cV (aP bR rfl T.cF PySem.boot_len (aj (dv 0) aq)) aK) (aj (dv 2) aq))) aq)))) (aP (xq rfl) rfl T.vP boot_max (aj aK (aj (aP (zT rfl) rfl T.yO boot_min (aj (aN cV (aP bR rfl T.cF PySem.boot_len (aj (bH (dv 0) aK) aq)) aK) (aj (dv 1) aq))) aq))))))
theorem Qo {f:Addr} {fd:FuncData} (Fn:Fun K "_law_step" "_law_step" wk f fd) (hmg:mg "_law_step" =some (.ref f)) (hb:Binds K fd ["_law_picture_here","_law_mode","_law_x","_law_y","_law_before"] []) (T:Txt K mg) (oF:bf P w K mg base 1 "_law_at" 3 gJ):bf P w K mg base 2 "_law_step" 5 gK:=
 bQ (k:=1) (g:=Dt) Fn hmg hb uK rfl rfl λ cdv A outer s H E hr=>(aH (bJ 5 uK.nd (aP uh rfl T.sV boot_abs (aj (aN cV (bB oF hr (by decide) (aj (dv 0) (aj (aN cV (dv 2) aK) (aj (dv 3) aq)))) (bB oF hr (by decide) (aj (dv 0) (aj (aN cC (dv 2) aK) (aj (dv 3) aq))))) aq))) (aH (cQ (bO (mF (c7 hr)) (dv 1) wX) (aL (bw (aN cC (dv 5) (aP uh rfl T.sV boot_abs (aj (aN cV (bB oF hr (by decide) (aj (dv 0) (aj (dv 2) (aj (aN cV (dv 3) aK) aq)))) (bB oF hr (by decide) (aj (dv 0) (aj (dv 2) (aj (aN cC (dv 3) aK) aq))))) aq))))) cI) (aH (cQ (DW.dt (Fz (bO aav (dv 4) dN) (Cq (bO (oN (c7 hr)) (dv 4) (dv 2))))) (aL (bJ 5 uK.nd (aN cC (dv 5) (aP uh rfl T.sV boot_abs (aj (aN cV (bH (bH (dv 0) (aN cV (dv 3) aK)) (dv 2)) (bH (bH (dv 0) (dv 3)) (FJ (bO Fy (dv 4) (dv 2)) (aN cV (dv 2) aK) (aN cC (dv 2) aK)))) aq))))) cI) (aL (bw (dv 5))))))
theorem Qp {f:Addr} {fd:FuncData} (Fn:Fun K "_law_cost" "_law_cost" wu f fd) (hmg:mg "_law_cost" =some (.ref f)) (hb:Binds K fd ["_law_picture_here","_law_mode","_law_seam"] []) (T:Txt K mg) (wH:bf P w K mg base 2 "_law_step" 5 gK):bf P w K mg base 3 "_law_cost" 3 gM:=
 bQ (k:=2) (g:=Du) Fn hmg hb Bd rfl rfl λ cdv A outer s H E hr=>(aH (bJ 3 Bd.nd (aN cC (cW (aj dN aq)) (uo (dv 2) nO (nP (um aK))))) (aL (bw (aP (adM rfl) rfl T.V4 boot_sum (aj (bY ["_law_y","_law_x"] [3,1,0] rfl (by kernel_rfl) (by kernel_rfl) (tL rfl T.gQ (aj (dv 2) aq)) (eX (bK (aV (by decide)) (bK (aV (by decide)) eV))) (λ _ _ _ _ nd=>jG rfl (cg (bA 0 nd) (cg (bA 1 nd) iK))) (λ _ _ _ _=>cA) (λ _ _ _ _=>(bB wH hr (by decide) (aj (dv 4) (aj (dv 3) (aj (dv 1) (aj (dv 0) (aj (bH (dv 2) (dv 0)) aq)))))))) aq)))))
theorem Lw {f:Addr} {fd:FuncData} (Fn:Fun K "_law_signs" "_law_signs" uL f fd) (hmg:mg "_law_signs" =some (.ref f)) (hb:Binds K fd ["_law_tags","_law_seam","_law_sign"] []) (T:Txt K mg)  :bf P w K mg base 1 "_law_signs" 3 iB:=
 bQ (k:=0) (g:=Ai) Fn hmg hb Lj rfl rfl λ cdv A outer s H E hr=>(aL (bw (aP bR rfl T.cF PySem.boot_len (aj (bY ["_law_row","_law_x"] [2] rfl (by kernel_rfl) (by kernel_rfl) (xH rfl T.vQ (aj (dv 0) (aj (dv 1) aq))) (eX (bK (aV (by decide)) (bK (aV (by decide)) eV))) (λ _ _ _ _ nd=>jG rfl (cg (bA 0 nd) (cg (bA 1 nd) iK))) (λ _ _ _ _=>(Cw (bO (mF (c7 hr)) (bH (dv 0) (dv 1)) (dv 2)))) (λ _ _ _ _=>(dv 1))) aq))))
theorem Qq {f:Addr} {fd:FuncData} (Fn:Fun K "_law_ways" "_law_ways" wz f fd) (hmg:mg "_law_ways" =some (.ref f)) (hb:Binds K fd ["_law_broad","_law_tall"] []) (T:Txt K mg)  :bf P w K mg base 1 "_law_ways" 2 mX:=
 bQ (k:=0) (g:=Dv) Fn hmg hb iG rfl rfl λ cdv A outer s H E hr=>(aH (ach 2 iG.nd ["_law_x"] [] rfl (by kernel_rfl) (by kernel_rfl) (eU rfl T.eG (aj (dv 0) aq)) (aV (by decide)) (λ _ _ _ _ nd=>bA 0 nd) (λ _ _ _ _=>cA) (λ _ _ _ _=>(cW (aj (dv 0) aq)))) (aH (kY PassesOwn.never rfl (eU rfl T.eG (aj (aN cV (dv 1) aK) aq)) (nM 3 iG.nd) (aH (bJ 4 iG.nd (kO aq)) (aH (kY PassesOwn.never rfl (eE (dv 2)) (nM 5 iG.nd) (aL (bJ 4 iG.nd (aN cC (dv 4) (bY ["_law_x"] [0,5] rfl (by kernel_rfl) (by kernel_rfl) (eE (cW (aj (aN cV (bH (dv 5) (um aK)) aK) (aj (bH (dv 5) (um aK)) (aj (aN cC (bH (dv 5) (um aK)) aK) aq))))) (aV (by decide)) (λ _ _ _ _ nd=>bA 0 nd) (λ _ _ _ _=>(Cw (DW.dt (Fz (bO oM aK (dv 0)) (Cq (bO Fy (dv 0) (dv 1))))))) (λ _ _ _ _=>(aN cC (dv 2) (cW (aj (dv 0) aq))))))))) (aL (bJ 2 iG.nd (dv 4)))))) (aL (bw (dv 2)))))
theorem Qs {f:Addr} {fd:FuncData} (Fn:Fun K "_law_best" "_law_best" wA f fd) (hmg:mg "_law_best" =some (.ref f)) (hb:Binds K fd ["_law_picture_here","_law_mode","_law_tags"] []) (T:Txt K mg) (j7:bf P w K mg base 3 "_law_cost" 3 gM) (pq:bf P w K mg base 1 "_law_signs" 3 iB) (wI:bf P w K mg base 1 "_law_ways" 2 mX):bf P w K mg base 4 "_law_best" 3 iV:=
 bQ (k:=3) (g:=Dw) Fn hmg hb lY rfl rfl λ cdv A outer s H E hr=>(aH (bJ 3 lY.nd dN) (aH (kY PassesOwn.never rfl (eE (bB wI hr (by decide) (aj (aP bR rfl T.cF PySem.boot_len (aj (bH (dv 0) aK) aq)) (aj (aP bR rfl T.cF PySem.boot_len (aj (dv 0) aq)) aq)))) (nM 4 lY.nd) (aL (cQ (bO (mF (c7 hr)) (bB pq hr (by decide) (aj (dv 2) (aj (dv 4) (aj aK aq)))) aK) (aH (bJ 5 lY.nd (cW (aj (um (bB pq hr (by decide) (aj (dv 2) (aj (dv 4) (aj aK aq))))) (aj (bB j7 hr (by decide) (aj (dv 0) (aj (dv 1) (aj (dv 4) aq)))) (aj (dv 4) aq))))) (aL (bJ 3 lY.nd (FJ (DW.dt (vB (bO vG (dv 3) dN) (qW (bO (ad9 (Oq hr)) (dv 5) (dv 3))))) (dv 5) (dv 3))))) cI))) (aL (bw (FJ (bO vG (dv 3) dN) dN (bH (dv 3) aK))))))
theorem RT {f:Addr} {fd:FuncData} (Fn:Fun K "_law_cut" "_law_cut" yH f fd) (hmg:mg "_law_cut" =some (.ref f)) (hb:Binds K fd ["_law_rows","_law_seam"] []) (T:Txt K mg)  :bf P w K mg base 1 "_law_cut" 2 iM:=
 bQ (k:=0) (g:=Gu) Fn hmg hb RL rfl rfl λ cdv A outer s H E hr=>(aL (bw (d7 d9 rfl T.cU boot_tuple (aj (bY ["_law_row","_law_x"] [] rfl (by kernel_rfl) (by kernel_rfl) (xH rfl T.vQ (aj (dv 0) (aj (dv 1) aq))) (eX (bK (aV (by decide)) (bK (aV (by decide)) eV))) (λ _ _ _ _ nd=>jG rfl (cg (bA 0 nd) (cg (bA 1 nd) iK))) (λ _ _ _ _=>cA) (λ _ _ _ _=>(d7 d9 rfl T.cU boot_tuple (aj (bY ["_law_at_here","_law_one"] [1] rfl (by kernel_rfl) (by kernel_rfl) (tL rfl T.gQ (aj (dv 0) aq)) (eX (bK (aV (by decide)) (bK (aV (by decide)) eV))) (λ _ _ _ _ nd=>jG rfl (cg (bA 0 nd) (cg (bA 1 nd) iK))) (λ _ _ _ _=>(Cw (bO (oN (c7 hr)) (dv 0) (dv 2)))) (λ _ _ _ _=>(dv 1))) aq)))) aq))))
theorem Ly {f:Addr} {fd:FuncData} (Fn:Fun K "_law_drawn" "_law_drawn" uM f fd) (hmg:mg "_law_drawn" =some (.ref f)) (hb:Binds K fd ["_law_script","_law_k","_law_many"] []) (T:Txt K mg)  :bf P w K mg base 1 "_law_drawn" 3 cD:=
 bQ (k:=0) (g:=Aj) Fn hmg hb dG rfl rfl λ cdv A outer s H E hr=>(aH (bJ 3 dG.nd (aN qT aK (dv 1))) (aH (cQ (bO (oN (c7 hr)) (dv 0) (kO aq)) (aH (bJ 3 dG.nd (bH (dv 0) (aN qU (dv 1) (aP bR rfl T.cF PySem.boot_len (aj (dv 0) aq))))) (aH (bJ 4 dG.nd (aN tW (dv 1) (aP bR rfl T.cF PySem.boot_len (aj (dv 0) aq)))) (aH (cQ (DW.dt (Fz (bO afw (dv 3) (aN Xd aK aK)) (Cq (bO Fy (dv 4) aK)))) (aH (bJ 5 dG.nd (aN tW (dv 3) (aN Xd aK aK))) (aH (yu 64 PassesOwn.never (DW.dt (Fz (bO Cm (dv 5) aK) (Cq (bO Cm (dv 4) aK)))) (aH (bJ 5 dG.nd (aN tW (dv 5) aK)) (aL (bJ 4 dG.nd (aN cV (dv 4) aK))))) (aL (cQ (bO Cm (dv 5) aK) (aL (bw (aN qU (aN qU (dv 5) aK) (dv 2)))) cI)))) cI) (aL (bJ 3 dG.nd (aN jK (dv 3) (aN qT aK (aN tW (dv 1) (aP bR rfl T.cF PySem.boot_len (aj (dv 0) aq)))))))))) cI) (aH (bJ 3 dG.nd (aN qU (aN jK (aN qT (aN qU (dv 3) aK) aK) (aN qT aK (aN jK (dv 1) aK))) aK)) (aH (bJ 3 dG.nd (aN qU (aN jK (aN qT (dv 3) (dv 3)) (aN tW (dv 3) aK)) aK)) (aL (bw (aN qU (aN tW (aN qU (aN jK (aN qT (dv 3) (dv 3)) (aN tW (dv 3) aK)) aK) aK) (dv 2))))))))
theorem Qt {f:Addr} {fd:FuncData} (Fn:Fun K "_law_free" "_law_free" wB f fd) (hmg:mg "_law_free" =some (.ref f)) (hb:Binds K fd ["_law_picture_here"] []) (T:Txt K mg)  :bf P w K mg base 1 "_law_free" 1 jY:=
 bQ (k:=0) (g:=Dy) Fn hmg hb Qi rfl rfl λ cdv A outer s H E hr=>(aL (bw (d7 d9 rfl T.cU boot_tuple (aj (bY ["_law_row"] [] rfl (by kernel_rfl) (by kernel_rfl) (eE (dv 0)) (aV (by decide)) (λ _ _ _ _ nd=>bA 0 nd) (λ _ _ _ _=>cA) (λ _ _ _ _=>(aN CN (cW (aj aK aq)) (aP bR rfl T.cF PySem.boot_len (aj (dv 0) aq))))) aq))))
theorem Jj {f:Addr} {fd:FuncData} (Fn:Fun K "_law_manner" "_law_manner" rP f fd) (hmg:mg "_law_manner" =some (.ref f)) (hb:Binds K fd ["_law_script","_law_at_here"] []) (T:Txt K mg) (cu:bf P w K mg base 1 "_law_drawn" 3 cD):bf P w K mg base 2 "_law_manner" 2 jP:=
 bQ (k:=1) (g:=zB) Fn hmg hb Jd rfl rfl λ cdv A outer s H E hr=>(aL (bw (bH (kO (aj wX (aj wX aq))) (bB cu hr (by decide) (aj (dv 0) (aj (dv 1) (aj aK aq)))))))
theorem il1 {X:Cx} {a:Int} {ja} {pa q}:DE X (.List [.Constant (.int a) ja pa] q) (jt (ak (λ _=> .ok (.int a)) (λ _=> .ok []))):=kO (aj aK aq)
theorem il5 {X:Cx} {a b c d e:Int} {ja jb jc jd je} {pa pb pc pd pe q}:DE X (.List [.Constant (.int a) ja pa,.Constant (.int b) jb pb,.Constant (.int c) jc pc,.Constant (.int d) jd pd,.Constant (.int e) je pe] q) (jt (ak (λ _=> .ok (.int a)) (ak (λ _=> .ok (.int b)) (ak (λ _=> .ok (.int c)) (ak (λ _=> .ok (.int d)) (ak (λ _=> .ok (.int e)) (λ _=> .ok []))))))):=kO (aj aK (aj aK (aj aK (aj aK (aj aK aq)))))
theorem Lz {f:Addr} {fd:FuncData} (Fn:Fun K "_law_marks" "_law_marks" uN f fd) (hmg:mg "_law_marks" =some (.ref f)) (hb:Binds K fd ["_law_script","_law_at_here","_law_picture_here"] []) (T:Txt K mg) (cu:bf P w K mg base 1 "_law_drawn" 3 cD):bf P w K mg base 2 "_law_marks" 3 lM:=
  bQ (k :=1) (g:=Ak) Fn hmg hb jU rfl rfl fun cdv A outer s H E hr=>(by
      refine (aH (nW 3 jU.nd aq) (aH ?_ ?_))
      · refine bJ 4 ?_ ?_ (hi:=?_) (hx:=?_) (hs:=?_) (hf:=?_)
        · exact jU.nd
        · refine bH ?_ ?_
          · refine kO ?_
            refine aj ?_ ?_
            · exact il5
            refine aj ?_ ?_
            · exact il5
            refine aj ?_ ?_
            · exact il5
            refine aj ?_ ?_
            · exact il1
            exact aq
          · exact (bB cu hr (by decide) (aj (dv 0) (aj (dv 1) (aj aK aq))))
        · rfl
        · first |exact Or.inl rfl |exact Or.inr rfl
        · rfl
        · first |exact Or.inl rfl |exact Or.inr rfl
      · exact (aH (kY PassesOwn.never rfl (tL rfl T.gQ (aj (dv 2) aq)) (Cy 5 6 rfl jU.nd) (aH (bJ 7 jU.nd (aN cC (aN cC (dv 1) aK) (aN CN (aP bR rfl T.cF PySem.boot_len (aj (dv 6) aq)) (dv 5)))) (aL (wZ 3 (d7 d9 rfl T.cU boot_tuple (aj (bY ["_law_x"] [7,0,4] rfl (by kernel_rfl) (by kernel_rfl) (eU rfl T.eG (aj (aP bR rfl T.cF PySem.boot_len (aj (dv 6) aq)) aq)) (aV (by decide)) (fun _ _ _ _ nd=>bA 0 nd) (fun _ _ _ _=>cA) (fun _ _ _ _=>(bH (dv 3) (bB cu hr (by decide) (aj (dv 2) (aj (aN cC (dv 1) (dv 0)) (aj (aP bR rfl T.cF PySem.boot_len (aj (dv 3) aq)) aq))))))) aq)))))) (aL (bw (d7 d9 rfl T.cU boot_tuple (aj (dv 3) aq))))))
theorem RV {f:Addr} {fd:FuncData} (Fn:Fun K "all_free" "all_free" yI f fd) (hmg:mg "all_free" =some (.ref f)) (hb:Binds K fd ["picture"] []) (T:Txt K mg)  :bf P w K mg base 1 "all_free" 1 oX:=
  bQ (k:=0) (g:=Gv) Fn hmg hb RM rfl rfl fun cdv A outer s H E hr=>(by
      obtain⟨aeH,Qu⟩:=T.G9
      exact (aL (bw (aN CN (cW (aj (aN CN (cW (aj (nR rfl Qu) aq)) (aP bR rfl T.cF PySem.boot_len (aj (bH (dv 0) aK) aq))) aq)) (aP bR rfl T.cF PySem.boot_len (aj (dv 0) aq))))))
theorem RW {f:Addr} {fd:FuncData} (Fn:Fun K "is_whole" "is_whole" yJ f fd) (hmg:mg "is_whole" =some (.ref f)) (hb:Binds K fd ["thing"] []) (T:Txt K mg)  :bf P w K mg base 1 "is_whole" 1 dH:=
 bQ (k:=0) (g:=Gw) Fn hmg hb RN rfl rfl λ cdv A outer s H E hr=>(aL (bw (jF (mD (ans:=CG) T.Hh (dv 0) rfl T.cT boot_isinstance rfl T.V3 boot_int) (mR (Xe (mD (ans:=yw) T.Bs (dv 0) rfl T.cT boot_isinstance rfl T.Qn boot_bool))))))
theorem V6 {f:Addr} {fd:FuncData} (Fn:Fun K "is_mark" "is_mark" Bf f fd) (hmg:mg "is_mark" =some (.ref f)) (hb:Binds K fd ["thing"] []) (T:Txt K mg) (dZ:bf P w K mg base 1 "is_whole" 1 dH):bf P w K mg base 2 "is_mark" 1 q9:=
  bQ (k:=1) (g:=Kl) Fn hmg hb VL rfl rfl fun cdv A outer s H E hr=>(by
      obtain⟨aeH,Qu⟩:=T.G9
      obtain⟨aeI,Qv⟩:=T.Hf
      exact (aL (bw (jF (bB dZ hr (by decide) (aj (dv 0) aq)) (mR (yh oM oM (nR rfl Qu) (dv 0) (nR rfl Qv)))))))
theorem Hi {f:Addr} {fd:FuncData} (Fn:Fun K "is_marks_row" "is_marks_row" qm f fd) (hmg:mg "is_marks_row" =some (.ref f)) (hb:Binds K fd ["thing","wide"] []) (T:Txt K mg) (Bv:bf P w K mg base 2 "is_mark" 1 q9):bf P w K mg base 3 "is_marks_row" 2 ji:=
 bQ (k:=2) (g:=xP) Fn hmg hb G5 rfl rfl λ cdv A outer s H E hr=>(aL (bw (jF (mD (ans:=dM) T.j5 (dv 0) rfl T.cT boot_isinstance rfl T.cU boot_tuple) (jF (zP (mF (c7 hr)) (aP bR rfl T.cF PySem.boot_len (aj (dv 0) aq)) (dv 1)) (mR (aP (qY rfl) rfl T.qO boot_all (aj (bY ["mark"] [] rfl (by kernel_rfl) (by kernel_rfl) (eE (dv 0)) (aV (by decide)) (λ _ _ _ _ nd=>bA 0 nd) (λ _ _ _ _=>cA) (λ _ _ _ _=>(bB Bv hr (by decide) (aj (dv 0) aq)))) aq)))))))
theorem RX {f:Addr} {fd:FuncData} (Fn:Fun K "is_marks" "is_marks" yK f fd) (hmg:mg "is_marks" =some (.ref f)) (hb:Binds K fd ["thing","picture"] []) (T:Txt K mg) (qy:bf P w K mg base 3 "is_marks_row" 2 ji):bf P w K mg base 4 "is_marks" 2 oY:=
 bQ (k:=3) (g:=Gx) Fn hmg hb RP rfl rfl λ cdv A outer s H E hr=>(aH (cQ (DW.dt (vB (gb (jE (mD (ans:=dM) T.j5 (dv 0) rfl T.cT boot_isinstance rfl T.cU boot_tuple))) (qW (bO (oN (c7 hr)) (aP bR rfl T.cF PySem.boot_len (aj (dv 0) aq)) (aP bR rfl T.cF PySem.boot_len (aj (dv 1) aq)))))) (aL (bw nq)) cI) (aL (bw (aP (qY rfl) rfl T.qO boot_all (aj (bY ["row"] [1] rfl (by kernel_rfl) (by kernel_rfl) (eE (dv 0)) (aV (by decide)) (λ _ _ _ _ nd=>bA 0 nd) (λ _ _ _ _=>cA) (λ _ _ _ _=>(bB qy hr (by decide) (aj (dv 0) (aj (aP bR rfl T.cF PySem.boot_len (aj (bH (dv 1) aK) aq)) aq))))) aq)))))
theorem LC {f:Addr} {fd:FuncData} (Fn:Fun K "full_marks" "full_marks" uO f fd) (hmg:mg "full_marks" =some (.ref f)) (hb:Binds K fd ["thing","picture"] []) (T:Txt K mg) (yQ:bf P w K mg base 1 "all_free" 1 oX) (yR:bf P w K mg base 4 "is_marks" 2 oY):bf P w K mg base 5 "full_marks" 2 iC:=
 bQ (k:=4) (g:=Al) Fn hmg hb Ln rfl rfl λ cdv A outer s H E hr=>(aH (cQ (bO vG (dv 0) dN) (aL (bw (bB yQ hr (by decide) (aj (dv 1) aq)))) cI) (aH (cQ (gb (jE (bB yR hr (by decide) (aj (dv 0) (aj (dv 1) aq))))) (aL ud) cI) (aL (bw (dv 0)))))
theorem Jk {f:Addr} {fd:FuncData} (Fn:Fun K "need_manner" "need_manner" rQ f fd) (hmg:mg "need_manner" =some (.ref f)) (hb:Binds K fd ["thing"] []) (T:Txt K mg)  :bf P w K mg base 1 "need_manner" 1 jQ:=
 bQ (k:=0) (g:=zE) Fn hmg hb Je rfl rfl λ cdv A outer s H E hr=>(aL (cQ (bO aaw (dv 0) (acf (ss:=["worth","joins"]) rfl T.Br) (by rfl)) (aL ud) cI))
theorem V7 {f:Addr} {fd:FuncData} (Fn:Fun K "is_line" "is_line" Bg f fd) (hmg:mg "is_line" =some (.ref f)) (hb:Binds K fd ["thing"] []) (T:Txt K mg)  :bf P w K mg base 1 "is_line" 1 jo:=
  bQ (k:=0) (g:=Km) Fn hmg hb VN rfl rfl fun cdv A outer s H E hr=>(by
      obtain⟨RZ,wJ⟩:=T.qN
      exact (aL (bw (jF (mD (ans:=dM) T.j5 (dv 0) rfl T.cT boot_isinstance rfl T.cU boot_tuple) (mR (yh oM oM aK (aP bR rfl T.cF PySem.boot_len (aj (dv 0) aq)) (nR rfl wJ)))))))
theorem V8 {f:Addr} {fd:FuncData} (Fn:Fun K "is_cell" "is_cell" Bh f fd) (hmg:mg "is_cell" =some (.ref f)) (hb:Binds K fd ["thing"] []) (T:Txt K mg) (dZ:bf P w K mg base 1 "is_whole" 1 dH):bf P w K mg base 2 "is_cell" 1 lN:=
  bQ (k:=1) (g:=Ko) Fn hmg hb VP rfl rfl fun cdv A outer s H E hr=>(by
      obtain⟨afe,R0⟩:=T.wF
      exact (aL (bw (jF (bB dZ hr (by decide) (aj (dv 0) aq)) (mR (yh oM oM aK (dv 0) (nR rfl R0)))))))
theorem Zh {f:Addr} {fd:FuncData} (Fn:Fun K "is_row" "is_row" Fg f fd) (hmg:mg "is_row" =some (.ref f)) (hb:Binds K fd ["thing"] []) (T:Txt K mg) (oG:bf P w K mg base 2 "is_cell" 1 lN) (oH:bf P w K mg base 1 "is_line" 1 jo):bf P w K mg base 3 "is_row" 1 ur:=
 bQ (k:=2) (g:=Ow) Fn hmg hb Zf rfl rfl λ cdv A outer s H E hr=>(aL (bw (jF (bB oH hr (by decide) (aj (dv 0) aq)) (mR (aP (qY rfl) rfl T.qO boot_all (aj (bY ["cell"] [] rfl (by kernel_rfl) (by kernel_rfl) (eE (dv 0)) (aV (by decide)) (λ _ _ _ _ nd=>bA 0 nd) (λ _ _ _ _=>cA) (λ _ _ _ _=>(bB oG hr (by decide) (aj (dv 0) aq)))) aq))))))
theorem LK {f:Addr} {fd:FuncData} (Fn:Fun K "is_picture" "is_picture" uP f fd) (hmg:mg "is_picture" =some (.ref f)) (hb:Binds K fd ["thing"] []) (T:Txt K mg) (oH:bf P w K mg base 1 "is_line" 1 jo) (Fp:bf P w K mg base 3 "is_row" 1 ur):bf P w K mg base 4 "is_picture" 1 lO:=
 bQ (k:=3) (g:=Am) Fn hmg hb Lp rfl rfl λ cdv A outer s H E hr=>(aH (cQ (DW.dt (vB (gb (jE (bB oH hr (by decide) (aj (dv 0) aq)))) (qW (gb (jE (aP (qY rfl) rfl T.qO boot_all (aj (bY ["row"] [] rfl (by kernel_rfl) (by kernel_rfl) (eE (dv 0)) (aV (by decide)) (λ _ _ _ _ nd=>bA 0 nd) (λ _ _ _ _=>cA) (λ _ _ _ _=>(bB Fp hr (by decide) (aj (dv 0) aq)))) aq))))))) (aL (bw nq)) cI) (aL (bw (aP (qY rfl) rfl T.qO boot_all (aj (bY ["row"] [0] rfl (by kernel_rfl) (by kernel_rfl) (eE (dv 0)) (aV (by decide)) (λ _ _ _ _ nd=>bA 0 nd) (λ _ _ _ _=>cA) (λ _ _ _ _=>(zP (mF (c7 hr)) (aP bR rfl T.cF PySem.boot_len (aj (dv 0) aq)) (aP bR rfl T.cF PySem.boot_len (aj (bH (dv 1) aK) aq))))) aq)))))
theorem Hj {f:Addr} {fd:FuncData} (Fn:Fun K "need_picture" "need_picture" qu f fd) (hmg:mg "need_picture" =some (.ref f)) (hb:Binds K fd ["thing"] []) (T:Txt K mg) (uW:bf P w K mg base 4 "is_picture" 1 lO):bf P w K mg base 5 "need_picture" 1 fJ:=
 bQ (k:=4) (g:=xQ) Fn hmg hb G6 rfl rfl λ cdv A outer s H E hr=>(aL (cQ (gb (jE (bB uW hr (by decide) (aj (dv 0) aq)))) (aL ud) cI))
theorem LQ {f:Addr} {fd:FuncData} (Fn:Fun K "need_width" "need_width" uQ f fd) (hmg:mg "need_width" =some (.ref f)) (T:Txt K mg) {eN:List (Addr×Str)} (dZ:bf P w K mg base 1 "is_whole" 1 dH):lK P w K mg base 2 "need_width" 3 lQ fd ["thing","least","most"] eN:=
  ⟨f, Ov (k:=1) (m:=0) (g:=Ao) Fn Lq rfl rfl fun cdv A outer s H E hr hT=>((by
      obtain⟨cX,Bu⟩:=T.Bu
      exact (aL (cQ (DW.dt (vB (gb (jE (bB dZ hr (by decide) (aj (dv 0) aq)))) (qW (gb (aap oM oM (dv 1) (dv 0) (dv 2)))))) (aL (Yp rfl Bu (aj (afK (dv 1) (dv 2)) aq))) cI)))),hmg,Fn.kp⟩
theorem Jl {f:Addr} {fd:FuncData} (Fn:Fun K "cells_along" "cells_along" rR f fd) (hmg:mg "cells_along" =some (.ref f)) (hb:Binds K fd ["picture","seam"] []) (T:Txt K mg)  :bf P w K mg base 1 "cells_along" 2 jR:=
 bQ (k:=0) (g:=zF) Fn hmg hb Jf rfl rfl λ cdv A outer s H E hr=>(aL (bw (d7 d9 rfl T.cU boot_tuple (aj (bY ["row","place"] [] rfl (by kernel_rfl) (by kernel_rfl) (xH rfl T.vQ (aj (dv 0) (aj (dv 1) aq))) (eX (bK (aV (by decide)) (bK (aV (by decide)) eV))) (λ _ _ _ _ nd=>jG rfl (cg (bA 0 nd) (cg (bA 1 nd) iK))) (λ _ _ _ _=>cA) (λ _ _ _ _=>(bH (dv 0) (dv 1)))) aq))))
theorem ac0 {f:Addr} {fd:FuncData} (Fn:Fun K "gaps" "gaps" Qj f fd) (hmg:mg "gaps" =some (.ref f)) (hb:Binds K fd ["line"] []) (T:Txt K mg)  :bf P w K mg base 1 "gaps" 1 rm:=
 bQ (k:=0) (g:=Yq) Fn hmg hb U7 rfl rfl λ cdv A outer s H E hr=>(aH (bJ 1 U7.nd (aN cV (aP bR rfl T.cF PySem.boot_len (aj (dv 0) aq)) aK)) (aL (bw (bY ["at"] [1,0] rfl (by kernel_rfl) (by kernel_rfl) (eU rfl T.eG (aj (aP bR rfl T.cF PySem.boot_len (aj (dv 0) aq)) aq)) (aV (by decide)) (λ _ _ _ _ nd=>bA 0 nd) (λ _ _ _ _=>cA) (λ _ _ _ _=>(aP uh rfl T.sV boot_abs (aj (aN cV (bH (dv 2) (aP (xq rfl) rfl T.vP boot_max (aj (aN cV (dv 0) aK) (aj aK aq)))) (bH (dv 2) (aP (zT rfl) rfl T.yO boot_min (aj (aN cC (dv 0) aK) (aj (dv 1) aq))))) aq)))))))
theorem LR {f:Addr} {fd:FuncData} (Fn:Fun K "join_fares" "join_fares" uR f fd) (hmg:mg "join_fares" =some (.ref f)) (hb:Binds K fd ["picture","y"] []) (T:Txt K mg) (uX:bf P w K mg base 1 "gaps" 1 rm):bf P w K mg base 2 "join_fares" 2 lR:=
 bQ (k:=1) (g:=Aq) Fn hmg hb eY rfl rfl λ cdv A outer s H E hr=>(aH (bJ 2 eY.nd (bH (dv 0) (dv 1))) (aH (bJ 3 eY.nd (bH (dv 0) (aP (xq rfl) rfl T.vP boot_max (aj (aN cV (dv 1) aK) (aj aK aq))))) (aH (bJ 4 eY.nd (aN cV (aP bR rfl T.cF PySem.boot_len (aj (dv 2) aq)) aK)) (aH (nW 5 eY.nd aq) (aH (kY PassesOwn.never rfl (tL rfl T.gQ (aj (bB uX hr (by decide) (aj (dv 2) aq)) aq)) (Cy 6 7 rfl eY.nd) (aH (bJ 8 eY.nd (aN cC (dv 7) (aP uh rfl T.sV boot_abs (aj (aN cV (bH (dv 3) (dv 6)) (bH (dv 2) (aP (xq rfl) rfl T.vP boot_max (aj (aN cV (dv 6) aK) (aj aK aq))))) aq)))) (aH (bJ 9 eY.nd (aN cC (dv 7) (aP uh rfl T.sV boot_abs (aj (aN cV (bH (dv 3) (dv 6)) (bH (dv 2) (aP (zT rfl) rfl T.yO boot_min (aj (aN cC (dv 6) aK) (aj (dv 4) aq))))) aq)))) (aL (wZ 5 (cW (aj (dv 8) (aj (dv 7) (aj (dv 9) aq))))))))) (aL (bw (dv 5))))))))
theorem V9 {f:Addr} {fd:FuncData} (Fn:Fun K "size_of" "size_of" Bj f fd) (hmg:mg "size_of" =some (.ref f)) (hb:Binds K fd ["picture"] []) (T:Txt K mg) (gZ:bf P w K mg base 5 "need_picture" 1 fJ):bf P w K mg base 6 "size_of" 1 iQ:=
 bQ (k:=5) (g:=Kp) Fn hmg hb VR rfl rfl λ cdv A outer s H E hr=>(aH (pJ (bB gZ hr (by decide) (aj (dv 0) aq))) (aL (bw (cW (aj (aP bR rfl T.cF PySem.boot_len (aj (bH (dv 0) aK) aq)) (aj (aP bR rfl T.cF PySem.boot_len (aj (dv 0) aq)) aq))))))
theorem Zi {f:Addr} {fd:FuncData} (Fn:Fun K "turned" "turned" Fi f fd) (hmg:mg "turned" =some (.ref f)) (hb:Binds K fd ["picture"] []) (T:Txt K mg) (iT:bf P w K mg base 6 "size_of" 1 iQ):bf P w K mg base 7 "turned" 1 uw:=
 bQ (k:=6) (g:=Ox) Fn hmg hb KY rfl rfl λ cdv A outer s H E hr=>(aH (tD 1 2 rfl KY.nd (bB iT hr (by decide) (aj (dv 0) aq))) (aL (bw (d7 d9 rfl T.cU boot_tuple (aj (bY ["x"] [2,0] rfl (by kernel_rfl) (by kernel_rfl) (eU rfl T.eG (aj (dv 1) aq)) (aV (by decide)) (λ _ _ _ _ nd=>bA 0 nd) (λ _ _ _ _=>cA) (λ _ _ _ _=>(d7 d9 rfl T.cU boot_tuple (aj (bY ["y"] [2,0] rfl (by kernel_rfl) (by kernel_rfl) (eU rfl T.eG (aj (dv 1) aq)) (aV (by decide)) (λ _ _ _ _ nd=>bA 0 nd) (λ _ _ _ _=>cA) (λ _ _ _ _=>(bH (bH (dv 1) (dv 0)) (dv 2)))) aq)))) aq)))))
theorem Zj {f:Addr} {fd:FuncData} (Fn:Fun K "worths" "worths" Fj f fd) (hmg:mg "worths" =some (.ref f)) (hb:Binds K fd ["picture"] []) (T:Txt K mg) (uX:bf P w K mg base 1 "gaps" 1 rm) (iT:bf P w K mg base 6 "size_of" 1 iQ) (Fq:bf P w K mg base 7 "turned" 1 uw):bf P w K mg base 8 "worths" 1 ux:=
 bQ (k:=7) (g:=Oz) Fn hmg hb vO rfl rfl λ cdv A outer s H E hr=>(aH (tD 1 2 rfl vO.nd (bB iT hr (by decide) (aj (dv 0) aq))) (aH (bJ 3 vO.nd (bY ["row"] [] rfl (by kernel_rfl) (by kernel_rfl) (eE (dv 0)) (aV (by decide)) (λ _ _ _ _ nd=>bA 0 nd) (λ _ _ _ _=>cA) (λ _ _ _ _=>(bB uX hr (by decide) (aj (dv 0) aq))))) (aH (bJ 4 vO.nd (bY ["column"] [] rfl (by kernel_rfl) (by kernel_rfl) (eE (bB Fq hr (by decide) (aj (dv 0) aq))) (aV (by decide)) (λ _ _ _ _ nd=>bA 0 nd) (λ _ _ _ _=>cA) (λ _ _ _ _=>(bB uX hr (by decide) (aj (dv 0) aq))))) (aL (bw (d7 d9 rfl T.cU boot_tuple (aj (bY ["y"] [3,4,1] rfl (by kernel_rfl) (by kernel_rfl) (eU rfl T.eG (aj (dv 2) aq)) (aV (by decide)) (λ _ _ _ _ nd=>bA 0 nd) (λ _ _ _ _=>cA) (λ _ _ _ _=>(d7 d9 rfl T.cU boot_tuple (aj (bY ["x"] [1,2,0] rfl (by kernel_rfl) (by kernel_rfl) (eU rfl T.eG (aj (dv 3) aq)) (aV (by decide)) (λ _ _ _ _ nd=>bA 0 nd) (λ _ _ _ _=>cA) (λ _ _ _ _=>(aN cC (bH (bH (dv 1) (dv 3)) (dv 0)) (bH (bH (dv 2) (dv 0)) (dv 3))))) aq)))) aq)))))))
theorem abd {f:Addr} {fd:FuncData} (Fn:Fun K "fares" "fares" Jg f fd) (hmg:mg "fares" =some (.ref f)) (hb:Binds K fd ["picture","manner"] []) (T:Txt K mg) (uY:bf P w K mg base 2 "join_fares" 2 lR) (Ft:bf P w K mg base 8 "worths" 1 ux):bf P w K mg base 9 "fares" 2 pZ:=
 bQ (k:=8) (g:=Uo) Fn hmg hb abb rfl rfl λ cdv A outer s H E hr=>(aH (cQ (bO (mF (c7 hr)) (dv 1) wX) (aL (bw (bY ["row"] [] rfl (by kernel_rfl) (by kernel_rfl) (eE (bB Ft hr (by decide) (aj (dv 0) aq))) (aV (by decide)) (λ _ _ _ _ nd=>bA 0 nd) (λ _ _ _ _=>cA) (λ _ _ _ _=>(bY ["worth"] [] rfl (by kernel_rfl) (by kernel_rfl) (eE (dv 0)) (aV (by decide)) (λ _ _ _ _ nd=>bA 0 nd) (λ _ _ _ _=>cA) (λ _ _ _ _=>(cW (aj (dv 0) (aj (dv 0) (aj (dv 0) aq)))))))))) cI) (aL (bw (bY ["y"] [0] rfl (by kernel_rfl) (by kernel_rfl) (eU rfl T.eG (aj (aP bR rfl T.cF PySem.boot_len (aj (dv 0) aq)) aq)) (aV (by decide)) (λ _ _ _ _ nd=>bA 0 nd) (λ _ _ _ _=>cA) (λ _ _ _ _=>(bB uY hr (by decide) (aj (dv 1) (aj (dv 0) aq))))))))
theorem Wa {f:Addr} {fd:FuncData} (Fn:Fun K "fare_of" "fare_of" Bk f fd) (hmg:mg "fare_of" =some (.ref f)) (hb:Binds K fd ["row","above","place"] []) (T:Txt K mg)  :bf P w K mg base 1 "fare_of" 3 iR:=
 bQ (k:=0) (g:=Kq) Fn hmg hb V0 rfl rfl λ cdv A outer s H E hr=>(aL (bw (bH (bH (dv 0) (dv 2)) (aN cC (aN cV (dv 1) (dv 2)) aK))))
theorem ac1 {f:Addr} {fd:FuncData} (Fn:Fun K "near" "near" Qk f fd) (hmg:mg "near" =some (.ref f)) (hb:Binds K fd ["place","wide"] []) (T:Txt K mg)  :bf P w K mg base 1 "near" 2 Ar:=
 bQ (k:=0) (g:=Yr) Fn hmg hb acY rfl rfl λ cdv A outer s H E hr=>(aL (bw (aaQ rfl rfl T.Hg rfl T.eG (aj (aP (xq rfl) rfl T.vP boot_max (aj (aN cV (dv 0) aK) (aj aK aq))) (aj (aP (zT rfl) rfl T.yO boot_min (aj (aN cC (dv 0) aK) (aj (dv 1) aq))) aq)))))
theorem Zk {f:Addr} {fd:FuncData} (Fn:Fun K "onward" "onward" Fl f fd) (hmg:mg "onward" =some (.ref f)) (hb:Binds K fd ["beneath","row","x"] []) (T:Txt K mg) (oJ:bf P w K mg base 1 "fare_of" 3 iR) (Qw:bf P w K mg base 1 "near" 2 Ar):bf P w K mg base 2 "onward" 3 p7:=
 bQ (k:=1) (g:=OD) Fn hmg hb rG rfl rfl λ cdv A outer s H E hr=>(aH (nW 3 rG.nd aq) (aH (kY PassesOwn.never rfl (eE (bB Qw hr (by decide) (aj (dv 2) (aj (aP bR rfl T.cF PySem.boot_len (aj (dv 0) aq)) aq)))) (nM 4 rG.nd) (aH (bJ 5 rG.nd (bB oJ hr (by decide) (aj (dv 1) (aj (dv 2) (aj (dv 4) aq))))) (aL (Ui 3 rG.nd (bY ["less","cost","rest"] [5] rfl (by kernel_rfl) (by kernel_rfl) (eE (bH (dv 0) (dv 4))) (eX (bK (aV (by decide)) (bK (aV (by decide)) (bK (aV (by decide)) eV)))) (λ _ _ _ _ nd=>jG rfl (cg (bA 0 nd) (cg (bA 1 nd) (cg (bA 2 nd) iK)))) (λ _ _ _ _=>cA) (λ _ _ _ _=>(cW (aj (dv 0) (aj (aN cC (dv 1) (dv 3)) (aj (dv 2) aq)))))))))) (aL (bw (dv 3)))))
theorem abe {f:Addr} {cdv:Value} {A:Around} {outer:List PySem.Env} {s:Shared} {H:Hp} {E:XK} (T:Txt K mg) (uZ:bf P w K mg base 2 "onward" 3 p7) {aG:Nat} {GG:List D->R D} (hG:Ab P w K mg base 1 GG 2 aG H) (hr:Room 2 (A.deeper (envOfC "swept" (defScope tU) s.heap.objs.size f cdv))):nU (cxOf CX0 P w K mg base ["table","marks","start","gather","rows","y","row","x","mark","told","lost"] "swept" (defScope tU) f cdv A outer s H E).nox (defBody tU) (Io aG GG):=by
 obtain⟨aeI,Qv⟩:=T.Hf;obtain⟨agX,aeJ⟩:=T.Qm;exact (aH (nW 4 jC.nd aq) (aH (kY PassesOwn.never rfl (acr rfl T.sW rfl T.eG (aj (aP bR rfl T.cF PySem.boot_len (aj (dv 1) aq)) aq)) (nM 5 jC.nd) (aH (nW 6 jC.nd aq) (aH (kY PassesOwn.never rfl (tL rfl T.gQ (aj (bH (dv 1) (dv 5)) aq)) (Cy 7 8 rfl jC.nd) (aH (cQ (bO (mF (c7 hr)) (dv 8) (nR rfl aeJ)) (aL (bJ 9 jC.nd (kO aq))) (aL (cQ (gb (Yl (dv 4))) (aL (bJ 9 jC.nd (Od 3 hG hr (by decide) (aj (dv 7) (aj (kO (aj (cW (aj aK (aj aK (aj (dv 2) aq)))) aq)) aq))))) (aL (bJ 9 jC.nd (Od 3 hG hr (by decide) (aj (dv 7) (aj (bB uZ hr (by decide) (aj (ad7 4 (um aK)) (aj (bH (dv 0) (aN cC (dv 5) aK)) (aj (dv 7) aq)))) aq)))))))) (aH (bJ 10 jC.nd (FJ (bO (mF (c7 hr)) (dv 8) (nR rfl Qv)) aK aK)) (aL (wZ 6 (bY ["less","cost","rest"] [10] rfl (by kernel_rfl) (by kernel_rfl) (eE (dv 9)) (eX (bK (aV (by decide)) (bK (aV (by decide)) (bK (aV (by decide)) eV)))) (λ _ _ _ _ nd=>jG rfl (cg (bA 0 nd) (cg (bA 1 nd) (cg (bA 2 nd) iK)))) (λ _ _ _ _=>cA) (λ _ _ _ _=>(cW (aj (aN cV (dv 0) (dv 3)) (aj (dv 1) (aj (dv 2) aq))))))))))) (aL (acp 4 6 (by decide)))))) (aL (bw (aco (dv 4))))))
theorem abf {f:Addr} {fd:FuncData} (Fn:Fun K "swept" "swept" tU f fd) (hmg:mg "swept" =some (.ref f)) (hb:Binds K fd ["table","marks","start","gather"] []) (T:Txt K mg) (uZ:bf P w K mg base 2 "onward" 3 p7):FnS P w K mg base 3 "swept" 1 3 2 tM:=
 ⟨f,fd,["table","marks","start","gather"],fnS (k:=2) (m:=7) (g:=Io) Fn jC rfl rfl λ cdv A outer s H E a G hr hG=>abe T uZ hG hr,hmg,Fn.kp,hb⟩
theorem Ma {f c:Addr} {cdv:Value} {A:Around} {outer:List PySem.Env} {s:Shared} {H:Hp} (T:Txt K mg)  (hr:Room 0 (A.deeper (yC "best_ways.<locals>.first_ones" (defScope iH) f cdv s "many" c))):nU (yD P w K mg base ["x","told","many"] "best_ways.<locals>.first_ones" (defScope iH) f cdv A outer s H "many" c) (defBody iH) Av:=by
 exact (aL (bw (bY ["less","cost","places"] [0] rfl (by kernel_rfl) (by kernel_rfl) (eE (Ke (aP (Om (Oq hr)) rfl T.yP boot_sorted (aj (dv 1) aq)) nO (nP (dv 2)))) (eX (bK (aV (by decide)) (bK (aV (by decide)) (bK (aV (by decide)) eV)))) (λ _ _ _ _ nd=>jG rfl (cg (bA 0 nd) (cg (bA 1 nd) (cg (bA 2 nd) iK)))) (λ _ _ _ _=>cA) (λ _ _ _ _=>(cW (aj (dv 0) (aj (dv 1) (aj (aN cC (cW (aj (dv 3) aq)) (dv 2)) aq))))))))
theorem Jm (T:Txt K mg)  (my:Int) (a c:Addr) (H:Hp) (co:Obj) (uy:Value) (fh:lF H a "first_ones" "best_ways.<locals>.first_ones" (defArgs iH) (defBody iH) (defScope iH) [("many",c)]) (hc:H c=some (.frz co (.own c))) (hcd:co.data= .cell (some uy)) (hy:RelV (.int my) uy):Ab P w K mg base 1 (dX my) 2 a H:=
 ad5 (k:=0) (m:=0) Ls rfl rfl (λ _ _ _ _ _ us hl=>sJ hl λ _ _=>rfl) (λ cdv A outer s H f c hr=>Ma T  hr) fh hc hcd hy
theorem Qx {f cc TP:Addr} {A:Around} {outer:List PySem.Env} {s:Shared} {H:Hp} {E:XK} (T:Txt K mg) (xX:FnS P w K mg base 3 "swept" 1 3 2 tM)  (hB:qJ base mg cc TP) (hT:Tb [(TP,"best_ways.<locals>.first_ones")] H) (hr:Room 3 (A.deeper (envOfC "best_ways" (defScope iY) s.heap.objs.size f (.ref cc)))):nU (cxOf CX0 P w K mg base ["table","marks","many","first_ones"] "best_ways" (defScope iY) f (.ref cc) A outer s H E).nox (defBody iY) vY:=by
 obtain⟨fS,Oe,Kd,Sw,hm,hk,hb⟩:=xX;exact aaP (c:=s.heap.objs.size+1) (y:= "many") 3 2 Bl.nd hB hT rfl Sw (hr.mono (by decide)) hm hk hb (Jm T ) (dv 0) (dv 1) (cW aq) rfl rfl rfl rfl (by decide) (.inl rfl)
theorem Qy {f cc TP:Addr} {fd:FuncData} (Fn:Fun K "best_ways" "best_ways" iY f fd) (hmg:mg "best_ways" =some (.ref f)) (T:Txt K mg) (xX:FnS P w K mg base 3 "swept" 1 3 2 tM)  (hB:qJ base mg cc TP) (hci:Ac K mg "best_ways" cc):rO P w K mg base 4 "best_ways" 3 qK fd ["table","marks","many"] [(TP,"best_ways.<locals>.first_ones")]:=by
 refine⟨f,Ub (k:=3) (m:=1) (g:=vY) Fn Bl rfl rfl λ cdv A outer s H E hcd hr hT=>?_,hmg,Fn.kp⟩;have e:fd.code= .ref cc:=by
  obtain⟨oc,od,kV,doc,pm,an,ag5,ct,osl,e1,lk,_⟩:=Fn.ex;exact hci f oc od fd osl hmg lk
 cases hcd.symm.trans e;exact Qx T xX  hB hT hr
theorem R3 {f:Addr} {fd:FuncData} (Fn:Fun K "from_top" "from_top" yL f fd) (hmg:mg "from_top" =some (.ref f)) (hb:Binds K fd ["table","rows"] []) (T:Txt K mg) (oJ:bf P w K mg base 1 "fare_of" 3 iR):bf P w K mg base 2 "from_top" 2 oZ:=
 bQ (k:=1) (g:=Gy) Fn hmg hb ni rfl rfl λ cdv A outer s H E hr=>(aH (nW 2 ni.nd aq) (aH (kY PassesOwn.never rfl (tL rfl T.gQ (aj (bH (dv 1) aK) aq)) (Cy 3 4 rfl ni.nd) (aH (bJ 5 ni.nd (bB oJ hr (by decide) (aj (bH (dv 0) aK) (aj (dv 3) (aj (dv 3) aq))))) (aL (Ui 2 ni.nd (bY ["less","cost","rest"] [5] rfl (by kernel_rfl) (by kernel_rfl) (eE (dv 4)) (eX (bK (aV (by decide)) (bK (aV (by decide)) (bK (aV (by decide)) eV)))) (λ _ _ _ _ nd=>jG rfl (cg (bA 0 nd) (cg (bA 1 nd) (cg (bA 2 nd) iK)))) (λ _ _ _ _=>cA) (λ _ _ _ _=>(cW (aj (dv 0) (aj (aN cC (dv 1) (dv 3)) (aj (dv 2) aq)))))))))) (aL (bw (dv 2)))))
theorem Jo {f:Addr} {fd:FuncData} (Fn:Fun K "first_seams" "first_seams" rT f fd) (hmg:mg "first_seams" =some (.ref f)) (T:Txt K mg) {eN:List (Addr×Str)} {u6:FuncData} (wK:rO P w K mg base 4 "best_ways" 3 qK u6 ["table","marks","many"] eN) (wL:Binds K u6 ["table","marks","many"] []) (yS:bf P w K mg base 2 "from_top" 2 oZ):rO P w K mg base 5 "first_seams" 3 nu fd ["table","marks","many"] eN:=
 ⟨f,Ub (k:=4) (m:=0) (g:=zG) Fn Jh rfl rfl λ cdv A outer s H E _ hr hT=>((aL (bw (Ke (aP (Om (Oq hr)) rfl T.yP boot_sorted (aj (bB yS hr (by decide) (aj (dv 0) (aj (Aa wK hT hr (by decide) wL (aj (dv 0) (aj (dv 1) (aj (dv 2) aq)))) aq))) aq)) nO (nP (dv 2)))))),hmg,Fn.kp⟩
theorem Qz {f:Addr} {fd:FuncData} (Fn:Fun K "least_way" "least_way" wC f fd) (hmg:mg "least_way" =some (.ref f)) (T:Txt K mg) {eN:List (Addr×Str)} {qz:FuncData} (rW:rO P w K mg base 5 "first_seams" 3 nu qz ["table","marks","many"] eN) (rY:Binds K qz ["table","marks","many"] []):rO P w K mg base 6 "least_way" 2 mY fd ["table","marks"] eN:=
 ⟨f,Ub (k:=5) (m:=4) (g:=Dz) Fn uT rfl rfl λ cdv A outer s H E _ hr hT=>((aH (bJ 2 uT.nd (Aa rW hT hr (by decide) rY (aj (dv 0) (aj (dv 1) (aj aK aq))))) (aH (cQ (gb (Yl (dv 2))) (aL (bw dN)) cI) (aH (acv 3 4 5 rfl uT.nd (bH (dv 2) aK)) (aL (bw (cW (aj (dv 4) (aj (dv 5) aq))))))))),hmg,Fn.kp⟩
theorem Wb {f:Addr} {fd:FuncData} (Fn:Fun K "without" "without" Bm f fd) (hmg:mg "without" =some (.ref f)) (hb:Binds K fd ["rows","seam"] []) (T:Txt K mg)  :bf P w K mg base 1 "without" 2 oA:=
 bQ (k:=0) (g:=Kr) Fn hmg hb V1 rfl rfl λ cdv A outer s H E hr=>(aL (bw (d7 d9 rfl T.cU boot_tuple (aj (bY ["row","place"] [] rfl (by kernel_rfl) (by kernel_rfl) (xH rfl T.vQ (aj (dv 0) (aj (dv 1) aq))) (eX (bK (aV (by decide)) (bK (aV (by decide)) eV))) (λ _ _ _ _ nd=>jG rfl (cg (bA 0 nd) (cg (bA 1 nd) iK))) (λ _ _ _ _=>cA) (λ _ _ _ _=>(aN cC (uo (dv 0) nO (nP (dv 1))) (uo (dv 0) (nP (aN cC (dv 1) aK)) nO)))) aq))))
theorem abg {f:Addr} {fd:FuncData} (Fn:Fun K "taken" "taken" Ji f fd) (hmg:mg "taken" =some (.ref f)) (T:Txt K mg) {eN:List (Addr×Str)} (rZ:bf P w K mg base 1 "cells_along" 2 jR) (Jp:bf P w K mg base 9 "fares" 2 pZ) {u9:FuncData} (wM:rO P w K mg base 6 "least_way" 2 mY u9 ["table","marks"] eN) (wN:Binds K u9 ["table","marks"] []) (vR:bf P w K mg base 1 "without" 2 oA):rO P w K mg base 10 "taken" 4 Dc fd ["picture","many","manner","marks"] eN:=
 ⟨f,Ub (k:=9) (m:=7) (g:=Uq) Fn lZ rfl rfl λ cdv A outer s H E _ hr hT=>((aH (w5 4 5 rfl lZ.nd (dv 0) (dv 3)) (aH (nW 6 lZ.nd aq) (aH (bJ 7 lZ.nd aK) (aH (yu 64 PassesOwn.never (bO Fy (aP bR rfl T.cF PySem.boot_len (aj (dv 6) aq)) (dv 1)) (aH (bJ 8 lZ.nd (Aa wM hT hr (by decide) wN (aj (bB Jp hr (by decide) (aj (dv 4) (aj (dv 2) aq))) (aj (dv 5) aq)))) (aH (cQ (bO vG (dv 8) dN) (aL (bw dN)) cI) (aH (tD 9 10 rfl lZ.nd (dv 8)) (aH (wZ 6 (cW (aj (dv 10) (aj (bB rZ hr (by decide) (aj (dv 4) (aj (dv 10) aq))) aq)))) (aH (adT 7 lZ.nd (dv 9)) (aL (w5 4 5 rfl lZ.nd (bB vR hr (by decide) (aj (dv 4) (aj (dv 10) aq))) (bB vR hr (by decide) (aj (dv 5) (aj (dv 10) aq))))))))))) (aL (bw (cW (aj (dv 4) (aj (dv 6) (aj (dv 7) aq))))))))))),hmg,Fn.kp⟩
theorem R4 {f:Addr} {fd:FuncData} (Fn:Fun K "taken_to" "taken_to" yM f fd) (hmg:mg "taken_to" =some (.ref f)) (T:Txt K mg) {eN:List (Addr×Str)} (vd:bf P w K mg base 5 "full_marks" 2 iC) (su:bf P w K mg base 1 "need_manner" 1 jQ) (gZ:bf P w K mg base 5 "need_picture" 1 fJ) {sy:FuncData} (vf:lK P w K mg base 2 "need_width" 3 lQ sy ["thing","least","most"] eN) (vg:Binds K sy ["thing","least","most"] []) {Fv:FuncData} (Jq:rO P w K mg base 10 "taken" 4 Dc Fv ["picture","many","manner","marks"] eN) (Jr:Binds K Fv ["picture","many","manner","marks"] []):lK P w K mg base 11 "taken_to" 4 gC fd ["picture","wide","manner","marks"] eN:=
 ⟨f,Ov (k:=10) (m:=1) (g:=Gz) Fn Ea rfl rfl λ cdv A outer s H E hr hT=>((aH (pJ (bB gZ hr (by decide) (aj (dv 0) aq))) (aH (pJ (bB su hr (by decide) (aj (dv 2) aq))) (aH (bJ 4 Ea.nd (bB vd hr (by decide) (aj (dv 3) (aj (dv 0) aq)))) (aH (pJ (jX Sel.nil vf hT hr (by decide) (Mz vg) (aj (dv 1) (aj aK (aj (aP bR rfl T.cF PySem.boot_len (aj (bH (dv 0) aK) aq)) aq))))) (aL (bw (Aa Jq hT hr (by decide) Jr (aj (dv 0) (aj (aN cV (aP bR rfl T.cF PySem.boot_len (aj (bH (dv 0) aK) aq)) (dv 1)) (aj (dv 2) (aj (dv 4) aq)))))))))))),hmg,Fn.kp⟩
theorem Wc {f:Addr} {fd:FuncData} (Fn:Fun K "history" "history" eZ f fd) (hmg:mg "history" =some (.ref f)) (T:Txt K mg) {eN:List (Addr×Str)} {fQ:FuncData} (gF:lK P w K mg base 11 "taken_to" 4 gC fQ ["picture","wide","manner","marks"] eN) (gG:Binds K fQ ["picture","wide","manner","marks"] []):lK P w K mg base 12 "history" 4 jq fd ["picture","wide","manner","marks"] eN:=
 ⟨f,Ov (k:=11) (m:=1) (g:=Ks) Fn G7 rfl rfl λ cdv A outer s H E hr hT=>((aH (bJ 4 G7.nd (jX Sel.nil gF hT hr (by decide) (Mz gG) (aj (dv 0) (aj (dv 1) (aj (dv 2) (aj (dv 3) aq)))))) (aH (cQ (bO vG (dv 4) dN) (aL (bw dN)) cI) (aL (bw (bH (dv 4) aK)))))),hmg,Fn.kp⟩
theorem ac2 {f:Addr} {fd:FuncData} (Fn:Fun K "loss" "loss" jV f fd) (hmg:mg "loss" =some (.ref f)) (T:Txt K mg) {eN:List (Addr×Str)} {fQ:FuncData} (gF:lK P w K mg base 11 "taken_to" 4 gC fQ ["picture","wide","manner","marks"] eN) (gG:Binds K fQ ["picture","wide","manner","marks"] []):lK P w K mg base 12 "loss" 3 uz fd ["picture","wide","manner"] eN:=
 ⟨f,Ov (k:=11) (m:=0) (g:=Yt) Fn acZ rfl rfl λ cdv A outer s H E hr hT=>((aL (bw (bH (jX Sel.nil gF hT hr (by decide) (Mz gG) (aj (dv 0) (aj (dv 1) (aj (dv 2) (aj dN aq))))) aK)))),hmg,Fn.kp⟩
theorem R5 {f:Addr} {fd:FuncData} (Fn:Fun K "narrowed" "narrowed" dY f fd) (hmg:mg "narrowed" =some (.ref f)) (T:Txt K mg) {eN:List (Addr×Str)} {fQ:FuncData} (gF:lK P w K mg base 11 "taken_to" 4 gC fQ ["picture","wide","manner","marks"] eN) (gG:Binds K fQ ["picture","wide","manner","marks"] []):lK P w K mg base 12 "narrowed" 4 gD fd ["picture","wide","manner","marks"] eN:=
 ⟨f,Ov (k:=11) (m:=1) (g:=GC) Fn Eb rfl rfl λ cdv A outer s H E hr hT=>((aH (bJ 4 Eb.nd (jX Sel.nil gF hT hr (by decide) (Mz gG) (aj (dv 0) (aj (dv 1) (aj (dv 2) (aj (dv 3) aq)))))) (aH (cQ (bO vG (dv 4) dN) (aL (bw dN)) cI) (aL (bw (bH (dv 4) aK)))))),hmg,Fn.kp⟩
theorem Wd {f:Addr} {fd:FuncData} (Fn:Fun K "_law_no" "_law_no" Bo f fd) (hmg:mg "_law_no" =some (.ref f)) (T:Txt K mg) {eN:List (Addr×Str)} {mJ:FuncData} (mj:lK P w K mg base 12 "history" 4 jq mJ ["picture","wide","manner","marks"] eN) {xY:FuncData} (xZ:lK P w K mg base 12 "loss" 3 uz xY ["picture","wide","manner"] eN) {j9:FuncData} (iU:lK P w K mg base 12 "narrowed" 4 gD j9 ["picture","wide","manner","marks"] eN) {gA qC fY:Tok} (gR:KB K mJ ["picture","wide","manner","marks"] [] [.inr (.str "worth" gA),.inr .none]) (vh:KB K xY ["picture","wide","manner"] [] [.inr (.str "worth" qC)]) (eO:KB K j9 ["picture","wide","manner","marks"] [] [.inr (.str "worth" fY),.inr .none]):rO P w K mg base 13 "_law_no" 3 vM fd ["_law_way","_law_picture_here","_law_broad"] eN:=
  ⟨f, Ub (k:=12) (m:=1) (g:=Ku) Fn G8 rfl rfl fun cdv A outer s H E _ hr hT=>((by
      obtain⟨aeK,R6,R7⟩:=T.wG
      obtain⟨Wf,rH,Zm⟩:=T.rH
      obtain⟨Wg,rJ,Zn⟩:=T.rJ
      exact (aH (adZ 3 G8.nd rfl rfl rfl R6 R7 (fun _ _=>(aL (cQ (bO (mF (c7 hr)) (dv 0) aK) (aL (pJ (jX (.str _ _ (.non .nil)) iU hT hr (by decide) eO (aj (dv 1) (aj (dv 2) aq))))) (aL (cQ (bO (mF (c7 hr)) (dv 0) aK) (aL (pJ (jX (.str _ _ (.non .nil)) mj hT hr (by decide) gR (aj (dv 1) (aj (dv 2) aq))))) (aL (pJ (jX (.str _ _ .nil) xZ hT hr (by decide) vh (aj (dv 1) (aj (dv 2) aq)))))))))) (fun _=>(aL (bw (jF (Oc 3 rfl T.cT (pe_glob (v:= .ref Wg) rfl rJ rfl (by decide)) (fun _ z=>z) Zn) (mR (Xe (Oc 3 rfl T.cT (pe_glob (v:= .ref Wf) rfl rH rfl (by decide)) (fun _ z=>z) Zm)))))))) (aL (bw nq))))),hmg,Fn.kp⟩
theorem Hl {f:Addr} {fd:FuncData} (Fn:Fun K "_law_picture" "_law_picture" qw f fd) (hmg:mg "_law_picture" =some (.ref f)) (hb:Binds K fd ["_law_script","_law_at_here","_law_broad","_law_tall"] []) (T:Txt K mg) (cu:bf P w K mg base 1 "_law_drawn" 3 cD):bf P w K mg base 2 "_law_picture" 4 jj:=
 bQ (k:=1) (g:=xR) Fn hmg hb o9 rfl rfl λ cdv A outer s H E hr=>(aH (ab0 4 5 rfl o9.nd (bH (kO (aj aK (aj aK (aj aK (aj aK aq))))) (bB cu hr (by decide) (aj (dv 0) (aj (dv 1) (aj aK aq))))) aq) (aH (kY PassesOwn.never rfl (eU rfl T.eG (aj (dv 3) aq)) (nM 6 o9.nd) (aL (wZ 5 (d7 d9 rfl T.cU boot_tuple (aj (bY ["_law_x"] [1,2,4,0,6] rfl (by kernel_rfl) (by kernel_rfl) (eU rfl T.eG (aj (dv 2) aq)) (aV (by decide)) (λ _ _ _ _ nd=>bA 0 nd) (λ _ _ _ _=>cA) (λ _ _ _ _=>(bB cu hr (by decide) (aj (dv 4) (aj (aN jK (aN jK (aN jK (dv 1) aK) (aN qT (dv 2) (dv 5))) (dv 0)) (aj (dv 3) aq)))))) aq))))) (aL (bw (d7 d9 rfl T.cU boot_tuple (aj (dv 5) aq))))))
theorem QB {f:Addr} {fd:FuncData} (Fn:Fun K "_law_some" "_law_some" wD f fd) (hmg:mg "_law_some" =some (.ref f)) (hb:Binds K fd ["_law_script","_law_at_here","_law_broad","_law_tall"] []) (T:Txt K mg) (cu:bf P w K mg base 1 "_law_drawn" 3 cD) (qD:bf P w K mg base 2 "_law_picture" 4 jj):bf P w K mg base 3 "_law_some" 4 mZ:=
 bQ (k:=2) (g:=DN) Fn hmg hb Ql rfl rfl λ cdv A outer s H E hr=>(aL (bw (bB qD hr (by decide) (aj (dv 0) (aj (aN jK (dv 1) aK) (aj (aN jK aK (bB cu hr (by decide) (aj (dv 0) (aj (dv 1) (aj (dv 2) aq))))) (aj (aN jK aK (bB cu hr (by decide) (aj (dv 0) (aj (aN jK (dv 1) aK) (aj (dv 3) aq))))) aq)))))))
theorem Mf {f:Addr} {fd:FuncData} (Fn:Fun K "_law_steps" "_law_steps" uU f fd) (hmg:mg "_law_steps" =some (.ref f)) (hb:Binds K fd ["_law_picture_here","_law_broad","_law_mode","_law_tags"] []) (T:Txt K mg) (kh:bf P w K mg base 4 "_law_best" 3 iV) (jD:bf P w K mg base 1 "_law_cut" 2 iM):bf P w K mg base 5 "_law_steps" 4 jk:=
 bQ (k:=4) (g:=Aw) Fn hmg hb nD rfl rfl λ cdv A outer s H E hr=>(aH (nW 4 nD.nd aq) (aH (yu 64 PassesOwn.never (bO Cm (aP bR rfl T.cF PySem.boot_len (aj (bH (dv 0) aK) aq)) (dv 1)) (aH (bJ 5 nD.nd (bB kh hr (by decide) (aj (dv 0) (aj (dv 2) (aj (dv 3) aq))))) (aH (cQ (bO vG (dv 5) dN) (aL (bw dN)) cI) (aH (wZ 4 (cW (aj (dv 5) (aj (d7 d9 rfl T.cU boot_tuple (aj (bY ["_law_row","_law_x"] [] rfl (by kernel_rfl) (by kernel_rfl) (xH rfl T.vQ (aj (dv 0) (aj (dv 5) aq))) (eX (bK (aV (by decide)) (bK (aV (by decide)) eV))) (λ _ _ _ _ nd=>jG rfl (cg (bA 0 nd) (cg (bA 1 nd) iK))) (λ _ _ _ _=>cA) (λ _ _ _ _=>(bH (dv 0) (dv 1)))) aq)) aq)))) (aL (w5 0 3 rfl nD.nd (bB jD hr (by decide) (aj (dv 0) (aj (dv 5) aq))) (bB jD hr (by decide) (aj (dv 3) (aj (dv 5) aq))))))))) (aL (bw (cW (aj (dv 4) (aj (dv 0) aq)))))))
theorem R8 {f:Addr} {fd:FuncData} (Fn:Fun K "is_cells" "is_cells" yN f fd) (hmg:mg "is_cells" =some (.ref f)) (hb:Binds K fd ["thing","high"] []) (T:Txt K mg) (oG:bf P w K mg base 2 "is_cell" 1 lN):bf P w K mg base 3 "is_cells" 2 o7:=
 bQ (k:=2) (g:=GD) Fn hmg hb RQ rfl rfl λ cdv A outer s H E hr=>(aL (bw (jF (mD (ans:=dM) T.j5 (dv 0) rfl T.cT boot_isinstance rfl T.cU boot_tuple) (jF (zP (mF (c7 hr)) (aP bR rfl T.cF PySem.boot_len (aj (dv 0) aq)) (dv 1)) (mR (aP (qY rfl) rfl T.qO boot_all (aj (bY ["cell"] [] rfl (by kernel_rfl) (by kernel_rfl) (eE (dv 0)) (aV (by decide)) (λ _ _ _ _ nd=>bA 0 nd) (λ _ _ _ _=>cA) (λ _ _ _ _=>(bB oG hr (by decide) (aj (dv 0) aq)))) aq)))))))
theorem Zo {f:Addr} {fd:FuncData} (Fn:Fun K "is_way" "is_way" Fo f fd) (hmg:mg "is_way" =some (.ref f)) (hb:Binds K fd ["thing","wide","high"] []) (T:Txt K mg) (dZ:bf P w K mg base 1 "is_whole" 1 dH):bf P w K mg base 2 "is_way" 3 uD:=
 bQ (k:=1) (g:=OJ) Fn hmg hb Zg rfl rfl λ cdv A outer s H E hr=>(aH (cQ (DW.dt (vB (gb (jE (mD (ans:=dM) T.j5 (dv 0) rfl T.cT boot_isinstance rfl T.cU boot_tuple))) (qW (bO (oN (c7 hr)) (aP bR rfl T.cF PySem.boot_len (aj (dv 0) aq)) (dv 2))))) (aL (bw nq)) cI) (aH (cQ (gb (jE (aP (qY rfl) rfl T.qO boot_all (aj (bY ["place"] [1] rfl (by kernel_rfl) (by kernel_rfl) (eE (dv 0)) (aV (by decide)) (λ _ _ _ _ nd=>bA 0 nd) (λ _ _ _ _=>cA) (λ _ _ _ _=>(jF (bB dZ hr (by decide) (aj (dv 0) aq)) (mR (yh oM Fy aK (dv 0) (dv 1)))))) aq)))) (aL (bw nq)) cI) (aL (bw (aP (qY rfl) rfl T.qO boot_all (aj (bY ["y"] [0] rfl (by kernel_rfl) (by kernel_rfl) (Xf rfl T.eG (aj aK (aj (dv 2) aq))) (aV (by decide)) (λ _ _ _ _ nd=>bA 0 nd) (λ _ _ _ _=>cA) (λ _ _ _ _=>(zP oM (aP uh rfl T.sV boot_abs (aj (aN cV (bH (dv 1) (dv 0)) (bH (dv 1) (aN cV (dv 0) aK))) aq)) aK))) aq))))))
theorem Wh {f:Addr} {fd:FuncData} (Fn:Fun K "is_step" "is_step" Bp f fd) (hmg:mg "is_step" =some (.ref f)) (hb:Binds K fd ["thing","wide","high"] []) (T:Txt K mg) (yU:bf P w K mg base 3 "is_cells" 2 o7) (Fw:bf P w K mg base 2 "is_way" 3 uD):bf P w K mg base 4 "is_step" 3 rA:=
 bQ (k:=3) (g:=Kv) Fn hmg hb V2 rfl rfl λ cdv A outer s H E hr=>(aH (cQ (DW.dt (vB (gb (jE (mD (ans:=dM) T.j5 (dv 0) rfl T.cT boot_isinstance rfl T.cU boot_tuple))) (qW (bO (oN (c7 hr)) (aP bR rfl T.cF PySem.boot_len (aj (dv 0) aq)) aK)))) (aL (bw nq)) cI) (aL (bw (jF (bB Fw hr (by decide) (aj (bH (dv 0) aK) (aj (dv 1) (aj (dv 2) aq)))) (mR (bB yU hr (by decide) (aj (bH (dv 0) aK) (aj (dv 2) aq))))))))
theorem Mg {f:Addr} {fd:FuncData} (Fn:Fun K "with_cells" "with_cells" uV f fd) (hmg:mg "with_cells" =some (.ref f)) (hb:Binds K fd ["rows","seam","cells"] []) (T:Txt K mg)  :bf P w K mg base 1 "with_cells" 3 lU:=
 bQ (k:=0) (g:=Ax) Fn hmg hb Lr rfl rfl λ cdv A outer s H E hr=>(aL (bw (d7 d9 rfl T.cU boot_tuple (aj (bY ["row","place","cell"] [] rfl (by kernel_rfl) (by kernel_rfl) (acd rfl T.vQ (aj (dv 0) (aj (dv 1) (aj (dv 2) aq)))) (eX (bK (aV (by decide)) (bK (aV (by decide)) (bK (aV (by decide)) eV)))) (λ _ _ _ _ nd=>jG rfl (cg (bA 0 nd) (cg (bA 1 nd) (cg (bA 2 nd) iK)))) (λ _ _ _ _=>cA) (λ _ _ _ _=>(aN cC (aN cC (uo (dv 0) nO (nP (dv 1))) (cW (aj (dv 2) aq))) (uo (dv 0) (nP (dv 1)) nO)))) aq))))
theorem Wi {f:Addr} {fd:FuncData} (Fn:Fun K "rebuilt" "rebuilt" Bq f fd) (hmg:mg "rebuilt" =some (.ref f)) (hb:Binds K fd ["picture","steps"] []) (T:Txt K mg) (Bw:bf P w K mg base 4 "is_step" 3 rA) (iT:bf P w K mg base 6 "size_of" 1 iQ) (vm:bf P w K mg base 1 "with_cells" 3 lU):bf P w K mg base 7 "rebuilt" 2 oE:=
  bQ (k:=6) (g:=Kw) Fn hmg hb mH rfl rfl fun cdv A outer s H E hr=>(by
      obtain⟨RZ,wJ⟩:=T.qN
      exact (aH (tD 2 3 rfl mH.nd (bB iT hr (by decide) (aj (dv 0) aq))) (aH (cQ (DW.dt (vB (gb (jE (mD (ans:=yx) T.Bt (dv 1) rfl T.cT boot_isinstance rfl T.Hg boot_list))) (qW (bO Cm (aN cC (dv 2) (aP bR rfl T.cF PySem.boot_len (aj (dv 1) aq))) (nR rfl wJ))))) (aL ud) cI) (aH (bJ 4 mH.nd (dv 0)) (aH (kY PassesOwn.never rfl (ad1 rfl T.sW (aj (dv 1) aq)) (nM 5 mH.nd) (aH (cQ (gb (jE (bB Bw hr (by decide) (aj (dv 5) (aj (aN cC (aP bR rfl T.cF PySem.boot_len (aj (bH (dv 4) aK) aq)) aK) (aj (dv 3) aq)))))) (aL ud) cI) (aH (tD 6 7 rfl mH.nd (dv 5)) (aL (bJ 4 mH.nd (bB vm hr (by decide) (aj (dv 4) (aj (dv 6) (aj (dv 7) aq))))))))) (aL (bw (dv 4))))))))
theorem ok_law {f:Addr} {fd:FuncData} (Fn:Fun K "law" "law" sU f fd) (hmg:mg "law" =some (.ref f)) (T:Txt K mg) {eN:List (Addr×Str)} (kh:bf P w K mg base 4 "_law_best" 3 iV) (j7:bf P w K mg base 3 "_law_cost" 3 gM) (jD:bf P w K mg base 1 "_law_cut" 2 iM) (cu:bf P w K mg base 1 "_law_drawn" 3 cD) (qP:bf P w K mg base 1 "_law_free" 1 jY) (sE:bf P w K mg base 2 "_law_manner" 2 jP) (vo:bf P w K mg base 2 "_law_marks" 3 lM) {yV:FuncData} (Bx:rO P w K mg base 13 "_law_no" 3 vM yV ["_law_way","_law_picture_here","_law_broad"] eN) (BJ:Binds K yV ["_law_way","_law_picture_here","_law_broad"] []) (wO:bf P w K mg base 3 "_law_some" 4 mZ) (pA:bf P w K mg base 5 "_law_steps" 4 jk) {mJ:FuncData} (mj:lK P w K mg base 12 "history" 4 jq mJ ["picture","wide","manner","marks"] eN) {xY:FuncData} (xZ:lK P w K mg base 12 "loss" 3 uz xY ["picture","wide","manner"] eN) {j9:FuncData} (iU:lK P w K mg base 12 "narrowed" 4 gD j9 ["picture","wide","manner","marks"] eN) (BK:bf P w K mg base 7 "rebuilt" 2 oE) {gA fY:Tok} (gR:KB K mJ ["picture","wide","manner","marks"] [] [.inr (.str "worth" gA),.inr .none]) (nj:KB K mJ ["picture","wide","manner","marks"] ["manner","marks"] [.inl 0,.inl 1]) (vp:KB K xY ["picture","wide","manner"] ["manner"] [.inl 0]) (eO:KB K j9 ["picture","wide","manner","marks"] [] [.inr (.str "worth" fY),.inr .none]) (mq:KB K j9 ["picture","wide","manner","marks"] ["manner","marks"] [.inl 0,.inl 1]):rO P w K mg base 14 "law" 1 GF fd ["_law_script"] eN:=
 ⟨f,Ub (k:=13) (m:=12) (g:=abH) Fn jW rfl rfl λ cdv A outer s H E _ hr hT=>((aH (bJ 1 jW.nd (bB wO hr (by decide) (aj (dv 0) (aj aK (aj aK (aj aK aq)))))) (aH (w5 2 3 rfl jW.nd (bB vo hr (by decide) (aj (dv 0) (aj aK (aj (dv 1) aq)))) (bB sE hr (by decide) (aj (dv 0) (aj aK aq)))) (aH (bJ 4 jW.nd (aN cC aK (bB cu hr (by decide) (aj (dv 0) (aj aK (aj (aP bR rfl T.cF PySem.boot_len (aj (bH (dv 1) aK) aq)) aq)))))) (aH (bJ 5 jW.nd (bB pA hr (by decide) (aj (dv 1) (aj (dv 4) (aj (dv 3) (aj (dv 2) aq)))))) (aH (bJ 6 jW.nd (Im (ks:=["manner","marks"]) (.at 0 (.at 1 .nil)) mj hT hr (by decide) nj (aj (dv 1) (aj (dv 4) aq)) (xr (dv 3) (xr (dv 2) Nq)))) (aH (bJ 6 jW.nd (cW (aj (dv 6) (aj (Im (ks:=["manner","marks"]) (.at 0 (.at 1 .nil)) iU hT hr (by decide) mq (aj (dv 1) (aj (dv 4) aq)) (xr (dv 3) (xr (dv 2) Nq))) aq)))) (aH (cQ (bO (oN (c7 hr)) (dv 6) (FJ (bO vG (dv 5) dN) (cW (aj dN (aj dN aq))) (dv 5))) (aL (bw nq)) cI) (aH (tD 7 8 rfl jW.nd (bB pA hr (by decide) (aj (dv 1) (aj (dv 4) (aj wX (aj (bB qP hr (by decide) (aj (dv 1) aq)) aq)))))) (aH (cQ (DW.dt (vB (bO (oN (c7 hr)) (jX (.str _ _ (.non .nil)) mj hT hr (by decide) gR (aj (dv 1) (aj (dv 4) aq))) (dv 7)) (qW (bO (oN (c7 hr)) (jX (.str _ _ (.non .nil)) iU hT hr (by decide) eO (aj (dv 1) (aj (dv 4) aq))) (dv 8))))) (aL (bw nq)) cI) (aH (cQ (bO (oN (c7 hr)) (bB BK hr (by decide) (aj (dv 8) (aj (dv 7) aq))) (dv 1)) (aL (bw nq)) cI) (aH (w5 9 10 rfl jW.nd (dv 1) aK) (aH (yu 64 PassesOwn.never (bO Cm (aP bR rfl T.cF PySem.boot_len (aj (bH (dv 9) aK) aq)) (dv 4)) (aH (bJ 11 jW.nd (bB kh hr (by decide) (aj (dv 9) (aj (dv 3) (aj (bB qP hr (by decide) (aj (dv 9) aq)) aq))))) (aL (w5 10 9 rfl jW.nd (aN cC (dv 10) (bB j7 hr (by decide) (aj (dv 9) (aj (dv 3) (aj (dv 11) aq))))) (bB jD hr (by decide) (aj (dv 9) (aj (dv 11) aq))))))) (aH (cQ (bO (oN (c7 hr)) (Im (ks:=["manner"]) (.at 0 .nil) xZ hT hr (by decide) vp (aj (dv 1) (aj (dv 4) aq)) (xr (dv 3) Nq)) (dv 10)) (aL (bw nq)) cI) (aH (bJ 12 jW.nd (bH (kO (aj aK (aj (aN cC (aP bR rfl T.cF PySem.boot_len (aj (bH (dv 1) aK) aq)) aK) (aj dN (aj nq (aj wX (aj (um aK) aq))))))) (bB cu hr (by decide) (aj (dv 0) (aj aK (aj aK aq)))))) (aH (cQ (gb (bO (mF (c7 hr)) (aaS ["_law_way"] [12,1] rfl (by kernel_rfl) (by kernel_rfl) (eU rfl T.eG (aj aK aq)) (aV (by decide)) (λ _ _ _ _ nd=>bA 0 nd) hT (λ _ _ _ _ hT=>(Cw (gb (jE (Aa Bx hT hr (by decide) BJ (aj (dv 0) (aj (dv 2) (aj (dv 1) aq)))))))) (λ _ _ _ _ hT=>(dv 0))) (kO aq))) (aL (bw nq)) cI) (aL (bw (zP (mF (c7 hr)) (jX (.str _ _ (.non .nil)) iU hT hr (by decide) eO (aj (dv 1) (aj (aP bR rfl T.cF PySem.boot_len (aj (bH (dv 1) aK) aq)) aq))) (dv 1)))))))))))))))))))),hmg,Fn.kp⟩
end
theorem all_mk {l:PySem.W.OpenLaw} {w:World} {K:PySem.W.Frag} {h:Heap} {mg:Str->Option Value} {fa BL QC yW Wj:Addr} (X:K.In h) (G:h.Ns mainGlobals mg) (hfa:mg "law" =some (.ref fa))
  {Wk yX:Option Addr} {Wm:Array (Option Value)} {Wn yZ za zf sX zj:Value}
  {ac3 Js:Option Addr} {ac4:Array (Option Value)} {ac5 Jt Ju Jv Dj Jw:Value}
  {R9 wQ:Option Addr} {Sd:Array (Option Value)} {Sh wR wU wV qQ wW:Value}
  {aeL Zq:Option Addr} {aeM:Array (Option Value)} {aeN Zr Zt Zu QD Zv:Value}
  {ac6:Tok} (G9:PySem.W.nsIn K mainGlobals "FREE" =some (some (.int 0 ac6)))
  {ac7:Tok} (Hf:PySem.W.nsIn K mainGlobals "GONE" =some (some (.int 2 ac7)))
  {ac8:Tok} (Qm:PySem.W.nsIn K mainGlobals "KEPT" =some (some (.int 1 ac8)))
  {QF:Tok} (wF:PySem.W.nsIn K mainGlobals "MOST_CELL" =some (some (.int 99 QF)))
  {QG:Tok} (qN:PySem.W.nsIn K mainGlobals "MOST_LONG" =some (some (.int 20 QG)))
  {Ho:Addr} {Wo:Option Addr} {Wq:Nat} {Wr:Array (Option Value)} {QH QJ:Tok} (Br:PySem.W.nsIn K mainGlobals "MANNERS" =some (some (.ref Ho))) (Zw:K.lookup Ho=some ⟨.type "tuple",Wo,.seq #[.str "worth" QH,.str "joins" QJ] Wq,Wr⟩)
  (sV:PySem.W.nsIn K mainGlobals "abs" =some none)
  (qO:PySem.W.nsIn K mainGlobals "all" =some none)
  (Qn:PySem.W.nsIn K mainGlobals "bool" =some none)
  (gQ:PySem.W.nsIn K mainGlobals "enumerate" =some none)
  (V3:PySem.W.nsIn K mainGlobals "int" =some none)
  (cT:PySem.W.nsIn K mainGlobals "isinstance" =some none)
  (cF:PySem.W.nsIn K mainGlobals "len" =some none)
  (Hg:PySem.W.nsIn K mainGlobals "list" =some none)
  (vP:PySem.W.nsIn K mainGlobals "max" =some none)
  (yO:PySem.W.nsIn K mainGlobals "min" =some none)
  (eG:PySem.W.nsIn K mainGlobals "range" =some none)
  (sW:PySem.W.nsIn K mainGlobals "reversed" =some none)
  (yP:PySem.W.nsIn K mainGlobals "sorted" =some none)
  (V4:PySem.W.nsIn K mainGlobals "sum" =some none)
  (cU:PySem.W.nsIn K mainGlobals "tuple" =some none)
  (vQ:PySem.W.nsIn K mainGlobals "zip" =some none)
  (Hh:∀d:D,PySem.W.kitOne K (.type (kZ d)) (.type "int")=some (CG (kZ d)))
  (Bs:∀d:D,PySem.W.kitOne K (.type (kZ d)) (.type "bool")=some (yw (kZ d)))
  (j5:∀d:D,PySem.W.kitOne K (.type (kZ d)) (.type "tuple")=some (dM (kZ d)))
  (Bt:∀d:D,PySem.W.kitOne K (.type (kZ d)) (.type "list")=some (yx (kZ d)))
  {vU:Addr} (Zx:PySem.W.nsIn K mainGlobals "NoDeeds" =some (some (.ref vU)))
  {cX:Addr} (oK:PySem.W.nsIn K mainGlobals "NoWidth" =some (some (.ref cX)))
  {qR:Addr} (Ss:PySem.W.nsIn K mainGlobals "SeamError" =some (some (.ref qR)))
  (BP:PySem.W.excIn K cX adX "ValueError.__new__" =true)
  (Hq:PySem.W.findIn K (.ref cX) "__getattribute__" =some (some (.builtin "BaseException.__getattribute__"))) (Hr:PySem.W.findIn K (.ref cX) "__getattr__" =some none) (Hs:(PySem.W.clsIn K cX).isSome=true) (Ht:PySem.W.findIn K (.ref cX) "__class__" =some (some (.builtin "object.__class__")))
  (Hu:PySem.W.specialIn K (.builtin "object.__class__") "__get__" =some (some (.builtin "getset_descriptor.__get__"))) (Hv:PySem.W.takesIn K (.builtin "object.__class__")=some true) (Hw:PySem.W.mroIn K cX (.type "object")=some true) (Hx:PySem.W.mroIn K cX (.type "BaseException")=some true)
  (pD:PySem.W.exmOne K (.ref cX) (.ref qR)=some true)
  (mO:PySem.W.kitOne K (.ref cX) (.ref vU)=some false)
  (mQ:PySem.W.kitOne K (.ref cX) (.ref cX)=some true)
  (Zy:DX K "_law_at" Bc)
  (Sv:DX K "_law_step" wk)
  (Sx:DX K "_law_cost" wu)
  (QK:DX K "_law_signs" uL)
  (Sy:DX K "_law_ways" wz)
  (SJ:DX K "_law_best" wA)
  (Ws:DX K "_law_cut" yH)
  (QL:DX K "_law_drawn" uM)
  (SM:DX K "_law_free" wB)
  (Mh:DX K "_law_manner" rP)
  (QM:DX K "_law_marks" uN)
  (Wt:DX K "all_free" yI)
  (Wu:DX K "is_whole" yJ)
  (Zz:DX K "is_mark" Bf)
  (Jx:DX K "is_marks_row" qm)
  (Wv:DX K "is_marks" yK)
  (QS:DX K "full_marks" uO)
  (Mi:DX K "need_manner" rQ)
  (ZC:DX K "is_line" Bg)
  (ZD:DX K "is_cell" Bh)
  (abh:DX K "is_row" Fg)
  (QT:DX K "is_picture" uP)
  (Jy:DX K "need_picture" qu)
  (QV:DX K "need_width" uQ)
  (Mj:DX K "cells_along" rR)
  (aeO:DX K "gaps" Qj)
  (QW:DX K "join_fares" uR)
  (ZF:DX K "size_of" Bj)
  (abj:DX K "turned" Fi)
  (abk:DX K "worths" Fj)
  (ac9:DX K "fares" Jg)
  (ZG:DX K "fare_of" Bk)
  (aeP:DX K "near" Qk)
  (abl:DX K "onward" Fl)
  (ada:DX K "swept" tU)
  (SN:DX K "best_ways" iY)
  (Ww:DX K "from_top" yL)
  (Ml:DX K "first_seams" rT)
  (SQ:DX K "least_way" wC)
  (ZJ:DX K "without" Bm)
  (adb:DX K "taken" Ji)
  (Wx:DX K "taken_to" yM)
  (ZK:PySem.W.nsIn K mainGlobals "history" =some (some (.ref BL))) (ZL:K.lookup BL=some ⟨Wn,Wk,.func (PySem.W.fnOf "history" "history" (defArgs eZ) (defBody eZ) (defScope eZ) .none yZ za zf yX sX zj),Wm⟩) (ZM:PySem.W.codeIn K sX "history" =true) (ZP:PySem.W.keepIn K (.ref BL)=true)
  (aeQ:PySem.W.nsIn K mainGlobals "loss" =some (some (.ref QC))) (aeR:K.lookup QC=some ⟨ac5,ac3,.func (PySem.W.fnOf "loss" "loss" (defArgs jV) (defBody jV) (defScope jV) .none Jt Ju Jv Js Dj Jw),ac4⟩) (aeS:PySem.W.codeIn K Dj "loss" =true) (aeT:PySem.W.keepIn K (.ref QC)=true)
  (Wz:PySem.W.nsIn K mainGlobals "narrowed" =some (some (.ref yW))) (WD:K.lookup yW=some ⟨Sh,R9,.func (PySem.W.fnOf "narrowed" "narrowed" (defArgs dY) (defBody dY) (defScope dY) .none wR wU wV wQ qQ wW),Sd⟩) (WK:PySem.W.codeIn K qQ "narrowed" =true) (WL:PySem.W.keepIn K (.ref yW)=true)
  (ZQ:DX K "_law_no" Bo)
  (Jz:DX K "_law_picture" qw)
  (SX:DX K "_law_some" wD)
  (QX:DX K "_law_steps" uU)
  (WM:DX K "is_cells" yN)
  (abm:DX K "is_way" Fo)
  (ZR:DX K "is_step" Bp)
  (QZ:DX K "with_cells" uV)
  (ZS:DX K "rebuilt" Bq)
  (WQ:PySem.W.nsIn K mainGlobals "law" =some (some (.ref Wj))) (afP:K.lookup Wj=some ⟨aeN,aeL,.func (PySem.W.fnOf "law" "law" (defArgs sU) (defBody sU) (defScope sU) .none Zr Zt Zu Zq QD Zv),aeM⟩) (afQ:PySem.W.codeIn K QD "law" =true) (afR:PySem.W.keepIn K (.ref Wj)=true)
  {gA qC fY:Tok}
  (gR:KB K (PySem.W.fnOf "history" "history" (defArgs eZ) (defBody eZ) (defScope eZ) .none yZ za zf yX sX zj) ["picture","wide","manner","marks"] [] [.inr (.str "worth" gA),.inr .none])
  (nj:KB K (PySem.W.fnOf "history" "history" (defArgs eZ) (defBody eZ) (defScope eZ) .none yZ za zf yX sX zj) ["picture","wide","manner","marks"] ["manner","marks"] [.inl 0,.inl 1])
  (vh:KB K (PySem.W.fnOf "loss" "loss" (defArgs jV) (defBody jV) (defScope jV) .none Jt Ju Jv Js Dj Jw) ["picture","wide","manner"] [] [.inr (.str "worth" qC)])
  (vp:KB K (PySem.W.fnOf "loss" "loss" (defArgs jV) (defBody jV) (defScope jV) .none Jt Ju Jv Js Dj Jw) ["picture","wide","manner"] ["manner"] [.inl 0])
  (eO:KB K (PySem.W.fnOf "narrowed" "narrowed" (defArgs dY) (defBody dY) (defScope dY) .none wR wU wV wQ qQ wW) ["picture","wide","manner","marks"] [] [.inr (.str "worth" fY),.inr .none])
  (mq:KB K (PySem.W.fnOf "narrowed" "narrowed" (defArgs dY) (defBody dY) (defScope dY) .none wR wU wV wQ qQ wW) ["picture","wide","manner","marks"] ["manner","marks"] [.inl 0,.inl 1])
  :∃fd:FuncData,(∀(s:Shared) (v:Value),BindsTo s fd ⟨[v],[]⟩ [("_law_script",v)])/\∀(base:Heap) (c TP:Addr),K.In base->base.Ns mainGlobals mg->qJ base mg c TP->Ac K mg "best_ways" c->FnOk l.prog w K mg base CX0 14 fa fd ["_law_script"] (spT [(TP,"best_ways.<locals>.first_ones")] K 1 GF):=by
 obtain⟨aga,afS,KZ,ZV⟩:=Zy;obtain⟨afg,aeU,Ec,S5⟩:=Sv;obtain⟨afh,aeV,Ed,S6⟩:=Sx;obtain⟨aeW,adt,BR,Q0⟩:=QK;obtain⟨afi,aeX,Ef,S7⟩:=Sy;obtain⟨afj,aeY,Eh,S8⟩:=SJ;obtain⟨afT,afk,Hy,WR⟩:=Ws;obtain⟨aeZ,adu,BW,Q5⟩:=QL;obtain⟨afl,ae0,Ei,S9⟩:=SM;obtain⟨adv,ade,zJ,Mp⟩:=Mh;obtain⟨ae1,adw,BX,Q6⟩:=QM;obtain⟨afU,afm,Hz,WT⟩:=Wt;obtain⟨afV,afn,HB,WW⟩:=Wu;obtain⟨agb,afW,K1,ZW⟩:=Zz;obtain⟨adf,abQ,yc,JB⟩:=Jx;obtain⟨afX,afo,HD,WX⟩:=Wv;obtain⟨ae2,adx,BZ,Q7⟩:=QS;obtain⟨ady,adg,zK,Mq⟩:=Mi;obtain⟨agc,afY,K4,ZX⟩:=ZC;obtain⟨agd,afZ,K5,Z0⟩:=ZD;obtain⟨agK,agf,Q8,abn⟩:=abh;obtain⟨ae3,adz,Ca,Q9⟩:=QT;obtain⟨adh,abR,yd,JC⟩:=Jy;obtain⟨ae4,sy,Cd,Ra⟩:=QV;obtain⟨adA,adi,zL,Mr⟩:=Mj;obtain⟨agY,agS,Z1,ae5⟩:=aeO;obtain⟨ae6,adB,Ce,Rb⟩:=QW;obtain⟨agg,af0,K6,Z4⟩:=ZF;obtain⟨agL,agh,Rc,abo⟩:=abj;obtain⟨agM,agi,Rf,abp⟩:=abk;obtain⟨agT,agN,U8,adk⟩:=ac9;obtain⟨agj,af2,K7,Z5⟩:=ZG;obtain⟨agZ,agU,Z6,ae7⟩:=aeP;obtain⟨agO,agk,Rg,abq⟩:=abl;obtain⟨agV,agP,U9,adl⟩:=ada;obtain⟨afp,u6,Ej,Tc⟩:=SN;obtain⟨af3,afq,HF,WY⟩:=Ww;obtain⟨adC,qz,zM,Ms⟩:=Ml;obtain⟨afr,u9,Ek,Td⟩:=SQ;obtain⟨agl,af4,K8,Z7⟩:=ZJ;obtain⟨agW,Fv,Va,adn⟩:=adb;obtain⟨af5,fQ,HJ,W0⟩:=Wx;obtain⟨agm,yV,K9,Z8⟩:=ZQ;obtain⟨ado,abS,yg,JD⟩:=Jz;obtain⟨afs,ae8,El,Te⟩:=SX;obtain⟨ae9,adD,Cg,Rh⟩:=QX;obtain⟨af6,afu,HN,W2⟩:=WM;obtain⟨agQ,agn,Ri,abr⟩:=abm;obtain⟨ago,af7,La,Z9⟩:=ZR;obtain⟨afa,adE,Ci,Rj⟩:=QZ;obtain⟨agp,af8,Lb,aac⟩:=ZS;have e:=hfa.symm.trans (PySem.W.mg_of X G WQ);cases e;have Ld:Gj K cX:=⟨Hq,Hr,Hs,Ht,Hu,Hv,Hw,Hx⟩;have wG:∀c C',jB c "SeamError" =true->PySem.W.nsIn K mainGlobals c=some (some (.ref C'))->PySem.W.exmOne K (.ref C') (.ref qR)=some true:=by
  intro c C' h1 h2;rcases Ah h1 with rfl
  ·cases oK.symm.trans h2;exact pD
 have rH:∀c C',jB c c=true->PySem.W.nsIn K mainGlobals c=some (some (.ref C'))->Gj K C'/\PySem.W.kitOne K (.ref C') (.ref vU)=some (jB c "NoDeeds"):=by
  intro c C' h1 h2;rcases Ah h1 with rfl
  ·cases oK.symm.trans h2;exact⟨Ld,by rw[show jB "NoWidth" "NoDeeds" =false from by decide];exact mO⟩
 have rJ:∀c C',jB c c=true->PySem.W.nsIn K mainGlobals c=some (some (.ref C'))->Gj K C'/\PySem.W.kitOne K (.ref C') (.ref cX)=some (jB c "NoWidth"):=by
  intro c C' h1 h2;rcases Ah h1 with rfl
  ·cases oK.symm.trans h2;exact⟨Ld,by rw[show jB "NoWidth" "NoWidth" =true from by decide];exact mQ⟩
 have T:Txt K mg:=⟨⟨_,PySem.W.mg_of X G G9⟩,⟨_,PySem.W.mg_of X G Hf⟩,⟨_,PySem.W.mg_of X G Qm⟩,⟨_,PySem.W.mg_of X G wF⟩,⟨_,PySem.W.mg_of X G qN⟩,acg X G Br Zw (show 2<=sizeLine from Nat.le_trans (by decide) (Nat.le_of_lt gH)) (.cons ⟨_,rfl⟩ (.cons ⟨_,rfl⟩ (.nil))),PySem.W.mg_none_of X G sV,PySem.W.mg_none_of X G qO,PySem.W.mg_none_of X G Qn,PySem.W.mg_none_of X G gQ,PySem.W.mg_none_of X G V3,PySem.W.mg_none_of X G cT,PySem.W.mg_none_of X G cF,PySem.W.mg_none_of X G Hg,PySem.W.mg_none_of X G vP,PySem.W.mg_none_of X G yO,PySem.W.mg_none_of X G eG,PySem.W.mg_none_of X G sW,PySem.W.mg_none_of X G yP,PySem.W.mg_none_of X G V4,PySem.W.mg_none_of X G cU,PySem.W.mg_none_of X G vQ,Hh,Bs,j5,Bt,⟨cX,oK,PySem.W.mg_of X G oK,BP⟩,⟨qR,PySem.W.mg_of X G Ss,wG⟩,⟨vU,PySem.W.mg_of X G Zx,rH⟩,⟨cX,PySem.W.mg_of X G oK,rJ⟩⟩;have aad:=fun_mk (st:=eZ) ZL ZM ZP;have afb:=fun_mk (st:=jV) aeR aeS aeT;have W3:=fun_mk (st:=dY) WD WK WL;have abT:=fun_mk (st:=sU) afP afQ afR;have aae:=KZ.binds (ps:=["_law_picture_here","_law_x","_law_y"]) λ _ _ _ _ _ _ us hl=>uJ hl λ _ _ _=>rfl;have Tf:=Ec.binds (ps:=["_law_picture_here","_law_mode","_law_x","_law_y","_law_before"]) λ _ _ _ _ _ _ us hl=>lk5 hl λ _ _ _ _ _=>rfl;have Tg:=Ed.binds (ps:=["_law_picture_here","_law_mode","_law_seam"]) λ _ _ _ _ _ _ us hl=>uJ hl λ _ _ _=>rfl;have Rk:=BR.binds (ps:=["_law_tags","_law_seam","_law_sign"]) λ _ _ _ _ _ _ us hl=>uJ hl λ _ _ _=>rfl;have Ti:=Ef.binds (ps:=["_law_broad","_law_tall"]) λ _ _ _ _ _ _ us hl=>sJ hl λ _ _=>rfl;have Tj:=Eh.binds (ps:=["_law_picture_here","_law_mode","_law_tags"]) λ _ _ _ _ _ _ us hl=>uJ hl λ _ _ _=>rfl;have W4:=Hy.binds (ps:=["_law_rows","_law_seam"]) λ _ _ _ _ _ _ us hl=>sJ hl λ _ _=>rfl;have Rn:=BW.binds (ps:=["_law_script","_law_k","_law_many"]) λ _ _ _ _ _ _ us hl=>uJ hl λ _ _ _=>rfl;have Tn:=Ei.binds (ps:=["_law_picture_here"]) λ _ _ _ _ _ _ us hl=>uI hl λ _=>rfl;have Mt:=zJ.binds (ps:=["_law_script","_law_at_here"]) λ _ _ _ _ _ _ us hl=>sJ hl λ _ _=>rfl;have Ro:=BX.binds (ps:=["_law_script","_law_at_here","_law_picture_here"]) λ _ _ _ _ _ _ us hl=>uJ hl λ _ _ _=>rfl;have W5:=Hz.binds (ps:=["picture"]) λ _ _ _ _ _ _ us hl=>uI hl λ _=>rfl;have W6:=HB.binds (ps:=["thing"]) λ _ _ _ _ _ _ us hl=>uI hl λ _=>rfl;have aaf:=K1.binds (ps:=["thing"]) λ _ _ _ _ _ _ us hl=>uI hl λ _=>rfl;have JF:=yc.binds (ps:=["thing","wide"]) λ _ _ _ _ _ _ us hl=>sJ hl λ _ _=>rfl;have W7:=HD.binds (ps:=["thing","picture"]) λ _ _ _ _ _ _ us hl=>sJ hl λ _ _=>rfl;have Rp:=BZ.binds (ps:=["thing","picture"]) λ _ _ _ _ _ _ us hl=>sJ hl λ _ _=>rfl;have Mu:=zK.binds (ps:=["thing"]) λ _ _ _ _ _ _ us hl=>uI hl λ _=>rfl;have aag:=K4.binds (ps:=["thing"]) λ _ _ _ _ _ _ us hl=>uI hl λ _=>rfl;have aah:=K5.binds (ps:=["thing"]) λ _ _ _ _ _ _ us hl=>uI hl λ _=>rfl;have abt:=Q8.binds (ps:=["thing"]) λ _ _ _ _ _ _ us hl=>uI hl λ _=>rfl;have Rq:=Ca.binds (ps:=["thing"]) λ _ _ _ _ _ _ us hl=>uI hl λ _=>rfl;have JG:=yd.binds (ps:=["thing"]) λ _ _ _ _ _ _ us hl=>uI hl λ _=>rfl;have vg:=Cd.binds (ps:=["thing","least","most"]) λ _ _ _ _ _ _ us hl=>uJ hl λ _ _ _=>rfl;have Mv:=zL.binds (ps:=["picture","seam"]) λ _ _ _ _ _ _ us hl=>sJ hl λ _ _=>rfl;have afc:=Z1.binds (ps:=["line"]) λ _ _ _ _ _ _ us hl=>uI hl λ _=>rfl;have Rr:=Ce.binds (ps:=["picture","y"]) λ _ _ _ _ _ _ us hl=>sJ hl λ _ _=>rfl;have aai:=K6.binds (ps:=["picture"]) λ _ _ _ _ _ _ us hl=>uI hl λ _=>rfl;have abu:=Rc.binds (ps:=["picture"]) λ _ _ _ _ _ _ us hl=>uI hl λ _=>rfl;have abv:=Rf.binds (ps:=["picture"]) λ _ _ _ _ _ _ us hl=>uI hl λ _=>rfl;have adp:=U8.binds (ps:=["picture","manner"]) λ _ _ _ _ _ _ us hl=>sJ hl λ _ _=>rfl;have aaj:=K7.binds (ps:=["row","above","place"]) λ _ _ _ _ _ _ us hl=>uJ hl λ _ _ _=>rfl;have afd:=Z6.binds (ps:=["place","wide"]) λ _ _ _ _ _ _ us hl=>sJ hl λ _ _=>rfl;have abw:=Rg.binds (ps:=["beneath","row","x"]) λ _ _ _ _ _ _ us hl=>uJ hl λ _ _ _=>rfl;have adq:=U9.binds (ps:=["table","marks","start","gather"]) λ _ _ _ _ _ _ us hl=>U6 hl λ _ _ _ _=>rfl;have wL:=Ej.binds (ps:=["table","marks","many"]) λ _ _ _ _ _ _ us hl=>uJ hl λ _ _ _=>rfl
 have W8:=HF.binds (ps:=["table","rows"]) λ _ _ _ _ _ _ us hl=>sJ hl λ _ _=>rfl;have rY:=zM.binds (ps:=["table","marks","many"]) λ _ _ _ _ _ _ us hl=>uJ hl λ _ _ _=>rfl;have wN:=Ek.binds (ps:=["table","marks"]) λ _ _ _ _ _ _ us hl=>sJ hl λ _ _=>rfl;have aak:=K8.binds (ps:=["rows","seam"]) λ _ _ _ _ _ _ us hl=>sJ hl λ _ _=>rfl;have Jr:=Va.binds (ps:=["picture","many","manner","marks"]) λ _ _ _ _ _ _ us hl=>U6 hl λ _ _ _ _=>rfl;have gG:=HJ.binds (ps:=["picture","wide","manner","marks"]) λ _ _ _ _ _ _ us hl=>U6 hl λ _ _ _ _=>rfl;have BJ:=K9.binds (ps:=["_law_way","_law_picture_here","_law_broad"]) λ _ _ _ _ _ _ us hl=>uJ hl λ _ _ _=>rfl;have JH:=yg.binds (ps:=["_law_script","_law_at_here","_law_broad","_law_tall"]) λ _ _ _ _ _ _ us hl=>U6 hl λ _ _ _ _=>rfl;have Tp:=El.binds (ps:=["_law_script","_law_at_here","_law_broad","_law_tall"]) λ _ _ _ _ _ _ us hl=>U6 hl λ _ _ _ _=>rfl;have Rt:=Cg.binds (ps:=["_law_picture_here","_law_broad","_law_mode","_law_tags"]) λ _ _ _ _ _ _ us hl=>U6 hl λ _ _ _ _=>rfl;have W9:=HN.binds (ps:=["thing","high"]) λ _ _ _ _ _ _ us hl=>sJ hl λ _ _=>rfl;have abx:=Ri.binds (ps:=["thing","wide","high"]) λ _ _ _ _ _ _ us hl=>uJ hl λ _ _ _=>rfl;have aal:=La.binds (ps:=["thing","wide","high"]) λ _ _ _ _ _ _ us hl=>uJ hl λ _ _ _=>rfl;have Ru:=Ci.binds (ps:=["rows","seam","cells"]) λ _ _ _ _ _ _ us hl=>uJ hl λ _ _ _=>rfl;have aam:=Lb.binds (ps:=["picture","steps"]) λ _ _ _ _ _ _ us hl=>sJ hl λ _ _=>rfl;have ag2:=abT.binds (ps:=["_law_script"]) λ _ _ _ _ _ _ us hl=>uI hl λ _=>rfl;refine⟨PySem.W.fnOf "law" "law" (defArgs sU) (defBody sU) (defScope sU) .none Zr Zt Zu Zq QD Zv,λ s v=> .of_eq rfl,λ base cN TP _ _ hB hCI=>?_⟩;have oF:bf l.prog w K mg base 1 "_law_at" 3 gJ:=V5 KZ (PySem.W.mg_of X G ZV) aae T;have wH:bf l.prog w K mg base 2 "_law_step" 5 gK:=Qo Ec (PySem.W.mg_of X G S5) Tf T oF;have j7:bf l.prog w K mg base 3 "_law_cost" 3 gM:=Qp Ed (PySem.W.mg_of X G S6) Tg T wH;have pq:bf l.prog w K mg base 1 "_law_signs" 3 iB:=Lw BR (PySem.W.mg_of X G Q0) Rk T;have wI:bf l.prog w K mg base 1 "_law_ways" 2 mX:=Qq Ef (PySem.W.mg_of X G S7) Ti T;have kh:bf l.prog w K mg base 4 "_law_best" 3 iV:=Qs Eh (PySem.W.mg_of X G S8) Tj T j7 pq wI;have jD:bf l.prog w K mg base 1 "_law_cut" 2 iM:=RT Hy (PySem.W.mg_of X G WR) W4 T;have cu:bf l.prog w K mg base 1 "_law_drawn" 3 cD:=Ly BW (PySem.W.mg_of X G Q5) Rn T;have qP:bf l.prog w K mg base 1 "_law_free" 1 jY:=Qt Ei (PySem.W.mg_of X G S9) Tn T;have sE:bf l.prog w K mg base 2 "_law_manner" 2 jP:=Jj zJ (PySem.W.mg_of X G Mp) Mt T cu;have vo:bf l.prog w K mg base 2 "_law_marks" 3 lM:=Lz BX (PySem.W.mg_of X G Q6) Ro T cu;have yQ:bf l.prog w K mg base 1 "all_free" 1 oX:=RV Hz (PySem.W.mg_of X G WT) W5 T;have dZ:bf l.prog w K mg base 1 "is_whole" 1 dH:=RW HB (PySem.W.mg_of X G WW) W6 T;have Bv:bf l.prog w K mg base 2 "is_mark" 1 q9:=V6 K1 (PySem.W.mg_of X G ZW) aaf T dZ;have qy:bf l.prog w K mg base 3 "is_marks_row" 2 ji:=Hi yc (PySem.W.mg_of X G JB) JF T Bv;have yR:bf l.prog w K mg base 4 "is_marks" 2 oY:=RX HD (PySem.W.mg_of X G WX) W7 T qy;have vd:bf l.prog w K mg base 5 "full_marks" 2 iC:=LC BZ (PySem.W.mg_of X G Q7) Rp T yQ yR;have su:bf l.prog w K mg base 1 "need_manner" 1 jQ:=Jk zK (PySem.W.mg_of X G Mq) Mu T;have oH:bf l.prog w K mg base 1 "is_line" 1 jo:=V7 K4 (PySem.W.mg_of X G ZX) aag T;have oG:bf l.prog w K mg base 2 "is_cell" 1 lN:=V8 K5 (PySem.W.mg_of X G Z0) aah T dZ;have Fp:bf l.prog w K mg base 3 "is_row" 1 ur:=Zh Q8 (PySem.W.mg_of X G abn) abt T oG oH;have uW:bf l.prog w K mg base 4 "is_picture" 1 lO:=LK Ca (PySem.W.mg_of X G Q9) Rq T oH Fp;have gZ:bf l.prog w K mg base 5 "need_picture" 1 fJ:=Hj yd (PySem.W.mg_of X G JC) JG T uW;have vf:=LQ (P:=l.prog) (w:=w) (base:=base) (eN:=[(TP,"best_ways.<locals>.first_ones")]) Cd (PySem.W.mg_of X G Ra) T dZ;have rZ:bf l.prog w K mg base 1 "cells_along" 2 jR:=Jl zL (PySem.W.mg_of X G Mr) Mv T;have uX:bf l.prog w K mg base 1 "gaps" 1 rm:=ac0 Z1 (PySem.W.mg_of X G ae5) afc T;have uY:bf l.prog w K mg base 2 "join_fares" 2 lR:=LR Ce (PySem.W.mg_of X G Rb) Rr T uX
 have iT:bf l.prog w K mg base 6 "size_of" 1 iQ:=V9 K6 (PySem.W.mg_of X G Z4) aai T gZ;have Fq:bf l.prog w K mg base 7 "turned" 1 uw:=Zi Rc (PySem.W.mg_of X G abo) abu T iT;have Ft:bf l.prog w K mg base 8 "worths" 1 ux:=Zj Rf (PySem.W.mg_of X G abp) abv T uX iT Fq;have Jp:bf l.prog w K mg base 9 "fares" 2 pZ:=abd U8 (PySem.W.mg_of X G adk) adp T uY Ft;have oJ:bf l.prog w K mg base 1 "fare_of" 3 iR:=Wa K7 (PySem.W.mg_of X G Z5) aaj T;have Qw:bf l.prog w K mg base 1 "near" 2 Ar:=ac1 Z6 (PySem.W.mg_of X G ae7) afd T;have uZ:bf l.prog w K mg base 2 "onward" 3 p7:=Zk Rg (PySem.W.mg_of X G abq) abw T oJ Qw;have xX:=abf (P:=l.prog) (w:=w) (base:=base) U9 (PySem.W.mg_of X G adl) adq T uZ;have wK:=Qy (P:=l.prog) (w:=w) (base:=base) Ej (PySem.W.mg_of X G Tc) T xX  hB hCI;have yS:bf l.prog w K mg base 2 "from_top" 2 oZ:=R3 HF (PySem.W.mg_of X G WY) W8 T oJ;have rW:=Jo (P:=l.prog) (w:=w) (base:=base) zM (PySem.W.mg_of X G Ms) T wK wL yS;have wM:=Qz (P:=l.prog) (w:=w) (base:=base) Ek (PySem.W.mg_of X G Td) T rW rY;have vR:bf l.prog w K mg base 1 "without" 2 oA:=Wb K8 (PySem.W.mg_of X G Z7) aak T;have Jq:=abg (P:=l.prog) (w:=w) (base:=base) Va (PySem.W.mg_of X G adn) T rZ Jp wM wN vR;have gF:=R4 (P:=l.prog) (w:=w) (base:=base) (eN:=[(TP,"best_ways.<locals>.first_ones")]) HJ (PySem.W.mg_of X G W0) T vd su gZ vf vg Jq Jr;have mj:=Wc (P:=l.prog) (w:=w) (base:=base) (eN:=[(TP,"best_ways.<locals>.first_ones")]) aad (PySem.W.mg_of X G ZK) T gF gG;have xZ:=ac2 (P:=l.prog) (w:=w) (base:=base) (eN:=[(TP,"best_ways.<locals>.first_ones")]) afb (PySem.W.mg_of X G aeQ) T gF gG;have iU:=R5 (P:=l.prog) (w:=w) (base:=base) (eN:=[(TP,"best_ways.<locals>.first_ones")]) W3 (PySem.W.mg_of X G Wz) T gF gG;have Bx:=Wd (P:=l.prog) (w:=w) (base:=base) K9 (PySem.W.mg_of X G Z8) T mj xZ iU gR vh eO;have qD:bf l.prog w K mg base 2 "_law_picture" 4 jj:=Hl yg (PySem.W.mg_of X G JD) JH T cu;have wO:bf l.prog w K mg base 3 "_law_some" 4 mZ:=QB El (PySem.W.mg_of X G Te) Tp T cu qD;have pA:bf l.prog w K mg base 5 "_law_steps" 4 jk:=Mf Cg (PySem.W.mg_of X G Rh) Rt T kh jD;have yU:bf l.prog w K mg base 3 "is_cells" 2 o7:=R8 HN (PySem.W.mg_of X G W2) W9 T oG;have Fw:bf l.prog w K mg base 2 "is_way" 3 uD:=Zo Ri (PySem.W.mg_of X G abr) abx T dZ;have Bw:bf l.prog w K mg base 4 "is_step" 3 rA:=Wh La (PySem.W.mg_of X G Z9) aal T yU Fw;have vm:bf l.prog w K mg base 1 "with_cells" 3 lU:=Mg Ci (PySem.W.mg_of X G Rj) Ru T;have BK:bf l.prog w K mg base 7 "rebuilt" 2 oE:=Wi Lb (PySem.W.mg_of X G aac) aam T Bw iT vm;have af9:=ok_law (P:=l.prog) (w:=w) (base:=base) abT (PySem.W.mg_of X G WQ) T kh j7 jD cu qP sE vo Bx BJ wO pA mj xZ iU BK gR nj vp eO mq;obtain⟨f',ok',hm',_⟩:=af9;cases (PySem.W.mg_of X G WQ).symm.trans hm';exact ok'
end zA
namespace zA
open PySem PySem.Spec L2 Pu
theorem walk {l:PySem.W.OpenLaw} {q:Program} {loose:List Str} {XP:(Str->Option Value)->Heap->Prop} {YP:World->Heap->Prop} {d:DefRec} {K:Params->PySem.W.Frag} (hn:l.most=some 63) (hdf:d.params.defaults=[])
  (hY:∀(w:World) (h:Heap),YP w h->(K w.params).In h) (hnt:∀w:World,PySem.W.noTabs (K w.params)=true) (hrec:∃dy,(PyProof.Rows.recsOf q).find? (λ e:DefRec=>e.name ==("best_ways" :Str))=some dy)
  (F:∀(w:World) (mg:Str->Option Value) (fa:Addr) (h:Heap),(K w.params).In h->h.Ns mainGlobals mg->mg d.name=some (.ref fa)->
   ∃fd:FuncData,(∀(s:Shared) (u:Value),BindsTo s fd ⟨[u],[]⟩ [("_law_script",u)])/\∀(base:Heap) (c T:Addr),(K w.params).In base->base.Ns mainGlobals mg->qJ base mg c T->Ac (K w.params) mg "best_ways" c->FnOk l.prog w (K w.params) mg base CX0 14 fa fd ["_law_script"] (spT [(T,"best_ways.<locals>.first_ones")] (K w.params) 1 GF)):
  PySem.W.WalkO q loose XP YP l.row.toRowW d [] (λ f vs=>PySem.call f vs):=
 Pu.afH (n:=63) (k:=14) (x:= "_law_script") (y:= "best_ways") (q:= "best_ways.<locals>.first_ones") (FL:=GF) hn (by decide) hdf ⟨rfl,by decide,by decide⟩ hY hnt (by obtain⟨dy,e⟩:=hrec;exact⟨dy,List.mem_of_find?_eq_some e,beq_iff_eq.mp (List.find?_some (p:=λ e:DefRec=>e.name ==("best_ways" :Str)) e)⟩) F aa9
end zA
namespace PySem.W.Fast
theorem tw6550707351170792535:True:=trivial
theorem tw15819405759609481793:True:=trivial
theorem tw15651953058834161944:True:=trivial
theorem tw14401419749432244674:True:=trivial
theorem tw11547384230305125308:True:=trivial
theorem tw3198484829466670051:True:=trivial
theorem tw3971267405109572925:True:=trivial
theorem tw11096039741613696329:True:=trivial
theorem tw3069056587037245413:True:=trivial
theorem tw2781540199615369872:True:=trivial
theorem tw5452287762322934823:True:=trivial
theorem tw13993044788495387612:True:=trivial
theorem tw11338460586357809010:True:=trivial
theorem tw9920066402256858510:True:=trivial
theorem tw6161128184969937881:True:=trivial
theorem tw6941352594469688277:True:=trivial
theorem tw4081016831342218859:True:=trivial
theorem tw9919104050915598281:True:=trivial
theorem tw10318206806364332818:True:=trivial
theorem tw7132798145090209560:True:=trivial
theorem tw13957705613976380438:True:=trivial
theorem tw4485943396730379096:True:=trivial
theorem tw1553489064229506961:True:=trivial
theorem tw8793379836740357492:True:=trivial
theorem tw17281108808817688858:True:=trivial
theorem tw438730835929014537:True:=trivial
theorem tw2855987728620143520:True:=trivial
theorem tw2551506799476317963:True:=trivial
end PySem.W.Fast
open PySem PySem.W PyProof.Rows
set_option bootstrap.genMatcherCode true
set_option compiler.extract_closed true
set_option maxRecDepth 100000 in
set_option maxHeartbeats 0 in
theorem PySem.Challenge.cw_seamhall_k30_narrowed_holds : PySem.Challenge.rw_seamhall_k30_narrowed.Holds := by
 w_on;o_law;k_head;(case hw=>w_witness2)
 k_fill
 refine zA.walk (l:=PySem.Challenge.rw_seamhall_k30_narrowed) rfl rfl (λ w h Y=>PySem.W.km_in_of Y) ?nt ?rec ?F
 case nt=>intro w;kernel_rfl
 case rec=>exact⟨_,rfl⟩
 case F=>
  intro w mg fa h KX G hmg
  refine' zA.all_mk KX G hmg ?_ ?_ ?_ ?_ ?_ ?_ ?_ ?_ ?_ ?_ ?_ ?_ ?_ ?_ ?_ ?_ ?_ ?_ ?_ ?_ ?_ ?_ ?_ ?Hh ?Bs ?j5 ?Bt ?_ ?_ ?_ ?BP ?Hq ?Hr ?Hs ?Ht ?Hu ?Hv ?Hw ?Hx ?pD ?mO ?mQ ?_ ?_ ?_ ?_ ?_ ?_ ?_ ?_ ?_ ?_ ?_ ?_ ?_ ?_ ?_ ?_ ?_ ?_ ?_ ?_ ?_ ?_ ?_ ?_ ?_ ?_ ?_ ?_ ?_ ?_ ?_ ?_ ?_ ?_ ?_ ?_ ?_ ?_ ?_ ?_ ?_ ?_ ?_ ?_ ?_ ?_ ?_ ?_ ?_ ?_ ?_ ?_ ?_ ?_ ?_ ?_ ?_ ?_ ?_ ?_ ?_ ?_ ?_ ?_ ?_ ?_ ?_ ?gR ?nj ?vh ?vp ?eO ?mq
  all_goals try first |k_is |(refine' zA.afO ?qa ?ql ?qc ?qp;(case qa=>k_is);(case ql=>k_is);(case qc=>k_is);(case qp=>k_is))
  (case Hh=>intro d;cases d;(show PySem.W.kitOne _ (Value.type "NoneType") (Value.type "int")=some false);kit_is;(show PySem.W.kitOne _ (Value.type "bool") (Value.type "int")=some true);kit_is;(show PySem.W.kitOne _ (Value.type "int") (Value.type "int")=some true);kit_is;(show PySem.W.kitOne _ (Value.type "str") (Value.type "int")=some false);kit_is;(show PySem.W.kitOne _ (Value.type "tuple") (Value.type "int")=some false);kit_is;(show PySem.W.kitOne _ (Value.type "list") (Value.type "int")=some false);kit_is)
  (case Bs=>intro d;cases d;(show PySem.W.kitOne _ (Value.type "NoneType") (Value.type "bool")=some false);kit_is;(show PySem.W.kitOne _ (Value.type "bool") (Value.type "bool")=some true);kit_is;(show PySem.W.kitOne _ (Value.type "int") (Value.type "bool")=some false);kit_is;(show PySem.W.kitOne _ (Value.type "str") (Value.type "bool")=some false);kit_is;(show PySem.W.kitOne _ (Value.type "tuple") (Value.type "bool")=some false);kit_is;(show PySem.W.kitOne _ (Value.type "list") (Value.type "bool")=some false);kit_is)
  (case j5=>intro d;cases d;(show PySem.W.kitOne _ (Value.type "NoneType") (Value.type "tuple")=some false);kit_is;(show PySem.W.kitOne _ (Value.type "bool") (Value.type "tuple")=some false);kit_is;(show PySem.W.kitOne _ (Value.type "int") (Value.type "tuple")=some false);kit_is;(show PySem.W.kitOne _ (Value.type "str") (Value.type "tuple")=some false);kit_is;(show PySem.W.kitOne _ (Value.type "tuple") (Value.type "tuple")=some true);kit_is;(show PySem.W.kitOne _ (Value.type "list") (Value.type "tuple")=some false);kit_is)
  (case Bt=>intro d;cases d;(show PySem.W.kitOne _ (Value.type "NoneType") (Value.type "list")=some false);kit_is;(show PySem.W.kitOne _ (Value.type "bool") (Value.type "list")=some false);kit_is;(show PySem.W.kitOne _ (Value.type "int") (Value.type "list")=some false);kit_is;(show PySem.W.kitOne _ (Value.type "str") (Value.type "list")=some false);kit_is;(show PySem.W.kitOne _ (Value.type "tuple") (Value.type "list")=some false);kit_is;(show PySem.W.kitOne _ (Value.type "list") (Value.type "list")=some true);kit_is)
  (case BP=>k_exc)
  (case mO=>kit_is)
  (case mQ=>kit_is)
  (case gR=>intro s us ws i hl hw;have h0:us.length=2:=(by simp only[List.length_cons,List.length_nil] at hl;omega);clear hl;obtain⟨u0,us0,rfl,h1⟩:=Pu.jg h0;clear h0;obtain⟨u1,Nz,rfl,h2⟩:=Pu.jg h1;clear h1;cases Pu.len0 h2;have g0:ws.length=0:=hw;clear hw;cases Pu.len0 g0;exact PySem.W.kp_binds i (λ S=>rfl))
  (case nj=>intro s us ws i hl hw;have h0:us.length=2:=(by simp only[List.length_cons,List.length_nil] at hl;omega);clear hl;obtain⟨u0,us0,rfl,h1⟩:=Pu.jg h0;clear h0;obtain⟨u1,Nz,rfl,h2⟩:=Pu.jg h1;clear h1;cases Pu.len0 h2;have g0:ws.length=2:=hw;clear hw;obtain⟨w0,ws0,rfl,g1⟩:=Pu.jg g0;clear g0;obtain⟨w1,ws1,rfl,g2⟩:=Pu.jg g1;clear g1;cases Pu.len0 g2;exact PySem.W.kp_binds i (λ S=>rfl))
  (case vh=>intro s us ws i hl hw;have h0:us.length=2:=(by simp only[List.length_cons,List.length_nil] at hl;omega);clear hl;obtain⟨u0,us0,rfl,h1⟩:=Pu.jg h0;clear h0;obtain⟨u1,Nz,rfl,h2⟩:=Pu.jg h1;clear h1;cases Pu.len0 h2;have g0:ws.length=0:=hw;clear hw;cases Pu.len0 g0;exact PySem.W.kp_binds i (λ S=>rfl))
  (case vp=>intro s us ws i hl hw;have h0:us.length=2:=(by simp only[List.length_cons,List.length_nil] at hl;omega);clear hl;obtain⟨u0,us0,rfl,h1⟩:=Pu.jg h0;clear h0;obtain⟨u1,Nz,rfl,h2⟩:=Pu.jg h1;clear h1;cases Pu.len0 h2;have g0:ws.length=1:=hw;clear hw;obtain⟨w0,ws0,rfl,g1⟩:=Pu.jg g0;clear g0;cases Pu.len0 g1;exact PySem.W.kp_binds i (λ S=>rfl))
  (case eO=>intro s us ws i hl hw;have h0:us.length=2:=(by simp only[List.length_cons,List.length_nil] at hl;omega);clear hl;obtain⟨u0,us0,rfl,h1⟩:=Pu.jg h0;clear h0;obtain⟨u1,Nz,rfl,h2⟩:=Pu.jg h1;clear h1;cases Pu.len0 h2;have g0:ws.length=0:=hw;clear hw;cases Pu.len0 g0;exact PySem.W.kp_binds i (λ S=>rfl))
  (case mq=>intro s us ws i hl hw;have h0:us.length=2:=(by simp only[List.length_cons,List.length_nil] at hl;omega);clear hl;obtain⟨u0,us0,rfl,h1⟩:=Pu.jg h0;clear h0;obtain⟨u1,Nz,rfl,h2⟩:=Pu.jg h1;clear h1;cases Pu.len0 h2;have g0:ws.length=2:=hw;clear hw;obtain⟨w0,ws0,rfl,g1⟩:=Pu.jg g0;clear g0;obtain⟨w1,ws1,rfl,g2⟩:=Pu.jg g1;clear g1;cases Pu.len0 g2;exact PySem.W.kp_binds i (λ S=>rfl))
  all_goals first |k_is |kernel_rfl
