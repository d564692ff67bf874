import PyProof.Rows.All
import Wide.All
import OpenK.AllK
import Wide.FinOn
import Lean
import PyProof.EqAt
import PyProof.EqKinds
import PyProof.TupleCall
import PyProof.NeKinds
import PySem.Challenge.RW_seamhall_k47_whole_together
noncomputable section
set_option bootstrap.genMatcherCode false
set_option compiler.extract_closed false
set_option Elab.async false
set_option linter.all false
set_option maxRecDepth 100000
set_option maxHeartbeats 4000000
theorem z0b {a b c : Nat} (h : a ≤ b) (k : b ≤ c) : a ≤ c := Nat.le_trans h k
theorem z0d {a b c : Nat} (h : a < b) (k : b ≤ c) : a < c := Nat.lt_of_lt_of_le h k
theorem z0e {a b : Nat} (h : a < b) : a ≤ b := Nat.le_of_lt h
theorem z0g (a : Nat) : a ≤ a := Nat.le_refl a
theorem z1a {h : PySem.Heap} {a : PySem.Addr} {o' : PySem.Obj} (o : PySem.Obj) (e : h.get? a = some o') : (h.push o).get? a = some o' := PySem.Heap.get?_push_of_some o e
theorem z1b {α : Type _} {i : Nat} {a : α} {l : List α} (h : l[i]? = some a) : ∃ h : i < l.length, l[i] = a := List.getElem?_eq_some_iff.mp h
theorem z1c {α : Type _} {as : List α} : as.toArray.size = as.length := List.size_toArray
theorem z1d {α : Type _} {as bs : List α} : (as ++ bs).length = as.length + bs.length := List.length_append
theorem z1e {α : Type _} {l : List α} {i j : Nat} (h : i ≠ j) {a : α} : (l.set i a)[j]? = l[j]? := List.getElem?_set_ne h
theorem z1f (h : PySem.Heap) {o : PySem.Obj} (e : o.isFreed = false) : (h.push o).get? h.objs.size = some o := PySem.Heap.get?_push_size h e
theorem z1g {α : Type _} {β : Type _} {as : List α} (f : α → β) : (as.map f).length = as.length := List.length_map f
theorem z1h {α : Type _} {β : Type _} {f : α → β} {a : α} {l : List α} : (a :: l).map f = f a :: l.map f := rfl
theorem z2a {α : Type _} {l : List α} {i : Nat} {a : α} (h : i < l.length) : (l.set i a)[i]? = some a := List.getElem?_set_self h
theorem z2b {α : Type _} {β : Type _} {f : α → β} {l : List α} {i : Nat} : (l.map f)[i]? = Option.map f l[i]? := List.getElem?_map
theorem z2c {h : PySem.Heap} {a : PySem.Addr} {o : PySem.Obj} (e : h.get? a = some o) : a < h.objs.size := PySem.Heap.lt_size e
theorem z2d {n : Nat} : (List.range n).length = n := List.length_range
theorem z2e {m n : Nat} (h : m ∈ List.range n) : m < n := List.mem_range.mp h
theorem z2f {α : Type _} (y : α) {a : α} {l : List α} (h : a ∈ l) : a ∈ y :: l := List.mem_cons_of_mem y h
namespace L2
open PySem PySem.Spec PyProof.Rows
variable {A:Around} {CX:CXT} {e tg:Expr} {o:HO} {h base:Heap} {H:Hp} {pins:List (Addr×Obj)} {ch:List Addr} {body:List Stmt} {ps N:List Str} {us:List Value} {M:Model} {t' k:Nat} {P:Program} {K:PySem.W.Frag} {r:R2} {s:Shared} {σ:St} {mg:Str->Option Value} {Q:Unit->Shared->Prop} {E:Value->Shared->Prop} {f:Value->Value->Sem Value} {w:World}
abbrev Key:=Sum Int Str
def keyIs:Key->Value->Bool
 | .inl k,v=>Value.isInt k v
 | .inr x,v=>Value.isStrOf x v
def keyH (w:World):Key->Int
 | .inl k=>hashInt k
 | .inr x=>hashStr w x
theorem keyIs_shape:∀{k:Key} {v:Value},keyIs k v=true->(∃i t,k=Sum.inl i/\v=Value.int i t)\/(∃x t,k=Sum.inr x/\v=Value.str x t)
 | .inl i,v,h=>by
  obtain⟨t,e⟩:=Value.isInt_shape (k:=i) (v:=v) h;exact .inl ⟨i,t,rfl,e⟩
 | .inr x,v,h=>by
  obtain⟨t,e⟩:=Value.isStrOf_shape (x:=x) (v:=v) h;exact .inr ⟨x,t,rfl,e⟩
theorem key_ll (a b:Int):decide ((Sum.inl a:Key)=Sum.inl b)=(a ==b):=by
 by_cases e:a=b
 ·subst e;simp
 ·have h:¬(Sum.inl a:Key)=Sum.inl b:=λ q=>e (Sum.inl.inj q);rw[decide_eq_false h];exact (beq_eq_false_iff_ne.mpr e).symm
theorem key_rr (a b:Str):decide ((Sum.inr a:Key)=Sum.inr b)=decide (a=b):=by
 by_cases e:a=b
 ·subst e;simp
 ·have h:¬(Sum.inr a:Key)=Sum.inr b:=λ q=>e (Sum.inr.inj q);rw[decide_eq_false h,decide_eq_false e]
theorem key_lr (a:Int) (b:Str):decide ((Sum.inl a:Key)=Sum.inr b)=false:=decide_eq_false (λ q=>nomatch q)
theorem key_rl (a:Str) (b:Int):decide ((Sum.inr a:Key)=Sum.inl b)=false:=decide_eq_false (λ q=>nomatch q)
def mixKind (prog:Program) (w:World):PySem.KeyKind prog w Key where
 is:=keyIs
 hash:=keyH w
 inj :=λ v a b ha hb=>by
  rcases keyIs_shape ha with⟨i,t,rfl,rfl⟩ |⟨x,t,rfl,rfl⟩
  ·rcases keyIs_shape hb with⟨j,u,rfl,e⟩ |⟨y,u,rfl,e⟩
   ·injection e with e1 _;rw[e1]
   ·exact nomatch e
  ·rcases keyIs_shape hb with⟨j,u,rfl,e⟩ |⟨y,u,rfl,e⟩
   ·exact nomatch e
   ·injection e with e1 _;rw[e1]
 byValue:=λ k v h=>by
  rcases keyIs_shape h with⟨i,t,rfl,rfl⟩ |⟨x,t,rfl,rfl⟩ <;> rfl
 pyHash:=λ hv h=>by
  rcases keyIs_shape hv with⟨i,t,rfl,rfl⟩ |⟨x,t,rfl,rfl⟩
  ·exact wpAny_pyHash_int h
  ·exact wpAny_pyHash_str h
 eqBool:=λ hu hv h=>by
  rcases keyIs_shape hu with⟨i,t,rfl,rfl⟩ |⟨x,t,rfl,rfl⟩
  ·rcases keyIs_shape hv with⟨j,u,rfl,rfl⟩ |⟨y,u,rfl,rfl⟩
   ·rw[key_ll] at h;exact wpAny_eqBool_int h
   ·rw[key_lr] at h;exact SeqAt.EqAt.int_str i t y u _ _ _ _ h
  ·rcases keyIs_shape hv with⟨j,u,rfl,rfl⟩ |⟨y,u,rfl,rfl⟩
   ·rw[key_rl] at h;exact SeqAt.EqAt.str_int x t j u _ _ _ _ h
   ·rw[key_rr] at h;exact wpAny_eqBool_str h
 «strs»:=λ k x t v h=>by
  rcases keyIs_shape h with⟨i,u,rfl,e⟩ |⟨y,u,rfl,e⟩
  ·exact nomatch e
  ·injection e with e1 _;subst e1;cases v <;> rfl
inductive V where
 |non |bl (b:Bool) |int (i:Int) |str (x:Str) |byt (b:Array UInt8) |flt (b:UInt64) |ref (a:Addr) |ty (n:String)
 deriving DecidableEq
def RelV:V->Value->Prop
 | .non,u=>u=Value.none
 | .bl b,u=>u=Value.bool b
 | .int i,u=>∃t,u=Value.int i t
 | .str x,u=>∃t,u=Value.str x t
 | .byt b,u=>∃t,u=Value.bytes b t
 | .flt b,u=>∃t,u=Value.float b t
 | .ref a,u=>u=Value.ref a
 | .ty n,u=>u=Value.type n
abbrev Vals:List V->List Value->Prop:=Paired RelV
theorem Vals.length {xs:List V} (r:Vals xs us):xs.length=us.length:=Paired.length r
theorem Vals.get:∀{xs:List V} {us:List Value} {i:Nat} {x:V},Vals xs us->xs[i]?=some x->∃u,us[i]?=some u/\RelV x u
 |_,_,_,_,.nil,e=>by simp at e
 |_,_,0,_,.cons r _,e=>by simp at e;subst e;exact⟨_,rfl,r⟩
 | _,_,i+1,x,.cons _ t,e=>by
  obtain⟨u,h1,h2⟩:=Vals.get (i:=i) (x:=x) t (by simpa using e);exact⟨u,by simpa using h1,h2⟩
theorem Vals.set {x:V} {u:Value} (r:RelV x u):∀{xs:List V} {us:List Value} (i:Nat),Vals xs us->Vals (xs.set i x) (us.set i u)
 |_,_,_,.nil=> .nil
 |_,_,0,.cons _ t=> .cons r t
 |_,_,i+1,.cons q t=> .cons q (Vals.set r i t)
theorem Vals.append:∀{xs ys:List V} {us ws:List Value},Vals xs us->Vals ys ws->Vals (xs++ys) (us++ws)
 :=by
 intro xs ys us ws h q
 induction h with
 |nil=>exact q
 |cons r t ih=>exact .cons r ih
theorem Vals.take:∀{xs:List V} {us:List Value} (n:Nat),Vals xs us->Vals (xs.take n) (us.take n)
 |_,_,0,_=> .nil
 |_,_,_+1,.nil=> .nil
 |_,_,n+1,.cons r t=> .cons r (Vals.take n t)
theorem Vals.drop:∀{xs:List V} {us:List Value} (n:Nat),Vals xs us->Vals (xs.drop n) (us.drop n)
 |_,_,0,r=>r
 |_,_,_+1,.nil=> .nil
 |_,_,n+1,.cons _ t=>Vals.drop n t
def RelO:Option V->Option Value->Prop
 |some v,some u=>RelV v u
 |none,none=>True
 |_,_=>False
def KV {κ:Type}:List (κ×V)->List (κ×Value)->Prop:=Paired λ (p:κ×V) (q:κ×Value)=>p.1=q.1/\RelV p.2 q.2
def kV:Key->V
 | .inl i=> .int i
 | .inr x=> .str x
inductive HO where
 /-- a list -/
 |lst (xs:List V)
 /-- a tuple (never changes) -/
 |tup (xs:List V)
 /-- a dict whose keys are ints and texts;one whose keys are tuples of ints and texts (the empty one is both) -/
 |dK (kvs:List (Key×V)) |dT (kvs:List (List Key×V))
 /-- a set of ints:its members,its size -/
 |set (S:Int->Bool) (n:Nat)
 /-- an instance of the class at C,its dict at dx,its attributes -/
 |ins (C dx:Addr) (fs:List (Str×V))
 /-- the dict of the instance at x -/
 |own (x:Addr)
 /-- the dict of an exception -/
 |xd (fs:List (Str×V))
 /-- a bound method,f of x -/
 |met (f x:Addr)
 /-- a range object lo,lo+1,.. below hi -/
 |rng (lo hi:Int)
 /-- a thing that is known to the object (the script;a dict while a loop walks it):read,never written while it is so -/
 |frz (o:Obj) (u:HO)
 /-- a code object's table -/
 |tbl (ps:Array Value)
 /-- any other thing,by what is true of its one object (a def of one's own:SetO a S n:=HO.ext λ h=> ..) -/
 |ext (φ:Heap->Prop)
abbrev Hp:=Addr->Option HO
def upd (H:Hp) (a:Addr) (o:HO):Hp:=λ b=>if b=a then some o else H b
theorem upd_same {a:Addr}:upd H a o a=some o:=by unfold upd;rw[if_pos rfl]
theorem upd_ne {a b:Addr} (h:b≠a):upd H a o b=H b:=by unfold upd;rw[if_neg h]
theorem ne_of_none {a b:Addr} (h:H a=some o) (h':H b=none):a≠b:=by
 intro e;subst e;rw[h] at h';cases h'
section
variable (P:Program) (w:World)
def ObjOk (H:Hp) (h:Heap) (a:Addr):HO->Prop
 | .lst xs=>xs.length<=sizeLine/\∃(its:List Value) (n:Nat),Vals xs its/\h.get? a=some {cls:= .type "list",data:= .seq its.toArray n}
 | .tup xs=>xs.length<=sizeLine/\∃its:List Value,Vals xs its/\IsTup h a its.toArray
 | .dK kvs=>kvs.length<=sizeLine/\(a ==sysModules)=false/\∃vs,KV kvs vs/\h.DictOf (mixKind P w) a vs
 | .dT kvs=>kvs.length<=sizeLine/\(a ==sysModules)=false/\∃xs:List (List Key×Addr×Value),
   Paired (λ (p:List Key×V) (q:List Key×Addr×Value)=>p.1=q.1/\H q.2.1=some (.tup (p.1.map kV))/\RelV p.2 q.2.2) kvs xs/\
   ∃o es ep,h.get? a=some o/\o.ExactDict/\o.data= .dict es ep/\es.toList=xs.map (entryOfKey (tupleKind (mixKind P w)))/\(xs.map (·.1)).Nodup
 | .set S n=>h.SetOf (intKind P w) a S n
 | .ins C dx fs=>H dx=some (.own a)/\fs.length<=1000/\dx≠a/\h.get? a=some (PySem.W.instObj C dx)/\
   ∃mA,h.Ns1 dx mA/\(∀f,RelO (fs.lookup f) (mA f))/\PySem.Within mA (fs.map (·.1))
 | .own _=>∃o,h.get? a=some o
 | .xd fs=>∃mA,h.Ns1 a mA/\∀f,RelO (fs.lookup f) (mA f)
 | .rng lo hi=>∃t u v,h.get? a=some {cls:= .type "range",data:= .fields #[.int lo t,.int hi u,.int 1 v]}
 | .frz o u=>h.get? a=some o/\ObjOk H h a u
 | .tbl ps=>∃qs:Array Value,h.get? a=some (PySem.W.tabObj qs)/\TriplesOk qs.toList/\∀pos cv,codeAmong pos qs.toList=some cv->∃c oc vs q t tq,cv= .ref c/\H c=some (.frz oc (.own c))/\oc.data= .fields vs/\vs[1]?=some (.str q t)/\ps[0]?=some (.str q tq)
 | .met f x=>h.get? a=some (PySem.W.methodObj (.ref f) (.ref x))
 | .ext φ=>φ h/\(∃o,h.get? a=some o)/\∀h1 h2:Heap,φ h1->(∀o,h1.get? a=some o->h2.get? a=some o)->φ h2
def HOk (H:Hp) (h:Heap):Prop:=∀a o,H a=some o->ObjOk P w H h a o
end
section
variable {P:Program} {w:World} {H H':Hp} {h h':Heap} {a:Addr} {o:HO}
theorem ObjOk.lt (x:ObjOk P w H h a o):a < h.objs.size:=by
 cases o with
 |lst xs=>obtain⟨_,_,_,_,e⟩:=x;exact z2c e
 |tup xs=>obtain⟨_,_,_,p⟩:=x;exact p.lt
 |dK kvs=>obtain⟨_,_,_,_,o,_,_,e,_⟩:=x;exact z2c e
 |dT kvs=>obtain⟨_,_,_,_,o,_,_,e,_⟩:=x;exact z2c e
 |set S n=>obtain⟨o,_,_,_,e,_⟩:=x;exact z2c e
 |ins C dx fs=>obtain⟨_,_,_,e,_⟩:=x;exact z2c e
 |own y=>obtain⟨_,e⟩:=x;exact z2c e
 |xd fs=>obtain⟨_,⟨_,_,_,e,_⟩,_⟩:=x;exact z2c e
 |rng lo hi=>obtain⟨_,_,_,e⟩:=x;exact z2c e
 |frz ob u=>obtain⟨e,_⟩:=x;exact z2c e
 |tbl ps=>obtain⟨_,e,_⟩:=x;exact z2c e
 |met f y=>exact z2c (show h.get? a=some _ from x)
 |ext φ=>obtain⟨_,⟨_,e⟩,_⟩:=x;exact z2c e
theorem Paired.mapP {α β:Type} {F G:α->β->Prop}:∀{l₁:List α} {l₂:List β},Paired F l₁ l₂->(∀a b,F a b->G a b)->Paired G l₁ l₂
 :=by
 intro l₁ l₂ h f
 induction h with
 |nil=>exact .nil
 |cons r t ih=>exact .cons (f _ _ r) ih
theorem ObjOk.stay (x:ObjOk P w H h a o) (k:∀b u,(b=a\/H b=some (.own a))->h.get? b=some u->h'.get? b=some u)
  (ho:∀b,H b=some (.own a)->H' b=some (.own a)) (ht:∀b xs,H b=some (.tup xs)->H' b=some (.tup xs)) (hz:∀b o u,(∃vs,o.data= .fields vs)->H b=some (.frz o u)->H' b=some (.frz o u)):ObjOk P w H' h' a o:=by
 induction o with
 |lst xs=>obtain⟨z,its,n,r,e⟩:=x;exact⟨z,its,n,r,k _ _ (.inl rfl) e⟩
 |tup xs=>obtain⟨z,its,r,ob,e,c⟩:=x;exact⟨z,its,r,ob,k _ _ (.inl rfl) e,c⟩
 |dK kvs=>obtain⟨z,y,vs,r,ob,es,ep,e,c⟩:=x;exact⟨z,y,vs,r,ob,es,ep,k _ _ (.inl rfl) e,c⟩
 | dT kvs=>
  obtain⟨z,y,xs,r,ob,es,ep,e,c⟩:=x;exact⟨z,y,xs,Paired.mapP r λ p q z=>⟨z.1,ht _ _ z.2.1,z.2.2⟩,ob,es,ep,k _ _ (.inl rfl) e,c⟩
 |set S n=>obtain⟨ob,es,ep,t,e,c⟩:=x;exact⟨ob,es,ep,t,k _ _ (.inl rfl) e,c⟩
 | ins C dx fs=>
  obtain⟨d,z,ne,e,mA,⟨od,es,ep,e2,c⟩,r⟩:=x;exact⟨ho _ d,z,ne,k _ _ (.inl rfl) e,mA,⟨od,es,ep,k _ _ (.inr d) e2,c⟩,r⟩
 |own y=>obtain⟨ob,e⟩:=x;exact⟨ob,k _ _ (.inl rfl) e⟩
 |xd fs=>obtain⟨mA,⟨od,es,ep,e,c⟩,r⟩:=x;exact⟨mA,⟨od,es,ep,k _ _ (.inl rfl) e,c⟩,r⟩
 |rng lo hi=>obtain⟨t,u,v,e⟩:=x;exact⟨t,u,v,k _ _ (.inl rfl) e⟩
 |frz ob u ih=>obtain⟨e,q⟩:=x;exact⟨k _ _ (.inl rfl) e,ih q⟩
 | tbl ps=>
  obtain⟨qs,e,tr,al⟩:=x;exact⟨qs,k a _ (.inl rfl) e,tr,λ p cv z=>by
   obtain⟨c,oc,vs,q,t,tq,e1,e2,e3,r⟩:=al p cv z;exact⟨c,oc,vs,q,t,tq,e1,hz _ _ _ ⟨vs,e3⟩ e2,e3,r⟩⟩
 | met f y=>
  have e:h.get? a=some (PySem.W.methodObj (.ref f) (.ref y)):=x;show h'.get? a=some (PySem.W.methodObj (.ref f) (.ref y));exact k a _ (.inl rfl) e
 |ext φ=>obtain⟨p,⟨o,e⟩,st⟩:=x;exact⟨st _ _ p λ o q=>k _ _ (.inl rfl) q,⟨o,k _ _ (.inl rfl) e⟩,st⟩
theorem HOk.lt (x:HOk P w H h) (e:H a=some o):a < h.objs.size:=(x a o e).lt
theorem HOk.fresh (x:HOk P w H h) (e:h.objs.size<=a):H a=none:=by
 cases q:H a with
 |none=>rfl
 |some u=>exact absurd (z0d (x.lt q) e) (Nat.lt_irrefl _)
theorem HOk.kept (x:HOk P w H h) (k:∀b u,h.get? b=some u->h'.get? b=some u):HOk P w H h':=λ a o e=>
 (x a o e).stay (λ b u _ q=>k b u q) (λ _ q=>q) (λ _ _ q=>q) λ _ _ _ _ q=>q
theorem HOk.laid (x:HOk P w H h) (k:∀b u,h.get? b=some u->h'.get? b=some u) (hp:h.objs.size<=a) (new:ObjOk P w (upd H a o) h' a o):HOk P w (upd H a o) h':=λ b u e=>by
 have hn:=x.fresh hp;by_cases hb:b=a
 ·subst hb;rw[upd_same] at e;cases e;exact new
 ·rw[upd_ne hb] at e;exact (x b u e).stay (λ c v _ q=>k c v q) (λ c q=>by rw[upd_ne (ne_of_none q hn)];exact q) (λ c xs q=>by rw[upd_ne (ne_of_none q hn)];exact q) λ c _ _ _ q=>by rw[upd_ne (ne_of_none q hn)];exact q
end
def Rd (H:Hp) (a:Addr) (u:HO):Prop:=H a=some u\/∃o,H a=some (.frz o u)
theorem Rd.ok {a:Addr} {u:HO} (r:Rd H a u) (x:HOk P w H h):ObjOk P w H h a u:=by
 rcases r with r |⟨o,r⟩
 ·exact x a u r
 ·obtain⟨_,q⟩:=x a _ r;exact q
def Mut:Option HO->Prop
 |some (.lst _)=>True
 |some (.dK _)=>True
 |some (.dT _)=>True
 |some (.set _ _)=>True
 |some (.ins _ _ _)=>True
 |some (.ext _)=>True
 |_=>False
section
variable {P:Program} {w:World} {H:Hp} {h h':Heap} {x e:Addr} {o':HO}
theorem HOk.write (ok:HOk P w H h) (mu:Mut (H x)) (he:e=x\/H e=some (.own x)) (k:∀b u,b≠e->h.get? b=some u->h'.get? b=some u) (heo:∃u,h'.get? e=some u)
  (new:ObjOk P w (upd H x o') h' x o'):HOk P w (upd H x o') h':=λ b u q=>by
 have nown:∀c y,H c=some (.own y)->c≠x:=λ c y r z=>by subst z;rw[r] at mu;exact mu
 have ntup:∀c xs,H c=some (.tup xs)->c≠x:=λ c xs r z=>by subst z;rw[r] at mu;exact mu
 by_cases hb:b=x
 ·subst hb;rw[upd_same] at q;cases q;exact new
 ·rw [upd_ne hb] at q;by_cases hbe:b=e
  ·have q':H b=some (.own x):=by
    rcases he with z |z
    ·exact absurd (hbe.trans z) hb
    ·rw[hbe];exact z
   rw[q] at q';cases q';obtain⟨v,hv⟩:=heo;exact⟨v,by rw[hbe];exact hv⟩
  ·refine (ok b u q).stay (λ c v hc r=>k c v ?_ r) (λ c r=>by rw[upd_ne (nown c b r)];exact r) (λ c xs r=>by rw[upd_ne (ntup c xs r)];exact r) λ c o1 u1 _ r=>by rw[upd_ne (λ z=>by rw[z] at r;rw[r] at mu;exact mu)];exact r
   rcases hc with rfl |hc
   ·exact hbe
   ·rintro rfl
    rcases he with z |z
    ·exact nown c b hc z
    ·rw[hc] at z;cases z;exact hb rfl
end
structure Un (fs ex:List Addr) (H H':Hp) (h h':Heap):Prop where
 keep:∀b o,h.get? b=some o->H b=none->b∉fs->b∉ex->h'.get? b=some o
 slot:∀b o,h.get? b=some o->H b=none->b∈fs->b∉ex->∃sl,h'.get? b=some {o with slots:=sl}
 free:∀b o,h.get? b=some o->H b=none->b∉ex->H' b=none
 there:∀b o,h.get? b=some o->b∉ex->∃o',h'.get? b=some o'
 tups:∀b xs,H b=some (.tup xs)->H' b=some (.tup xs)
 frzs:∀b o u,H b=some (.frz o u)->H' b=some (.frz o u)
 tbls:∀b ps,H b=some (.tbl ps)->∃more,H' b=some (.tbl (ps++more))
section
variable {fs fs' ex ex':List Addr} {H H1 H2:Hp} {h h1 h2 h':Heap} {a x e:Addr} {o:HO}
theorem Un.any (u:Un fs ex H H1 h h1) {b:Addr} {ob:Obj} (q:h.get? b=some ob) (n:H b=none) (hx:b∉ex):∃sl,h1.get? b=some {ob with slots:=sl}:=by
 by_cases hb:b∈fs
 ·exact u.slot b ob q n hb hx
 ·exact⟨ob.slots,u.keep b ob q n hb hx⟩
theorem Un.kept (k:∀b u,h.get? b=some u->h'.get? b=some u):Un fs ex H H h h':=
 ⟨λ b ob q _ _ _=>k b ob q,λ b ob q _ _ _=>⟨ob.slots,k b ob q⟩,λ _ _ _ n _=>n,λ b ob q _=>⟨ob,k b ob q⟩,λ _ _ q=>q,λ _ _ _ q=>q,λ _ ps q=>⟨#[],by rw[q];simp⟩⟩
theorem Un.refl:Un fs ex H H h h:=Un.kept λ _ _ q=>q
theorem Un.laid (k:∀b u,h.get? b=some u->h'.get? b=some u) (hp:h.objs.size<=a) (hn:H a=none):Un fs ex H (upd H a o) h h' where
 keep:=λ b u q _ _ _=>k b u q
 slot:=λ b u q _ _ _=>⟨u.slots,k b u q⟩
 free:=λ b u q n _=>by rw[upd_ne (Nat.ne_of_lt (z0d (z2c q) hp))];exact n
 there:=λ b u q _=>⟨u,k b u q⟩
 tups:=λ b xs q=>by rw[upd_ne (ne_of_none q hn)];exact q
 frzs:=λ b u xs q=>by rw[upd_ne (ne_of_none q hn)];exact q
 tbls:=λ b ps q=>⟨#[],by rw[upd_ne (ne_of_none q hn),q];simp⟩
theorem Un.write (mu:Mut (H x)) (he:e=x\/H e=some (.own x)) (k:∀b u,b≠e->h.get? b=some u->h'.get? b=some u) (heo:∃u,h'.get? e=some u):Un fs ex H (upd H x o) h h':=by
 have hx:∀b,H b=none->b≠x:=λ b n z=>by subst z;rw[n] at mu;exact mu
 have hb:∀b,H b=none->b≠e:=λ b n z=>by
  subst z;rcases he with r |r
  ·exact hx b n r
  ·rw[n] at r;cases r
 have hm:∀b u,H b=some u->¬Mut (some u)->b≠x:=λ b u q nm z=>by subst z;rw[q] at mu;exact nm mu
 refine⟨λ b u q n _ _=>k b u (hb b n) q,λ b u q n _ _=>⟨u.slots,k b u (hb b n) q⟩,λ b u q n _=>by rw[upd_ne (hx b n)];exact n,λ b u q _=>?_,
  λ b xs q=>by rw[upd_ne (hm b _ q λ z=>z)];exact q,λ b u xs q=>by rw[upd_ne (hm b _ q λ z=>z)];exact q,λ b ps q=>⟨#[],by rw[upd_ne (hm b _ q λ z=>z),q];simp⟩⟩
 by_cases hbe:b=e
 ·subst hbe;exact heo
 ·exact⟨u,k b u hbe q⟩
end
def trk (h:Heap) (H:Hp):List Addr:=(List.range h.objs.size).filter λ a=>(H a).isSome
def hidT (h:Heap) (H:Hp):Heap:=PySem.W.hideAll h (trk h H)
theorem hidT_size (h:Heap) (H:Hp):(hidT h H).objs.size=h.objs.size:=PySem.W.hideAll_size _ _
theorem hidT_get {b:Addr} {o:Obj} (e:h.get? b=some o) (n:H b=none):(hidT h H).get? b=some o:=
 PySem.W.hideAll_get _ e λ hm=>by
  have q:(H b).isSome=true:=(List.mem_filter.mp hm).2;rw[n] at q;simp at q
theorem of_hidT {b:Addr} {o:Obj} (e:(hidT h H).get? b=some o):h.get? b=some o/\H b=none:=by
 have e':h.get? b=some o:=PySem.W.of_hideAll (trk h H) e;refine⟨e',?_⟩;cases q:H b with
 |none=>rfl
 | some x=>
  have hm:b∈trk h H:=List.mem_filter.mpr ⟨List.mem_range.mpr (z2c e'),by simp[q]⟩;have z:(hidT h H).get? b=none:=PySem.W.hideAll_none (trk h H) hm;rw[z] at e;cases e
def allNews (g h:Heap) (L:Addr):List (Addr×Obj):=(List.range h.objs.size).filterMap λ a=>if a=L\/(g.get? a).isSome=true then none else (h.get? a).map λ o=>(a,o)
def rest (g h:Heap) (L d:Addr):List (Addr×Obj):=(allNews g h L).filter λ p=>decide (p.1≠d)
structure Mod (K:PySem.W.Frag) (mg:Str->Option Value) (base:Heap):Prop where
 kin:K.In base
 glob:base.Ns mainGlobals mg
 blt:∃mb,base.Ns builtinsNs mb/\∀x:Str,x≠"__name__"->mb x=bootBuiltins x
 nolimit:base.NoLimit
structure Cx where
 prog:Program
 w:World
 K:PySem.W.Frag
 mg:Str->Option Value
 base:Heap
 A:Around
 N:List Str
 s₀:Shared
 H₀:Hp
 env:Env
 outer:List Env
 stack:List Env
 ex:List Addr
 fn:Str->Bool
 calm:Bool
 pn:List (Addr×Obj)
 xe:Value->Shared->Prop
def frs (l:List Env):List Addr:=l.filterMap (·.frame)
abbrev Cx.fs (X:Cx):List Addr:=frs X.outer
def Vis (sc:Scope) (x:Str):Prop:=sc.names.lookup x=some .local\/sc.names.lookup x=some .cell\/sc.names.lookup x=some .free
def Loc (sc:Scope) (x:Str):Prop:=sc.names.lookup x=some .local\/sc.names.lookup x=some .cell
def Look (env:Env) (h:Heap) (m:Str->Option Value) (x:Str) (u:Value):Prop:=
 (env.kindOf x=some .local/\m x=some u)\/((env.kindOf x=some .cell\/env.kindOf x=some .free)/\∃c,env.cells.lookup x=some c/\h.IsCell c (some u))
structure Cx.Ok (X:Cx):Prop where
 mod:Mod X.K X.mg X.base
 kind:X.env.scope.kind= .function
 glob:X.env.globals=mainGlobals
 blt:X.env.builtins=builtinsNs
 above:X.s₀.heap.objs.size<=X.env.locals
 inj:∀x y c,X.env.cells.lookup x=some c->X.env.cells.lookup y=some c->x=y
 has:∀x,(X.env.kindOf x=some .cell\/X.env.kindOf x=some .free)->∃c,X.env.cells.lookup x=some c
 cab:∀x c,X.fn x=true->X.env.cells.lookup x=some c->X.s₀.heap.objs.size<=c
 hd:X.calm=true->X.A.handled=none
 frames:X.A.frames=some X.stack
 stk:X.stack=X.outer\/(X.stack=X.env::X.outer/\X.env.frame=some X.env.locals)
 exf:∀b∈X.ex,b≠X.env.locals/\∀x c,X.env.cells.lookup x=some c->c≠b
 bs:∀b o,X.base.get? b=some o->X.s₀.heap.get? b=some o/\X.H₀ b=none
 bsz:X.base.objs.size<=X.s₀.heap.objs.size
 noex:∀b o,X.base.get? b=some o->b∉X.ex
 exfs:∀b∈X.ex,b∉X.fs
 funs:X.s₀.heap.FunFrames X.base X.outer
 frf:∀b∈X.fs,X.H₀ b=none
structure Inv (X:Cx) (pins:List (Addr×Obj)) (σ:List (Option V)) (H:Hp) (s:Shared):Prop where
 ok:X.Ok
 os:s.os=X.s₀.os
 bare:AllBare s.gens
 base:Un X.fs X.ex X.H₀ H X.s₀.heap s.heap
 loc:∃m,s.heap.Ns X.env.locals m/\∀(i:Nat) (x:Str) (v:V),X.N[i]?=some x->σ[i]?=some (some v)->Vis X.env.scope x->∃u,RelV v u/\Look X.env s.heap m x u
 cell:∀x c,X.env.cells.lookup x=some c->∃v,s.heap.IsCell c v
 free:H X.env.locals=none
 freeC:∀x c,X.env.cells.lookup x=some c->H c=none
 pin:∀p∈X.pn++pins,s.heap.get? p.1=some p.2/\H p.1=none/\p.1≠X.env.locals/\p.1∉X.fs/\∀v,p.2.data≠.cell v
 hok:HOk X.prog X.w H s.heap
 len:σ.length=X.N.length
section
variable {X:Cx} {pins:List (Addr×Obj)} {σ:List (Option V)} {H H':Hp} {s:Shared} {h':Heap}
theorem Cx.Ok.nofr (ok:X.Ok) {b:Addr} {o:Obj} (e:X.base.get? b=some o):b∉X.fs:=λ hb=>by
 have:=(ok.funs.mem hb).1;rw[e] at this;cases this
theorem Inv.bs (I:Inv X pins σ H s):∀b o,X.base.get? b=some o->s.heap.get? b=some o/\H b=none:=λ b o e=>
 ⟨I.base.keep b o (I.ok.bs b o e).1 (I.ok.bs b o e).2 (I.ok.nofr e) (I.ok.noex b o e),I.base.free b o (I.ok.bs b o e).1 (I.ok.bs b o e).2 (I.ok.noex b o e)⟩
theorem Inv.bk (I:Inv X pins σ H s):∀b o,X.base.get? b=some o->s.heap.get? b=some o:=λ b o e=>(I.bs b o e).1
theorem Inv.mod (I:Inv X pins σ H s):Mod X.K X.mg X.base:=I.ok.mod
theorem Inv.kIn (I:Inv X pins σ H s):X.K.In s.heap:=I.ok.mod.kin.keeps I.bk
theorem Inv.lt (I:Inv X pins σ H s):X.env.locals < s.heap.objs.size:=let ⟨_,hn,_⟩:=I.loc;hn.lt
theorem Inv.sz (I:Inv X pins σ H s):X.s₀.heap.objs.size<=s.heap.objs.size:=z0b I.ok.above (z0e I.lt)
theorem Inv.nofs (I:Inv X pins σ H s) {a:Addr} (h:s.heap.objs.size<=a):a∉X.fs:=λ hb=>by
 obtain⟨_,o,ho,_⟩:=I.ok.funs.mem hb;exact absurd (z0d (z2c ho) (z0b I.sz h)) (Nat.lt_irrefl _)
theorem Inv.cne (I:Inv X pins σ H s):∀x c,X.env.cells.lookup x=some c->c≠X.env.locals:=λ x c e z=>by
 obtain⟨v,o,ho,hd⟩:=I.cell x c e;obtain⟨m,⟨o',es,ep,ho',hd',_⟩,_⟩:=I.loc;rw[z,ho'] at ho;cases ho;rw[hd'] at hd;cases hd
theorem Inv.funs (I:Inv X pins σ H s):s.heap.FunFrames X.base X.outer:=by
 have all:∀(l:List Env),(∀b∈frs l,b∈X.fs)->X.s₀.heap.FunFrames X.base l->s.heap.FunFrames X.base l:=by
  intro l
  induction l with
  |nil=>intro _ _;trivial
  | cons env r ih=>
   intro hs hl;obtain⟨hk,⟨L,o,hf,hn,ho,hd⟩,hr⟩:=hl;have hL:L∈X.fs:=hs L (by unfold frs;rw[List.filterMap_cons,hf];exact List.mem_cons_self);obtain⟨sl,e⟩:=I.base.slot L o ho (I.ok.frf L hL) hL λ z=>I.ok.exfs L z hL;exact⟨hk,⟨L,_,hf,hn,e,hd⟩,ih (λ b hb=>hs b (by unfold frs;rw[List.filterMap_cons,hf];exact z2f _ hb)) hr⟩
 exact all X.outer (λ _ hb=>hb) I.ok.funs
theorem Inv.stack (I:Inv X pins σ H s):s.heap.FunFrames X.base X.stack:=by
 rcases I.ok.stk with e |⟨e,hf⟩
 ·rw[e];exact I.funs
 ·rw[e];obtain⟨m,hn,_⟩:=I.loc;refine .cons (by rw[I.ok.kind];decide) hf hn ?_ I.funs;exact Heap.get?_none_of_le (z0b I.ok.bsz I.ok.above)
theorem Inv.stkSub (I:Inv X pins σ H s):∀b∈frs X.stack,b∈X.env.locals::X.fs:=λ b hb=>by
 rcases I.ok.stk with e |⟨e,hf⟩
 ·rw[e] at hb;exact z2f _ hb
 ·rw[e] at hb;unfold frs at hb;rw[List.filterMap_cons,hf] at hb;exact hb
theorem Inv.stkFree (I:Inv X pins σ H s):∀b∈frs X.stack,H b=none:=λ b hb=>by
 rcases List.mem_cons.mp (I.stkSub b hb) with e |hb
 ·rw[e];exact I.free
 ·obtain⟨_,o,ho,_⟩:=I.ok.funs.mem hb;exact I.base.free b o ho (I.ok.frf b hb) λ z=>I.ok.exfs b z hb
theorem Inv.step {g':Array GenState} {d':Drawn} (I:Inv X pins σ H s)
  (hch:∀b∈ch,(b∈X.ex\/X.s₀.heap.objs.size<=b)/\b≠X.env.locals/\(∀x c,X.env.cells.lookup x=some c->c≠b)/\∀p∈X.pn++pins,p.1≠b)
  (keep:∀b o,b≠X.env.locals->b∉X.fs->b∉ch->s.heap.get? b=some o->H b=none->h'.get? b=some o)
  (slot:∀b o,b≠X.env.locals->b∈X.fs->b∉ch->s.heap.get? b=some o->H b=none->∃sl,h'.get? b=some {o with slots:=sl}) (free:∀b o,b∉ch->s.heap.get? b=some o->H b=none->H' b=none)
  (there:∀b o,b∉ch->s.heap.get? b=some o->∃o',h'.get? b=some o')
  (tups:∀b xs,H b=some (.tup xs)->H' b=some (.tup xs)) (frzs:∀b o u,H b=some (.frz o u)->H' b=some (.frz o u)) (tbls:∀b ps,H b=some (.tbl ps)->∃more,H' b=some (.tbl (ps++more)))
  (ns:∀m,s.heap.Ns X.env.locals m->h'.Ns X.env.locals m) (hok:HOk X.prog X.w H' h') (hg:AllBare g'):
  Inv X pins σ H' {s with heap:=h',gens:=g',drawn:=d',toks:=t'}:=by
 have neL:∀b o,X.s₀.heap.get? b=some o->b≠X.env.locals:=λ b o e=>Nat.ne_of_lt (z0d (z2c e) I.ok.above);have neC:∀b o,X.s₀.heap.get? b=some o->b∉X.ex->b∉ch:=λ b o e hx hb=>by
  rcases (hch b hb).1 with z |z
  ·exact hx z
  ·exact absurd (z0d (z2c e) z) (Nat.lt_irrefl _)
 have cellK:∀x c,X.env.cells.lookup x=some c->∀v,s.heap.IsCell c v->h'.IsCell c v:=λ x c e v ⟨o,ho,hd⟩=>by
  have nch:c∉ch:=λ z=>(hch c z).2.2.1 x c e rfl;by_cases hc:c∈X.fs
  ·obtain⟨sl,q⟩:=slot c o (I.cne x c e) hc nch ho (I.freeC x c e);exact⟨_,q,hd⟩
  ·exact⟨o,keep c o (I.cne x c e) hc nch ho (I.freeC x c e),hd⟩
 refine⟨I.ok,I.os,hg,⟨λ b o e n hb hx=>?_,λ b o e n hb hx=>?_,λ b o e n hx=>?_,λ b o e hx=>?_,λ b xs e=>tups b xs (I.base.tups b xs e),λ b o xs e=>frzs b o xs (I.base.frzs b o xs e),λ b ps e=>?_⟩,?_,λ x c e=>?_,?_,λ x c e=>?_,λ p hp=>?_,hok,I.len⟩
 ·exact keep b o (neL b o e) hb (neC b o e hx) (I.base.keep b o e n hb hx) (I.base.free b o e n hx)
 ·obtain⟨sl,e1⟩:=I.base.slot b o e n hb hx;obtain⟨sl',e2⟩:=slot b _ (neL b o e) hb (neC b o e hx) e1 (I.base.free b o e n hx);exact⟨sl',e2⟩
 ·obtain⟨o',e1⟩:=I.base.there b o e hx;exact free b o' (neC b o e hx) e1 (I.base.free b o e n hx)
 ·obtain⟨o',e1⟩:=I.base.there b o e hx;exact there b o' (neC b o e hx) e1
 ·obtain⟨m1,e1⟩:=I.base.tbls b ps e;obtain⟨m2,e2⟩:=tbls b _ e1;exact⟨m1++m2,by rw[e2,Array.append_assoc]⟩
 ·obtain⟨m,hn,hl⟩:=I.loc;refine⟨m,ns m hn,λ i x v e1 e2 e3=>?_⟩;obtain⟨u,r,l⟩:=hl i x v e1 e2 e3;refine⟨u,r,?_⟩;rcases l with l |⟨k,c,e,z⟩
  ·exact .inl l
  ·exact .inr ⟨k,c,e,cellK x c e _ z⟩
 ·obtain⟨v,z⟩:=I.cell x c e;exact⟨v,cellK x c e v z⟩
 ·obtain⟨m,⟨o,_,_,ho,_⟩,_⟩:=I.loc;exact free _ o (λ z=>(hch _ z).2.1 rfl) ho I.free
 ·obtain⟨v,o,ho,hd⟩:=I.cell x c e;exact free c o (λ z=>(hch c z).2.2.1 x c e rfl) ho (I.freeC x c e)
 ·obtain⟨e,n,ne,nf,d⟩:=I.pin p hp;have nch:p.1∉ch:=λ z=>(hch p.1 z).2.2.2 p hp rfl;exact⟨keep p.1 p.2 ne nf nch e n,free p.1 p.2 nch e n,ne,nf,d⟩
theorem Inv.un (I:Inv X pins σ H s) (u:Un X.fs [] H H' s.heap h') (hok:HOk X.prog X.w H' h'):Inv X pins σ H' {s with heap:=h',toks:=t'}:=by
 obtain⟨m,⟨o,es,ep,ho,r⟩,_⟩:=id I.loc;obtain⟨sl,hL⟩:=u.any ho I.free (by simp);exact I.step (g':=s.gens) (d':=s.drawn) (ch:=[]) (λ _ z=>nomatch z) (λ b o _ hb _ e n=>u.keep b o e n hb (by simp)) (λ b o _ hb _ e n=>u.slot b o e n hb (by simp)) (λ b o _ e n=>u.free b o e n (by simp)) (λ b o _ e=>u.there b o e (by simp)) u.tups u.frzs u.tbls (λ m' hm=>by
  obtain⟨o',es',ep',ho',r'⟩:=hm;rw[ho] at ho';cases ho';exact⟨_,es',ep',hL,r'⟩) hok I.bare
theorem Inv.call {g':Array GenState} {d':Drawn} (I:Inv X pins σ H s) (u:Un (frs X.stack) ch H H' s.heap h') (hok:HOk X.prog X.w H' h') (hg:AllBare g')
  (hch:∀b∈ch,(b∈X.ex\/X.s₀.heap.objs.size<=b)/\b≠X.env.locals/\(∀x c,X.env.cells.lookup x=some c->c≠b)/\∀p∈X.pn++pins,p.1≠b):
  Inv X pins σ H' {s with heap:=h',gens:=g',drawn:=d',toks:=t'}:=by
 obtain⟨m,⟨o,es,ep,ho,r⟩,_⟩:=id I.loc;obtain⟨sl,hL⟩:=u.any ho I.free λ z=>(hch _ z).2.1 rfl;exact I.step (ch:=ch) hch (λ b o hL hb hc e n=>u.keep b o e n (λ z=>(List.mem_cons.mp (I.stkSub b z)).elim hL hb) hc) (λ b o _ _ hc e n=>u.any e n hc) (λ b o hc e n=>u.free b o e n hc) (λ b o hc e=>u.there b o e hc) u.tups u.frzs u.tbls (λ m' hm=>by
  obtain⟨o',es',ep',ho',r'⟩:=hm;rw[ho] at ho';cases ho';exact⟨_,es',ep',hL,r'⟩) hok hg
theorem Inv.turned {it:Addr} (I:Inv X pins σ H s) (k:∀b o,b≠it->s.heap.get? b=some o->h'.get? b=some o) (hn:H it=none) (hL:it≠X.env.locals)
  (h1:it∈X.ex\/X.s₀.heap.objs.size<=it) (h2:∀x c,X.env.cells.lookup x=some c->c≠it) (h3:∀p∈X.pn++pins,p.1≠it):Inv X pins σ H {s with heap:=h',toks:=t'}:=by
 have nit:∀b u,H b=some u->b≠it:=λ b u e z=>by rw[z,hn] at e;cases e
 refine I.step (g':=s.gens) (d':=s.drawn) (ch:=[it]) (λ b hb=>?_) (λ b o _ _ hc e _=>k b o (λ z=>hc (by simp[z])) e) (λ b o _ _ hc e _=>⟨o.slots,k b o (λ z=>hc (by simp[z])) e⟩) (λ _ _ _ _ n=>n)
  (λ b o hc e=>⟨o,k b o (λ z=>hc (by simp[z])) e⟩) (λ _ _ e=>e) (λ _ _ _ e=>e) (λ b ps e=>⟨#[],by rw[e];simp⟩) (λ m hm=>?_) (λ b u e=>?_) I.bare
 ·have e:b=it:=by simpa using hb
  subst e;exact⟨h1,hL,h2,h3⟩
 ·obtain⟨o,es,ep,ho,r⟩:=hm;exact⟨o,es,ep,k _ o (Ne.symm hL) ho,r⟩
 ·refine (I.hok b u e).stay (λ c v hc q=>k c v ?_ q) (λ _ q=>q) (λ _ _ q=>q) λ _ _ _ _ q=>q;rcases hc with z |z
  ·rw[z];exact nit b u e
  ·exact nit c _ z
theorem Inv.tok (I:Inv X pins σ H s) (t:Nat):Inv X pins σ H {s with toks:=t}:=I.un (h':=s.heap) (t':=t) Un.refl I.hok
theorem Inv.kept (I:Inv X pins σ H s) (k:∀b u,s.heap.get? b=some u->h'.get? b=some u):Inv X pins σ H {s with heap:=h',toks:=t'}:=I.un (Un.kept k) (I.hok.kept k)
theorem Inv.laid {a:Addr} (I:Inv X pins σ H s) (k:∀b u,s.heap.get? b=some u->h'.get? b=some u) (hp:s.heap.objs.size<=a) (new:ObjOk X.prog X.w (upd H a o) h' a o):
  Inv X pins σ (upd H a o) {s with heap:=h',toks:=t'}:=I.un (Un.laid k hp (I.hok.fresh hp)) (I.hok.laid k hp new)
theorem Inv.write {x e:Addr} (I:Inv X pins σ H s) (mu:Mut (H x)) (he:e=x\/H e=some (.own x)) (k:∀b u,b≠e->s.heap.get? b=some u->h'.get? b=some u) (heo:∃u,h'.get? e=some u)
  (new:ObjOk X.prog X.w (upd H x o) h' x o):Inv X pins σ (upd H x o) {s with heap:=h',toks:=t'}:=I.un (Un.write mu he k heo) (I.hok.write mu he k heo new)
theorem Inv.pins_of {pins':List (Addr×Obj)} (I:Inv X pins σ H s) (h:∀p∈pins',s.heap.get? p.1=some p.2/\H p.1=none/\p.1≠X.env.locals/\p.1∉X.fs/\∀v,p.2.data≠.cell v):Inv X pins' σ H s:=
 ⟨I.ok,I.os,I.bare,I.base,I.loc,I.cell,I.free,I.freeC,λ p hp=>(List.mem_append.mp hp).elim (λ z=>I.pin p (List.mem_append_left _ z)) (h p),I.hok,I.len⟩
theorem nodup_ix (hN:N.Nodup) {i j:Nat} {x:Str} (a:N[i]?=some x) (b:N[j]?=some x):i=j:=by
 obtain⟨h1,e1⟩:=z1b a;obtain⟨h2,e2⟩:=z1b b;exact (List.getElem_inj hN).mp (e1.trans e2.symm)
theorem store_ok2 {i:Nat} {x:Str} {v:V} {u:Value} (I:Inv X pins σ H s) (hN:X.N.Nodup) (hi:X.N[i]?=some x) (hx:Loc X.env.scope x) (r:RelV v u)
  (h:∀s',Inv X pins (σ.set i (some v)) H s'->(∃a,Heap.SameBut a s.heap s'.heap/\(a=X.env.locals\/X.env.cells.lookup x=some a))->Q () s') (hf:X.fn x=true\/X.env.scope.names.lookup x=some .local:=by first |exact .inl rfl |exact .inr rfl |assumption):wpAny M A (storeName X.env x u) Q E s:=by
 obtain⟨m,hn,hl⟩:=id I.loc;have hcls:(X.env.scope.kind == .class || (X.env.scope.kind == .module && X.env.locals !=X.env.globals))=false:=by rw[I.ok.kind];rfl
 have hiσ:i < σ.length:=by rw[I.len];exact (z1b hi).1
 have cne:=I.cne;have tracked:∀{a:Addr} {h':Heap},(∃o,s.heap.get? a=some o/\H a=none)->Heap.SameBut a s.heap h'->HOk X.prog X.w H h':=λ {a h'} ha hs b ob e=>by
  obtain⟨_,_,hfree⟩:=ha;refine (I.hok b ob e).stay (λ c w' hc q=>(hs.2 c ?_).trans q) (λ _ q=>q) (λ _ _ q=>q) λ _ _ _ _ q=>q
  rintro rfl
  rcases hc with rfl |hc
  ·rw[hfree] at e;cases e
  ·rw[hfree] at hc;cases hc
 rcases hx with hk |hk
 ·refine wpAny_storeName_local hk hn (λ h' hn' hs=>?_) hcls;obtain⟨oL,_,_,hoL,_⟩:=id hn;refine h _ ⟨I.ok,I.os,I.bare,⟨λ b o e n hb hx=>?_,λ b o e n hb hx=>?_,I.base.free,λ b o e hx=>?_,I.base.tups,I.base.frzs,I.base.tbls⟩,⟨_,hn',λ j y v' e1 e2 e3=>?_⟩,λ y c e=>?_,I.free,I.freeC,λ p hp=>?_,tracked ⟨oL,hoL,I.free⟩ hs,by simpa using I.len⟩ ⟨_,hs,.inl rfl⟩
  ·exact (hs.2 b (Nat.ne_of_lt (z0d (z2c e) I.ok.above))).trans (I.base.keep b o e n hb hx)
  ·obtain⟨sl,e1⟩:=I.base.slot b o e n hb hx;exact⟨sl,(hs.2 b (Nat.ne_of_lt (z0d (z2c e) I.ok.above))).trans e1⟩
  ·obtain⟨o',e1⟩:=I.base.there b o e hx;exact⟨o',(hs.2 b (Nat.ne_of_lt (z0d (z2c e) I.ok.above))).trans e1⟩
  ·by_cases hj:j=i
   ·subst hj;rw[hi] at e1;cases e1;rw[z2a hiσ] at e2;cases e2;exact⟨u,r,.inl ⟨hk,by simp⟩⟩
   ·rw[z1e (Ne.symm hj)] at e2;obtain⟨u',r',q⟩:=hl j y v' e1 e2 e3;refine⟨u',r',?_⟩;rcases q with⟨k,e⟩ |⟨k,c,e,z⟩
    ·refine .inl ⟨k,?_⟩;have:y≠x:=λ e=>hj (nodup_ix hN e1 (e▸hi));simp[this,e]
    ·exact .inr ⟨k,c,e,z.sameBut hs (cne y c e)⟩
  ·obtain⟨w',z⟩:=I.cell y c e;exact⟨w',z.sameBut hs (cne y c e)⟩
  ·obtain⟨e,n,ne,nf,d⟩:=I.pin p hp;exact⟨(hs.2 p.1 ne).trans e,n,ne,nf,d⟩
 ·have hfn:X.fn x=true:=by
   rcases hf with z |z
   ·exact z
   ·rw[z] at hk;cases hk
  obtain⟨c,hc⟩:=I.ok.has x (.inl hk);obtain⟨w',z⟩:=I.cell x c hc;refine wpAny_storeName_cell I.ok.kind hk hc z (λ h' hc' hs=>?_);obtain⟨oc,hoc,hocd⟩:=id z;refine h {s with heap:=h'} ⟨I.ok,I.os,I.bare,⟨λ b o e n hb hx=>?_,λ b o e n hb hx=>?_,I.base.free,λ b o e hx=>?_,I.base.tups,I.base.frzs,I.base.tbls⟩,⟨m,hn.sameBut hs (Ne.symm (cne x c hc)),λ j y v' e1 e2 e3=>?_⟩,λ y c' e=>?_,I.free,I.freeC,λ p hp=>?_,tracked ⟨oc,hoc,I.freeC x c hc⟩ hs,by simpa using I.len⟩ ⟨c,hs,.inr hc⟩
  ·exact (hs.2 b (Nat.ne_of_lt (z0d (z2c e) (I.ok.cab x c hfn hc)))).trans (I.base.keep b o e n hb hx)
  ·obtain⟨sl,e1⟩:=I.base.slot b o e n hb hx;exact⟨sl,(hs.2 b (Nat.ne_of_lt (z0d (z2c e) (I.ok.cab x c hfn hc)))).trans e1⟩
  ·obtain⟨o',e1⟩:=I.base.there b o e hx;exact⟨o',(hs.2 b (Nat.ne_of_lt (z0d (z2c e) (I.ok.cab x c hfn hc)))).trans e1⟩
  ·by_cases hj:j=i
   ·subst hj;rw[hi] at e1;cases e1;rw[z2a hiσ] at e2;cases e2;exact⟨u,r,.inr ⟨.inl hk,c,hc,hc'⟩⟩
   ·rw[z1e (Ne.symm hj)] at e2;obtain⟨u',r',q⟩:=hl j y v' e1 e2 e3;refine⟨u',r',?_⟩;rcases q with q |⟨k,c',e,z'⟩
    ·exact .inl q
    ·refine .inr ⟨k,c',e,z'.sameBut hs ?_⟩
     rintro rfl
     exact hj (nodup_ix hN e1 (I.ok.inj _ _ _ e hc▸hi))
  ·by_cases hcc:c'=c
   ·subst hcc;exact⟨_,hc'⟩
   ·obtain⟨w2,z2⟩:=I.cell y c' e;exact⟨w2,z2.sameBut hs hcc⟩
  ·obtain⟨e,n,ne,nf,d⟩:=I.pin p hp;refine⟨(hs.2 p.1 ?_).trans e,n,ne,nf,d⟩;intro q;rw[q,hoc] at e;have q':oc=p.2:=Option.some.inj e;exact d w' (by rw[<-q'];exact hocd)
theorem store_ok {i:Nat} {x:Str} {v:V} {u:Value} (I:Inv X pins σ H s) (hN:X.N.Nodup) (hi:X.N[i]?=some x) (hx:Loc X.env.scope x) (r:RelV v u)
  (h:∀s',Inv X pins (σ.set i (some v)) H s'->Q () s') (hf:X.fn x=true\/X.env.scope.names.lookup x=some .local:=by first |exact .inl rfl |exact .inr rfl |assumption):wpAny M A (storeName X.env x u) Q E s:=
 store_ok2 I hN hi hx r (λ s' I' _=>h s' I') hf
theorem Inv.call' {s':Shared} (I:Inv X pins σ H s) (ho:s'.os=s.os) (u:Un (frs X.stack) ch H H' s.heap s'.heap) (hok:HOk X.prog X.w H' s'.heap) (hg:AllBare s'.gens)
  (hch:∀b∈ch,(b∈X.ex\/X.s₀.heap.objs.size<=b)/\b≠X.env.locals/\(∀x c,X.env.cells.lookup x=some c->c≠b)/\∀p∈X.pn++pins,p.1≠b):Inv X pins σ H' s':=by
 obtain⟨h',g',d',t',o'⟩:=s';have e:o'=s.os:=ho;subst e;exact I.call (g':=g') (t':=t') (d':=d') u hok hg hch
end
abbrev XK:=Value->Option Addr->Hp->Prop
abbrev St:=List (Option V)
abbrev VK:=V->Hp->Prop
abbrev TE:=St->Hp->VK->Prop
abbrev TT:=St->Hp->(Bool->Hp->Prop)->Prop
abbrev TA:=St->Hp->(List V->Hp->Prop)->Prop
structure Ends where
 nx:St->Hp->Prop
 rt:VK
 bk:St->Hp->Prop:=λ _ _=>False
 ct:St->Hp->Prop:=λ _ _=>False
abbrev TS:=Ends->St->Hp->Prop
inductive EP (X:Cx) (pins:List (Addr×Obj)) (σ:St) (Q:VK) (u:Value) (s':Shared):Prop
 |mk (v:V) (H':Hp) (I:Inv X pins σ H' s') (r:RelV v u) (q:Q v H'):EP X pins σ Q u s'
inductive TP (X:Cx) (pins:List (Addr×Obj)) (σ:St) (Q:Bool->Hp->Prop) (b:Bool) (s':Shared):Prop
 |mk (H':Hp) (I:Inv X pins σ H' s') (q:Q b H'):TP X pins σ Q b s'
inductive AP (X:Cx) (pins:List (Addr×Obj)) (σ:St) (Q:List V->Hp->Prop) (us:List Value) (s':Shared):Prop
 |mk (vs:List V) (H':Hp) (I:Inv X pins σ H' s') (r:Vals vs us) (q:Q vs H'):AP X pins σ Q us s'
inductive Ru (X:Cx) (pins:List (Addr×Obj)) (D:St->Hp->Prop) (s':Shared):Prop
 |mk (σ':St) (H':Hp) (I:Inv X pins σ' H' s') (d:D σ' H'):Ru X pins D s'
inductive SPr (X:Cx) (pins:List (Addr×Obj)) (D:V->Hp->Prop) (u:Value) (s':Shared):Prop
 |mk (v:V) (σ':St) (H':Hp) (I:Inv X pins σ' H' s') (r:RelV v u) (d:D v H'):SPr X pins D u s'
def SP (X:Cx) (pins:List (Addr×Obj)) (D:Ends) (f:Flow) (s':Shared):Prop:=
 match f with
 | .next=>Ru X pins D.nx s'
 | .brk=>Ru X pins D.bk s'
 | .cont=>Ru X pins D.ct s'
 | .ret u=>SPr X pins D.rt u s'
def PE (X:Cx) (e:Expr) (t:TE):Prop:=
 ∀(pins:List (Addr×Obj)) (s:Shared) (σ:St) (H:Hp) (Q:VK),Inv X pins σ H s->t σ H Q->wpAny (model X.prog X.w) X.A (eval e X.env) (EP X pins σ Q) X.xe s
def PT (X:Cx) (e:Expr) (t:TT):Prop:=
 ∀(pins:List (Addr×Obj)) (s:Shared) (σ:St) (H:Hp) (Q:Bool->Hp->Prop),Inv X pins σ H s->t σ H Q->wpAny (model X.prog X.w) X.A (isTrue e X.env (eval e X.env)) (TP X pins σ Q) X.xe s
def PW (X:Cx) (e:Expr) (t:TT):Prop:=
 ∀(whole:Sem Value) (pins:List (Addr×Obj)) (s:Shared) (σ:St) (H:Hp) (Q:Bool->Hp->Prop),Inv X pins σ H s->t σ H Q->wpAny (model X.prog X.w) X.A (isTrue e X.env whole) (TP X pins σ Q) X.xe s
def PA (X:Cx) (es:List Expr) (t:TA):Prop:=
 ∀(pos:Pos) (pins:List (Addr×Obj)) (s:Shared) (σ:St) (H:Hp) (Q:List V->Hp->Prop),Inv X pins σ H s->t σ H Q->wpAny (model X.prog X.w) X.A (spliced (backTo pos (starEach es X.env))) (AP X pins σ Q) X.xe s
def PS (X:Cx) (st:Stmt) (t:TS):Prop:=
 ∀(pins:List (Addr×Obj)) (s:Shared) (σ:St) (H:Hp) (D:Ends),Inv X pins σ H s->t D σ H->wpAny (model X.prog X.w) X.A (exec st X.env) (SP X pins D) X.xe s
def PSs (X:Cx) (st:List Stmt) (t:TS):Prop:=
 ∀(pins:List (Addr×Obj)) (s:Shared) (σ:St) (H:Hp) (D:Ends),Inv X pins σ H s->t D σ H->wpAny (model X.prog X.w) X.A (execs st X.env) (SP X pins D) X.xe s
theorem thn {α:Type} {t:Sem α} {Q Q':α->Shared->Prop} (h:wpAny M A t Q E s) (hQ:∀a s,Q a s->Q' a s):wpAny M A t Q' E s:=wpAny_mono h hQ λ _ _ x=>x
section
variable {X:Cx}
theorem bin {a b:Expr} {ta tb:TE} (ha:PE X a ta) (hb:PE X b tb) {R:V->V->Hp->Prop} (I:Inv X pins σ H s) (h:ta σ H λ x H1=>tb σ H1 λ y H2=>R x y H2)
  {α:Type} {Q:α->Shared->Prop} {f:Value->Value->Sem α}
  (hf:∀v u s2 x y H2,Inv X pins σ H2 s2->RelV x v->RelV y u->R x y H2->wpAny (model X.prog X.w) X.A (f v u) Q X.xe s2):
  wpAny (model X.prog X.w) X.A (eval a X.env) (λ v s₁=>wpAny (model X.prog X.w) X.A (eval b X.env) (λ u s₂=>wpAny (model X.prog X.w) X.A (f v u) Q X.xe s₂) X.xe s₁) X.xe s:=by
 refine thn (ha pins s σ H _ I h) λ v s1 bH=>?_;obtain⟨x,H1,I1,r1,q1⟩:=bH;refine thn (hb pins s1 σ H1 _ I1 q1) λ u s2 bH=>?_;obtain⟨y,H2,I2,r2,q2⟩:=bH;exact hf v u s2 x y H2 I2 r1 r2 q2
def tVar (i:Nat):TE:=λ σ H Q=>∃v,σ[i]?=some (some v)/\Q v H
def tC (v:V):TE:=λ _ H Q=>Q v H
theorem pe_var {i:Nat} {x:Str} {pos:Pos} (hN:X.N[i]?=some x) (hv:Vis X.env.scope x) (hd:(x ==("__debug__" :Str))=false:=by decide) (hcd:(x ==("__classdict__" :Str))=false:=by decide):PE X (.Name x pos) (tVar i):=by
 intro pins s σ H Q I h;obtain⟨v,e,h⟩:=h;obtain⟨m,hn,hl⟩:=I.loc;obtain⟨u,r,l⟩:=hl i x v hN e hv;have fin:EP X pins σ Q u s:=⟨v,H,I,r,h⟩;rcases l with⟨hk,hm⟩ |⟨hk,c,hc,hcell⟩
 ·exact wpAny_Name (wpAny_loadName_local I.ok.kind hk hn hm fin) hd
 ·rcases hk with hk |hk
  ·exact wpAny_Name (wpAny_loadName_cell I.ok.kind hk hc hcell fin) hd
  ·exact wpAny_Name (wpAny_loadName_free I.ok.kind hk hc hcell fin hcd) hd
theorem pe_int {i j pos}:PE X (.Constant (.int i) j pos) (tC (.int i)):=λ _ _ _ H _ I h=>wpAny_Constant_int ⟨.int i,H,I.tok _,⟨_,rfl⟩,h⟩
theorem pe_bl {b j pos}:PE X (.Constant (.bool b) j pos) (tC (.bl b)):=λ _ _ _ H _ I h=>Constant_bool ⟨.bl b,H,I,rfl,h⟩
theorem pe_non {j pos}:PE X (.Constant .none j pos) (tC .non):=λ _ _ _ H _ I h=>Constant_none ⟨.non,H,I,rfl,h⟩
theorem pe_str {x j pos}:PE X (.Constant (.str x) j pos) (tC (.str x)):=λ _ _ _ H _ I h=>Calls.Constant_str ⟨.str x,H,I.tok _,⟨_,rfl⟩,h⟩
def Gl (X:Cx) (x:Str):Prop:=X.env.kindOf x=some .globalImplicit
theorem ld_glob {x:Str} {u:Value} {pos:Pos} {Q:Value->Shared->Prop} (I:Inv X pins σ H s) (hg:Gl X x) (hm:X.mg x=some u) (h:Q u s)
  (hd:(x ==("__debug__" :Str))=false:=by decide):wpAny (model X.prog X.w) X.A (eval (.Name x pos) X.env) Q E s:=
 Calls.Name_function_global I.ok.kind hg (Calls.loadGlobal_global (by rw[I.ok.glob];exact I.mod.glob.keeps I.bk) hm h) hd
theorem ld_blt {x:Str} {u:Value} {pos:Pos} {Q:Value->Shared->Prop} (I:Inv X pins σ H s) (hg:Gl X x) (hm:X.mg x=none) (hv:bootBuiltins x=some u) (h:Q u s)
  (hn:x≠"__name__" :=by decide) (hd:(x ==("__debug__" :Str))=false:=by decide):wpAny (model X.prog X.w) X.A (eval (.Name x pos) X.env) Q E s:=by
 obtain⟨mb,h1,h2⟩:=I.mod.blt;exact Calls.Name_function_global I.ok.kind hg (Calls.loadGlobal_builtin (by rw[I.ok.glob];exact I.mod.glob.keeps I.bk) hm (by rw[I.ok.blt];exact h1.keeps I.bk) ((h2 x hn).trans hv) h) hd
theorem pe_glob {x:Str} {v:V} {u:Value} {pos:Pos} (hg:Gl X x) (hm:X.mg x=some u) (r:RelV v u) (hd:(x ==("__debug__" :Str))=false:=by decide):PE X (.Name x pos) (tC v):=
 λ _ _ _ H _ I h=>ld_glob I hg hm ⟨v,H,I,r,h⟩ hd
theorem pe_bltn {x:Str} {v:V} {u:Value} {pos:Pos} (hg:Gl X x) (hm:X.mg x=none) (hv:bootBuiltins x=some u) (r:RelV v u) (hn:x≠"__name__" :=by decide) (hd:(x ==("__debug__" :Str))=false:=by decide):PE X (.Name x pos) (tC v):=
 λ _ _ _ H _ I h=>ld_blt I hg hm hv ⟨v,H,I,r,h⟩ hn hd
variable {a b:Expr} {ta tb:TE} {pos:Pos}
def PC (X:Cx) (op:CmpOp) (a b:Expr) (t:TE):Prop:=
 ∀ (pins:List (Addr×Obj)) (s:Shared) (σ:St) (H:Hp) (Q:VK),Inv X pins σ H s->t σ H Q->
  wpAny (model X.prog X.w) X.A (eval a X.env) (λ v s₁=>wpAny (model X.prog X.w) X.A (eval b X.env) (λ u s₂=>wpAny (model X.prog X.w) X.A (compareOp op v u) (EP X pins σ Q) X.xe s₂) X.xe s₁) X.xe s
theorem nobehind (b:Expr) {op:CmpOp} (h:op≠.In) (h2:op≠.NotIn):behindInMarks op b=false:=by
 have e1:(op ==CmpOp.In)=false:=by cases op <;> first |rfl |exact absurd rfl h
 have e2:(op ==CmpOp.NotIn)=false:=by cases op <;> first |rfl |exact absurd rfl h2
 cases b <;> simp[behindInMarks,e1,e2]
def tB (t:TE):TT:=λ σ H Q=>t σ H λ x H1=>∃c,x= .bl c/\Q c H1
theorem pt_cmp {op:CmpOp} {t:TE} (h:PC X op a b t) (h1:behindInMarks op b=false:=by first |exact nobehind _ (by decide) (by decide) |rfl):PT X (.Compare a [op] [b] pos) (tB t):=by
 intro pins s σ H Q I hw;refine wpAny_isTrue_Compare1 (thn (h pins s σ H _ I hw) λ v s1 h1=>thn h1 λ u s2 h2=>thn h2 λ c s3 ⟨x,H1,I1,r1,q1⟩=>?_) h1;obtain⟨d,rfl,q⟩:=q1;cases r1;exact wpAny_truthy_bool ⟨H1,I1,q⟩
theorem pt_val {t:TE} (h:PE X e t) (he:∀whole,isTrue e X.env whole=(do let v <-whole;standAt e.pos;holding [v] (truthy v)):=by intro _;rfl):PT X e (tB t):=by
 intro pins s σ H Q I hw;refine isTrue_plain (thn (h pins s σ H _ I hw) λ v s1 ⟨x,H1,I1,r1,q1⟩=>?_) (he _);obtain⟨d,rfl,q⟩:=q1;cases r1;exact wpAny_truthy_bool ⟨H1,I1,q⟩
variable {tA tB':TT} {rest:List Expr}
def tAnd (t u:TT):TT:=λ σ H Q=>t σ H λ c H1=>if c=true then u σ H1 Q else Q false H1
def tOr (t u:TT):TT:=λ σ H Q=>t σ H λ c H1=>if c=true then Q true H1 else u σ H1 Q
def tNot (t:TT):TT:=λ σ H Q=>t σ H λ c H1=>Q (!c) H1
theorem pw_and1 (ha:PT X a tA):PW X (.BoolOp .And [a] pos) tA:=by
 intro wh pins s σ H Q I h;refine isTrue_and (thn (ha pins s σ H Q I h) λ c s1 e=>?_);cases c with
 |true=>exact isTrue_and_nil e
 |false=>exact e
theorem pw_or1 (ha:PT X a tA):PW X (.BoolOp .Or [a] pos) tA:=by
 intro wh pins s σ H Q I h;refine isTrue_or (thn (ha pins s σ H Q I h) λ c s1 e=>?_);cases c with
 |false=>exact isTrue_or_nil e
 |true=>exact e
theorem pw_and (ha:PT X a tA) (hb:PW X (.BoolOp .And (b::rest) pos) tB'):PW X (.BoolOp .And (a::b::rest) pos) (tAnd tA tB'):=by
 intro wh pins s σ H Q I h;refine isTrue_and (thn (ha pins s σ H _ I h) λ c s1 bH=>?_);obtain⟨H1,I1,q1⟩:=bH;cases c with
 |true=>exact hb wh pins s1 σ H1 Q I1 q1
 |false=>exact⟨H1,I1,q1⟩
theorem pw_or (ha:PT X a tA) (hb:PW X (.BoolOp .Or (b::rest) pos) tB'):PW X (.BoolOp .Or (a::b::rest) pos) (tOr tA tB'):=by
 intro wh pins s σ H Q I h;refine isTrue_or (thn (ha pins s σ H _ I h) λ c s1 bH=>?_);obtain⟨H1,I1,q1⟩:=bH;cases c with
 |true=>exact⟨H1,I1,q1⟩
 |false=>exact hb wh pins s1 σ H1 Q I1 q1
theorem pt_not (ha:PT X a tA):PT X (.UnaryOp .Not a pos) (tNot tA):=by
 intro pins s σ H Q I h;refine isTrue_not (thn (ha pins s σ H (λ c H1=>Q (!c) H1) I h) λ c s1 hz=>?_);obtain⟨H1,I1,q1⟩:=hz;exact⟨H1,I1,q1⟩
def tAndV (ta tb:TE):TE:=λ σ H Q=>ta σ H λ x H1=>∃c,x= .bl c/\if c=true then tb σ H1 Q else Q (.bl false) H1
def tNotV (ta:TE):TE:=λ σ H Q=>ta σ H λ x H1=>∃c,x= .bl c/\Q (.bl (!c)) H1
theorem pe_one {op} {t:TE} (h:PE X a t):PE X (.BoolOp op [a] pos) t:=λ pins s σ H Q I hw=>BoolOp_one (h pins s σ H Q I hw)
theorem pe_and (ha:PE X a ta) (hb:PE X (.BoolOp .And (b::rest) pos) tb):PE X (.BoolOp .And (a::b::rest) pos) (tAndV ta tb):=by
 intro pins s σ H Q I h;refine BoolOp_and (thn (ha pins s σ H _ I h) λ v s1 bH=>?_);obtain⟨x,H1,I1,r1,q1⟩:=bH;obtain⟨c,rfl,q1⟩:=q1;cases r1;refine wpAny_truthy_bool ?_;cases c with
 |true=>exact hb pins s1 σ H1 Q I1 q1
 |false=>exact⟨.bl false,H1,I1,rfl,q1⟩
theorem pe_not (ha:PE X a ta):PE X (.UnaryOp .Not a pos) (tNotV ta):=by
 intro pins s σ H Q I h;refine UnaryOp_ (thn (ha pins s σ H _ I h) λ v s1 bH=>?_);obtain⟨x,H1,I1,r1,q1⟩:=bH;obtain⟨c,rfl,q1⟩:=q1;cases r1;exact not_of (wpAny_truthy_bool ⟨.bl (!c),H1,I1,rfl,q1⟩)
def tIf (t:TT) (ta tb:TE):TE:=λ σ H Q=>t σ H λ c H1=>if c=true then ta σ H1 Q else tb σ H1 Q
theorem pe_ifExp {c:Expr} (hc:PT X c tA) (ha:PE X a ta) (hb:PE X b tb):PE X (.IfExp c a b pos) (tIf tA ta tb):=by
 intro pins s σ H Q I h;refine wpAny_IfExp (thn (hc pins s σ H _ I h) λ d s1 bH=>?_);obtain⟨H1,I1,q1⟩:=bH;cases d with
 |true=>exact ha pins s1 σ H1 Q I1 q1
 |false=>exact hb pins s1 σ H1 Q I1 q1
end
def SqL (K:PySem.W.Frag) (H:Hp) (a:Addr) (xs:List V):Prop:=
 Rd H a (.lst xs)\/
  ∃(o:Obj) (its:Array Value) (n:Nat),K.lookup a=some o/\o.cls= .type "list"/\o.dict=none/\o.data= .seq its n/\its.size<=sizeLine/\Vals xs its.toList
def SqT (K:PySem.W.Frag) (H:Hp) (a:Addr) (xs:List V):Prop:=
 Rd H a (.tup xs)\/
  ∃(o:Obj) (its:Array Value) (n:Nat),K.lookup a=some o/\o.cls= .type "tuple"/\o.data= .seq its n/\its.size<=sizeLine/\Vals xs its.toList
def absV:Value->Option V
 | .none=>some .non
 | .bool b=>some (.bl b)
 | .int i _=>some (.int i)
 | .str x _=>some (.str x)
 | .bytes b _=>some (.byt b)
 | .float b _=>some (.flt b)
 | .ref a=>some (.ref a)
 | .type n=>some (.ty n)
 |_=>none
theorem RelV.abs {x:V} {u:Value} (r:RelV x u):absV u=some x:=by
 cases x with
 |non=>cases r;rfl
 |bl _=>cases r;rfl
 |int _=>obtain⟨t,rfl⟩:=r;rfl
 |str _=>obtain⟨t,rfl⟩:=r;rfl
 |byt _=>obtain⟨t,rfl⟩:=r;rfl
 |flt _=>obtain⟨t,rfl⟩:=r;rfl
 |ref _=>cases r;rfl
 |ty _=>cases r;rfl
theorem RelV.inj {x y:V} {u:Value} (r:RelV x u) (q:RelV y u):x=y:=Option.some.inj (r.abs.symm.trans q.abs)
theorem Vals.inj:∀{xs ys:List V} {us:List Value},Vals xs us->Vals ys us->xs=ys
 :=by
 intro xs ys us h
 induction h generalizing ys with
 |nil=>intro q;cases q;rfl
 |cons r t ih=>intro q;cases q with |cons r' t'=>rw[r.inj r',ih t']
section
variable {X:Cx} {pins:List (Addr×Obj)} {σ:St} {H:Hp} {s:Shared} {a:Addr} {xs ys:List V}
theorem SqL.of (h:H a=some (.lst xs)):SqL K H a xs:= .inl (.inl h)
theorem SqT.of (h:H a=some (.tup xs)):SqT K H a xs:= .inl (.inl h)
theorem Inv.list (I:Inv X pins σ H s) (h:SqL X.K H a xs):∃its:List Value,Vals xs its/\PlainL s.heap a its.toArray/\xs.length<=sizeLine:=by
 rcases h with h |⟨o,its,n,hk,hc,hd,hs,hz,r⟩
 ·obtain⟨z,its,n,r,e⟩:=h.ok I.hok;exact⟨its,r,⟨_,n,e,rfl,rfl,rfl⟩,z⟩
 ·refine⟨its.toList,r,⟨o,n,I.kIn a o hk,hc,hd,by simpa using hs⟩,?_⟩;have e:=r.length;simp only[Array.length_toList] at e;omega
theorem Inv.tuple (I:Inv X pins σ H s) (h:SqT X.K H a xs):∃its:List Value,Vals xs its/\IsTup s.heap a its.toArray/\xs.length<=sizeLine:=by
 rcases h with h |⟨o,its,n,hk,hc,hs,hz,r⟩
 ·obtain⟨z,its,r,p⟩:=h.ok I.hok;exact⟨its,r,p,z⟩
 ·refine⟨its.toList,r,⟨o,I.kIn a o hk,hc,n,by simpa using hs⟩,?_⟩;have e:=r.length;simp only[Array.length_toList] at e;omega
theorem Inv.list_inj (I:Inv X pins σ H s) (h:SqL X.K H a xs) (h':SqL X.K H a ys):xs=ys:=by
 obtain⟨its,r,⟨o,n,e,_,_,d⟩,_⟩:=I.list h;obtain⟨its',r',⟨o',n',e',_,_,d'⟩,_⟩:=I.list h';rw[e] at e';cases e';rw[d] at d';injection d' with d1 _;have:its=its':=by simpa using congrArg Array.toList d1
 subst this;exact r.inj r'
theorem Inv.tuple_inj (I:Inv X pins σ H s) (h:SqT X.K H a xs) (h':SqT X.K H a ys):xs=ys:=by
 obtain⟨its,r,⟨o,e,_,n,d⟩,_⟩:=I.tuple h;obtain⟨its',r',⟨o',e',_,n',d'⟩,_⟩:=I.tuple h';rw[e] at e';cases e';rw[d] at d';injection d' with d1 _;have:its=its':=by simpa using congrArg Array.toList d1
 subst this;exact r.inj r'
end
abbrev Cx.wish (X:Cx) (E:Value->Shared->Prop):Cx:={X with xe:=E}
abbrev Cx.nox (X:Cx):Cx:=X.wish λ _ _=>False
theorem Cx.Ok.wish {X:Cx} (ok:X.Ok) (E:Value->Shared->Prop):(X.wish E).Ok:=
 ⟨ok.mod,ok.kind,ok.glob,ok.blt,ok.above,ok.inj,ok.has,ok.cab,ok.hd,ok.frames,ok.stk,ok.exf,ok.bs,ok.bsz,ok.noex,ok.exfs,ok.funs,ok.frf⟩
theorem Cx.Ok.unwish {X:Cx} (ok:(X.wish E).Ok):X.Ok:=
 ⟨ok.mod,ok.kind,ok.glob,ok.blt,ok.above,ok.inj,ok.has,ok.cab,ok.hd,ok.frames,ok.stk,ok.exf,ok.bs,ok.bsz,ok.noex,ok.exfs,ok.funs,ok.frf⟩
section
variable {X:Cx} {pins:List (Addr×Obj)} {σ:St} {H:Hp} {s:Shared} {E:Value->Shared->Prop}
theorem Inv.wish (I:Inv X pins σ H s) (E:Value->Shared->Prop):Inv (X.wish E) pins σ H s:=⟨I.ok.wish E,I.os,I.bare,I.base,I.loc,I.cell,I.free,I.freeC,I.pin,I.hok,I.len⟩
theorem Inv.unwish (I:Inv (X.wish E) pins σ H s):Inv X pins σ H s:=⟨I.ok.unwish,I.os,I.bare,I.base,I.loc,I.cell,I.free,I.freeC,I.pin,I.hok,I.len⟩
theorem SP.unwish {D:Ends} {f:Flow} {s':Shared} (h:SP (X.wish E) pins D f s'):SP X pins D f s':=by
 cases f with
 |next=>obtain⟨σ',H',I,q⟩:=h;exact⟨σ',H',I.unwish,q⟩
 |brk=>obtain⟨σ',H',I,q⟩:=h;exact⟨σ',H',I.unwish,q⟩
 |cont=>obtain⟨σ',H',I,q⟩:=h;exact⟨σ',H',I.unwish,q⟩
 |ret u=>obtain⟨v,σ',H',I,r,q⟩:=h;exact⟨v,σ',H',I.unwish,r,q⟩
theorem PSs.nox {st:List Stmt} {t:TS} (h:PSs X.nox st t):PSs X st t:=λ pins s σ H D I hw=>
 wpAny_mono (h pins s σ H D (I.wish _) hw) (λ _ _ q=>q.unwish) λ _ _ z=>False.elim z
end
section
variable {X:Cx} {st:Stmt} {rest:List Stmt} {t u:TS} {e:Expr} {te:TE} {pos:Pos}
def tNext:TS:=λ D σ H=>D.nx σ H
def tSeq (t u:TS):TS:=λ D σ H=>t {D with nx:=u D} σ H
theorem pss_nil:PSs X [] tNext:=λ _ _ σ H _ I h=>wpAny_execs_nil ⟨σ,H,I,h⟩
theorem pss_cons (h1:PS X st t) (h2:PSs X rest u):PSs X (st::rest) (tSeq t u):=by
 intro pins s σ H D I h;refine wpAny_execs_cons (thn (h1 pins s σ H {D with nx:=u D} I h) λ f s1 q=>?_);cases f with
 | next=>
  obtain⟨σ',H',I',q⟩:=q;exact h2 pins s1 σ' H' D I' q
 |ret v=>exact q
 |brk=>exact q
 |cont=>exact q
theorem pss_one (h1:PS X st t):PSs X [st] t:=by
 intro pins s σ H D I h;refine wpAny_execs_cons (thn (h1 pins s σ H D I h) λ f s1 q=>?_);cases f with
 |next=>exact wpAny_execs_nil q
 |ret v=>exact q
 |brk=>exact q
 |cont=>exact q
theorem Inv.quiet (I:Inv X pins σ H s):interactive X.env=false:=by simp[interactive,I.ok.kind]
def tDrop (te:TE):TS:=λ D σ H=>te σ H λ _ H1=>D.nx σ H1
theorem ps_expr (he:PE X e te) (hs:swapsWith e none pos.line X.env=pure false:=by rfl):PS X (.Expr e pos) (tDrop te):=by
 intro pins s σ H D I h;exact wpAny_Expr_any (thn (he pins s σ H _ I h) λ v s1 ⟨x,H1,I1,r1,q1⟩=>⟨σ,H1,I1,q1⟩) I.quiet hs
def tRet (te:TE):TS:=λ D σ H=>te σ H D.rt
theorem ps_ret (he:PE X e te):PS X (.Return (some e) pos) (tRet te):=by
 intro pins s σ H D I h;exact wpAny_Return_some (thn (he pins s σ H _ I h) λ v s1 ⟨x,H1,I1,r1,q1⟩=>⟨x,σ,H1,I1,r1,q1⟩)
def tIfS (c:TT) (t u:TS):TS:=λ D σ H=>c σ H λ b H1=>if b=true then t D σ H1 else u D σ H1
theorem ps_if {c:Expr} {a b:List Stmt} {tc:TT} (hc:PT X c tc) (ha:PSs X a t) (hb:PSs X b u):PS X (.If c a b pos) (tIfS tc t u):=by
 intro pins s σ H D I h;refine wpAny_If (thn (hc pins s σ H _ I h) λ d s1 bH=>?_);obtain⟨H1,I1,q1⟩:=bH;cases d with
 |true=>exact ha pins s1 σ H1 D I1 q1
 |false=>exact hb pins s1 σ H1 D I1 q1
end
abbrev TG:=V->St->Hp->(St->Hp->Prop)->Prop
abbrev TGs:=List V->St->Hp->(St->Hp->Prop)->Prop
def PG (X:Cx) (target:Expr) (t:TG):Prop:=
 ∀ (pins:List (Addr×Obj)) (s:Shared) (σ:St) (H:Hp) (v:V) (u:Value) (Q:St->Hp->Prop),Inv X pins σ H s->RelV v u->t v σ H Q->
  wpAny (model X.prog X.w) X.A (assign target X.env u) (λ _ s'=>Ru X pins Q s') X.xe s
def PGs (X:Cx) (ts:List Expr) (t:TGs):Prop:=
 ∀ (pins:List (Addr×Obj)) (s:Shared) (σ:St) (H:Hp) (vs:List V) (us:List Value) (Q:St->Hp->Prop),Inv X pins σ H s->Vals vs us->t vs σ H Q->
  wpAny (model X.prog X.w) X.A (assignInOrder ((assignEach ts X.env).map (·.2)) us) (λ _ s'=>Ru X pins Q s') X.xe s
abbrev TSet:=V->V->V->Hp->(Hp->Prop)->Prop
def PSet (X:Cx) (t:TSet):Prop:=
 ∀ (pins:List (Addr×Obj)) (s:Shared) (σ:St) (H:Hp) (o i v:V) (ov iv u:Value) (Q:Hp->Prop),Inv X pins σ H s->RelV o ov->RelV i iv->RelV v u->t o i v H Q->
  wpAny (model X.prog X.w) X.A (setItem ov iv u) (λ _ s'=>∃H',Inv X pins σ H' s'/\Q H') X.xe s
abbrev TIp:=V->V->Hp->VK->Prop
def PIp (X:Cx) (op:Operator) (t:TIp):Prop:=
 ∀ (pins:List (Addr×Obj)) (s:Shared) (σ:St) (H:Hp) (x y:V) (v u:Value) (Q:VK),Inv X pins σ H s->RelV x v->RelV y u->t x y H Q->
  wpAny (model X.prog X.w) X.A (inplaceOp op v u) (EP X pins σ Q) X.xe s
section
variable {X:Cx} {pos:Pos}
def gName (i:Nat):TG:=λ v σ H Q=>Q (σ.set i (some v)) H
theorem pg_name {i:Nat} {x:Str} (hN:X.N.Nodup) (hi:X.N[i]?=some x) (hx:Loc X.env.scope x) (hf:X.fn x=true\/X.env.scope.names.lookup x=some .local:=by first |exact .inl rfl |exact .inr rfl |assumption):PG X (.Name x pos) (gName i):=by
 intro pins s σ H v u Q I r h;exact wpAny_assign_Name (store_ok I hN hi hx r (λ s' I'=>⟨_,H,I',h⟩) hf)
def gNil:TGs:=λ vs σ H Q=>vs=[]/\Q σ H
def gCons (t:TG) (u:TGs):TGs:=λ vs σ H Q=>∃v r,vs=v::r/\t v σ H λ σ' H'=>u r σ' H' Q
theorem pgs_nil:PGs X [] gNil:=by
 intro pins s σ H vs us Q I r h;obtain⟨e,h⟩:=h;subst e;cases r;exact assignInOrder_nil ⟨σ,H,I,h⟩
theorem pgs_cons {es:List Expr} {t:TG} {u:TGs} (h1:PG X e t) (h2:PGs X es u)
  (hs:(assignEach (e::es) X.env).map (·.2)=assign e X.env::(assignEach es X.env).map (·.2):=by rfl):PGs X (e::es) (gCons t u):=by
 intro pins s σ H vs us Q I r h;obtain⟨v,vr,e1,h⟩:=h;subst e1;cases r with
 | cons r rr=>
  rw[hs];refine assignInOrder_cons (thn (h1 pins s σ H _ _ _ I r h) λ _ s1 bH=>?_);obtain⟨σ1,H1,I1,q1⟩:=bH;exact h2 pins s1 σ1 H1 _ _ Q I1 rr q1
def gTup (K:PySem.W.Frag) (n:Nat) (t:TGs):TG:=λ v σ H Q=>∃a xs,v= .ref a/\SqT K H a xs/\xs.length=n/\t xs σ H Q
theorem pg_tup {es:List Expr} {t:TGs} {n:Nat} (hc:X.calm=true) (h:PGs X es t)
  (hn:(assignEach es X.env).length=n:=by rfl) (hst:(assignEach es X.env).findIdx? (·.1)=none:=by rfl):PG X (.Tuple es k pos) (gTup X.K n t):=by
 intro pins s σ H v u Q I r hw;obtain⟨a,xs,e1,hq,hl,hw⟩:=hw;subst e1;cases r;obtain⟨its,rv,ht,hz⟩:=I.tuple hq;refine assign_Tuple_tuple (I.ok.hd hc) ht (by simp[hn,<-hl,rv.length]) hst λ h' hx=>?_;have I1:Inv X pins σ H {s with heap:=h'}:=I.kept (t':=s.toks) λ b o e=>hx b o (Nat.ne_of_lt (z2c e)) e;exact h pins _ σ H xs _ Q I1 (by simpa using rv) hw
def gSub (to ti:TE) (t:TSet):TG:=λ v σ H Q=>to σ H λ o H1=>ti σ H1 λ i H2=>t o i v H2 λ H3=>Q σ H3
theorem pg_sub {o i:Expr} {to ti:TE} {t:TSet} (ho:PE X o to) (hi:PE X i ti) (hs:PSet X t)
  (ha:∀v,assign (.Subscript o i pos) X.env v=(do
   let ov <-holding [v] (eval o X.env)
   let iv <-holding [v,ov] (eval i X.env)
   standAt pos
   holding [v,ov,iv] (setItem ov iv v)
   release [v,ov,iv] []):=by intro _;rfl):PG X (.Subscript o i pos) (gSub to ti t):=by
 intro pins s σ H v u Q I r h;rw[ha];refine wpAny_bind (wpAny_holding (thn (ho pins s σ H _ I h) λ ov s1 bH=>?_));obtain⟨x,H1,I1,r1,q1⟩:=bH;refine wpAny_bind (wpAny_holding (thn (hi pins s1 σ H1 _ I1 q1) λ iv s2 bH=>?_));obtain⟨y,H2,I2,r2,q2⟩:=bH;refine wpAny_bind (wpAny_standAt (wpAny_bind (wpAny_holding (thn (hs pins s2 σ H2 x y v ov iv u _ I2 r1 r2 r q2) λ _ s3 bH=>?_))));obtain⟨H3,I3,q3⟩:=bH;exact wpAny_release ⟨σ,H3,I3,q3⟩
def tAsg (te:TE) (g:TG):TS:=λ D σ H=>te σ H λ x H1=>g x σ H1 D.nx
theorem ps_asg {te:TE} {g:TG} (he:PE X e te) (hg:PG X tg g) (hs:swapsWithSole [tg] e pos.line X.env=pure false:=by rfl) (hw:swappedStores [tg] e X.env=pure none:=by rfl)
  (h1:(assignEach [tg] X.env).map (·.2)=[assign tg X.env]:=by rfl):PS X (.Assign [tg] e pos) (tAsg te g):=by
 intro pins s σ H D I h;refine wpAny_Assign_stores (thn (he pins s σ H _ I h) λ v s1 ⟨x,H1,I1,r1,q1⟩=>?_) hs hw;rw[h1];exact thn (hg pins s1 σ H1 x v _ I1 r1 q1) λ _ s2 q=>q
theorem ps_set {i:Nat} {x:Str} {te:TE} {pos':Pos} (hN:X.N.Nodup) (hi:X.N[i]?=some x) (hx:Loc X.env.scope x) (he:PE X e te) (hs:swapsWith e (some (.Name x pos')) pos.line X.env=pure false:=by rfl) (hf:X.fn x=true\/X.env.scope.names.lookup x=some .local:=by first |exact .inl rfl |exact .inr rfl |assumption):
  PS X (.Assign [.Name x pos'] e pos) (tAsg te (gName i)):=by
 intro pins s σ H D I h;refine wpAny_Assign_Name (thn (he pins s σ H _ I h) λ v s1 ⟨y,H1,I1,r1,q1⟩=>?_) hs;exact store_ok I1 hN hi hx r1 (λ s2 I2=>⟨_,H1,I2,q1⟩) hf
def tPar (i j:Nat) (ta:TA):TS:=λ D σ H=>ta σ H λ vs H1=>∃v w,vs=[v,w]/\D.nx ((σ.set i (some v)).set j (some w)) H1
theorem ps_par {i j:Nat} {x y:Str} {a b:Expr} {ta:TA} {px py pt:Pos} {kt k2 pt2} (hc:X.calm=true) (hN:X.N.Nodup) (hi:X.N[i]?=some x) (hj:X.N[j]?=some y) (hij:i≠j)
  (hx:X.env.scope.names.lookup x=some .local) (hy:X.env.scope.names.lookup y=some .local) (ha:PA X [a,b] ta)
  (hw:swappedStores [.Tuple [.Name x px,.Name y py] kt pt] (.Tuple [a,b] k2 pt2) X.env=pure (some [x,y]))
  (hs:swapsWithSole [.Tuple [.Name x px,.Name y py] kt pt] (.Tuple [a,b] k2 pt2) pos.line X.env=pure false:=by rfl):
  PS X (.Assign [.Tuple [.Name x px,.Name y py] kt pt] (.Tuple [a,b] k2 pt2) pos) (tPar i j ta):=by
 intro pins s σ H D I h;rw[exec_Assign_arm];refine wpAny_bind (wpAny_standAt ?_);rw[hs];refine wpAny_bind (wpAny_pure ?_);rw[if_neg (by decide)];refine wpAny_bind (Tuple_ (thn (ha _ pins s σ H _ I h) λ us s1 bH=>?_));obtain⟨vs,H1,I1,r1,q1⟩:=bH;obtain⟨v,w,e1,q1⟩:=q1;subst e1;obtain⟨u1,u2,rfl,rv,rw'⟩:∃u1 u2,us=[u1,u2]/\RelV v u1/\RelV w u2:=by
  cases r1 with
  | cons p q=>
   cases q with
   | cons p' q'=>
    cases q';exact⟨_,_,rfl,p,p'⟩
 refine wpAny_newObj_type ?_ (by show 2<=sizeLine;decide);have I2:Inv X pins σ H1 {s1 with heap:=s1.heap.push {cls:= .type "tuple",data:= .seq [u1,u2].toArray}}:=I1.kept (t':=s1.toks) λ b o e=>z1a _ e;rw[hw];refine wpAny_bind (wpAny_pure ?_);show wpAny (model X.prog X.w) X.A (do rule "assign.swapped-stores";let items <-unpackItems (.ref s1.heap.objs.size) 2 none;assignInOrder [λ v=>bindName X.env y v,λ v=>bindName X.env x v] items.reverse;pure Flow.next) _ _ _;refine wpAny_bind (wpAny_rule (wpAny_bind (unpackItems_tuple (items:= #[u1,u2]) (I.ok.hd hc) (IsTup.new s1.heap _) λ h' hx'=>?_)));have I3:=I2.kept (h':=h') (t':=s1.toks) λ b o e=>hx' b o (Nat.ne_of_lt (z2c e)) e;show wpAny _ _ (assignInOrder [λ v=>bindName X.env y v,λ v=>bindName X.env x v] [u2,u1] >>=λ _=>pure Flow.next) _ _ _;refine wpAny_bind (assignInOrder_cons (wpAny_bindName (store_ok I3 hN hj (.inl hy) rw' (λ s2 I4=>?_) (.inr hy))));refine assignInOrder_cons (wpAny_bindName (store_ok I4 hN hi (.inl hx) rv (λ s3 I5=>assignInOrder_nil (wpAny_pure ?_)) (.inr hx)));rw[List.set_comm _ _ (Ne.symm hij)] at I5;exact⟨_,H1,I5,q1⟩
def tAug (i:Nat) (te:TE) (ti:TIp):TS:=λ D σ H=>∃x,σ[i]?=some (some x)/\te σ H λ y H1=>ti x y H1 λ z H2=>D.nx (σ.set i (some z)) H2
theorem ps_aug {i:Nat} {x:Str} {te:TE} {op:Operator} {ti:TIp} {pos':Pos} (hN:X.N.Nodup) (hi:X.N[i]?=some x) (hx:Loc X.env.scope x) (he:PE X e te) (ho:PIp X op ti) (hf:X.fn x=true\/X.env.scope.names.lookup x=some .local:=by first |exact .inl rfl |exact .inr rfl |assumption):
  PS X (.AugAssign (.Name x pos') op e pos) (tAug i te ti):=by
 intro pins s σ H D I h;obtain⟨v,e1,h⟩:=h;obtain⟨m,hn,hl⟩:=I.loc;have vis:Vis X.env.scope x:=by rcases hx with k |k;exact .inl k;exact .inr (.inl k)
 obtain⟨u,r,l⟩:=hl i x v hi e1 vis;refine wpAny_AugAssign_Name ?_;have go:wpAny (model X.prog X.w) X.A (eval e X.env) (λ w s₂=>wpAny (model X.prog X.w) X.A (inplaceOp op u w) (λ r s₃=>wpAny (model X.prog X.w) X.A (storeName X.env x r) (λ _=>SP X pins D .next) X.xe s₃) X.xe s₂) X.xe s:=by
  refine thn (he pins s σ H _ I h) λ w s1 bH=>?_;obtain⟨y,H1,I1,r1,q1⟩:=bH;refine thn (ho pins s1 σ H1 v y u w _ I1 r r1 q1) λ z s2 bH=>?_;obtain⟨zv,H2,I2,r2,q2⟩:=bH;exact store_ok I2 hN hi hx r2 (λ s3 I3=>⟨_,H2,I3,q2⟩) hf
 rcases l with⟨hk,hm⟩ |⟨hk,c,hc,hcell⟩
 ·exact wpAny_loadName_local I.ok.kind hk hn hm go
 ·rcases hk with hk |hk
  ·exact wpAny_loadName_cell I.ok.kind hk hc hcell go
  ·rcases hx with k |k
   ·have:X.env.scope.names.lookup x=some .free:=hk;rw[k] at this;cases this
   ·have:X.env.scope.names.lookup x=some .free:=hk;rw[k] at this;cases this
def ipI (f:Int->Int->Int):TIp:=λ x y H Q=>∃i j,x= .int i/\y= .int j/\Q (.int (f i j)) H
theorem ip_add:PIp X .Add (ipI λ i j=>i+j):=by
 intro pins s σ H x y v u Q I r1 r2 h;obtain⟨i,j,e1,e2,q⟩:=h;subst e1;subst e2;obtain⟨t,rfl⟩:=r1;obtain⟨t',rfl⟩:=r2;exact iadd_int ⟨.int _,H,I.tok _,⟨_,rfl⟩,q⟩
end
section
variable {X:Cx} {pos:Pos}
def tWhile (c:TT) (tb:TS):TS:=λ D σ H=>∃W:Nat->St->Hp->Prop,(∃m,W m σ H)/\∀m σ H,W m σ H->
 c σ H λ b H1=>if b=true then ∃N:St->Hp->Prop,(∀σ' H',N σ' H'->∃m',m' < m/\W m' σ' H')/\tb {D with nx:=N,ct:=N,bk:=D.nx} σ H1 else D.nx σ H1
theorem ps_while {c:Expr} {tc:TT} {tb:TS} (hp:PassesOwn (model X.prog X.w) X.A X.env X.xe) (hc:PT X c tc) (hb:PSs X body tb):PS X (.While c body [] pos) (tWhile tc tb):=by
 intro pins s σ H D I h;obtain⟨W,⟨m0,w0⟩,turn⟩:=h;refine wpAny_While (codeAny_whileLoop (λ n s'=>∃σ' H',Inv X pins σ' H' s'/\W n σ' H') ?_ m0 ⟨σ,H,I,w0⟩)
 rintro n s1 ⟨σ1,H1,I1,w1⟩
 refine wpAny_passesOwn hp (thn (hc pins s1 σ1 H1 _ I1 (turn n σ1 H1 w1)) λ b s2 bH=>?_);obtain⟨H2,I2,q2⟩:=bH;cases b with
 | true=>
  obtain⟨N,hN,q2⟩:=q2;rw[if_pos rfl];refine wpAny_passesOwn hp (thn (hb pins s2 σ1 H2 _ I2 q2) λ f s3 q3=>?_);cases f with
  | next=>
   obtain⟨σ3,H3,I3,n3⟩:=q3;obtain⟨m',hm,w3⟩:=hN σ3 H3 n3;exact⟨m',hm,σ3,H3,I3,w3⟩
  | cont=>
   obtain⟨σ3,H3,I3,n3⟩:=q3;obtain⟨m',hm,w3⟩:=hN σ3 H3 n3;exact⟨m',hm,σ3,H3,I3,w3⟩
  |brk=>exact q3
  |ret v=>exact q3
 | false=>
  rw[if_neg Bool.false_ne_true];exact wpAny_execs_nil ⟨σ1,H2,I2,q2⟩
end
structure It where
 go:Nat->Hp->Prop
 yld:Nat->Hp->V->Hp->Prop
 stop:Nat->Hp->Prop
def FpOk (X:Cx) (pins:List (Addr×Obj)) (H:Hp) (b:Addr):Prop:=
 H b=none/\b≠X.env.locals/\b∉X.fs/\(b∈X.ex\/X.s₀.heap.objs.size<=b)/\(∀x c,X.env.cells.lookup x=some c->c≠b)/\∀p∈X.pn++pins,p.1≠b
theorem Inv.fpOk {X:Cx} {H':Hp} {b:Addr} (I:Inv X pins σ H s) (hb:s.heap.objs.size<=b) (hn:H' b=none):FpOk X pins H' b:=by
 refine⟨hn,Nat.ne_of_gt (z0d I.lt hb),I.nofs hb,.inr (z0b I.sz hb),λ x c e z=>?_,λ p hp z=>?_⟩
 ·obtain⟨v,q⟩:=I.cell x c e;exact absurd (z0d q.lt (by rw[z];exact hb)) (Nat.lt_irrefl _)
 ·exact absurd (z0d (z2c (I.pin p hp).1) (by rw[z];exact hb)) (Nat.lt_irrefl _)
inductive aaQ (X:Cx) (pins:List (Addr×Obj)) (σ:St) (H:Hp) (J:It) (tn:Nat->Heap->Prop) (fp:List Addr) (i:Nat) (u:Value) (s2:Shared):Prop
 |mk (x:V) (H':Hp) (I:Inv X pins σ H' s2) (r:RelV x u) (y:J.yld i H x H') (st:tn (i+1) s2.heap) (f:∀b∈fp,H' b=none):aaQ X pins σ H J tn fp i u s2
structure Turn (P:Program) (w:World) (K:PySem.W.Frag) (tg:Expr) (J:It) (fp:List Addr) (it:Addr) (tn:Nat->Heap->Prop):Prop where
 mem:it∈fp
 obj:∀i h,tn i h->∀b∈fp,∃o,h.get? b=some o/\∀v,o.data≠.cell v
 keep:∀i h h',tn i h->(∀b∈fp,∀o,h.get? b=some o->h'.get? b=some o)->tn i h'
 item:∀(X:Cx),X.prog=P->X.w=w->X.K=K->X.calm=true->∀(i:Nat) (pins:List (Addr×Obj)) (s:Shared) (σ:St) (H:Hp) (E:Value->Shared->Prop),Inv X pins σ H s->(∀b∈fp,FpOk X pins H b)->tn i s.heap->J.go i H->
  wpAny (model P w) X.A (pyNext (.ref it)) (λ r s1=>∃u,r=some u/\
   wpAny (model P w) X.A (letOwnedTupleGo tg (.ref it) u) (λ _ s2=>aaQ X pins σ H J tn fp i u s2) E s1) E s
 done:∀(X:Cx),X.prog=P->X.w=w->X.K=K->X.calm=true->∀(i:Nat) (pins:List (Addr×Obj)) (s:Shared) (σ:St) (H:Hp) (E:Value->Shared->Prop),Inv X pins σ H s->(∀b∈fp,FpOk X pins H b)->tn i s.heap->J.stop i H->
  wpAny (model P w) X.A (pyNext (.ref it)) (λ r s1=>r=none/\Inv X pins σ H s1) E s
 self:∀(A:Around) (i:Nat) (s:Shared) (Q:Value->Shared->Prop) (E:Value->Shared->Prop),tn i s.heap->Q (.ref it) s->wpAny (model P w) A (pyIter (.ref it)) Q E s
abbrev TI:=St->Hp->(It->Hp->Prop)->Prop
inductive PIE (X:Cx) (pins:List (Addr×Obj)) (σ:St) (tg:Expr) (R:It->Hp->Prop) (itv:Value) (s2:Shared):Prop
 |mk (it:Addr) (fp:List Addr) (tn:Nat->Heap->Prop) (J:It) (H':Hp) (e:itv= .ref it) (I:Inv X pins σ H' s2) (T:Turn X.prog X.w X.K tg J fp it tn) (st:tn 0 s2.heap) (f:∀b∈fp,FpOk X pins H' b) (r:R J H'):PIE X pins σ tg R itv s2
def PI (X:Cx) (tg iter:Expr) (wi:TI):Prop:=
 ∀ (pins:List (Addr×Obj)) (s:Shared) (σ:St) (H:Hp) (R:It->Hp->Prop),Inv X pins σ H s->wi σ H R->
  wpAny (model X.prog X.w) X.A (eval iter X.env) (λ v s1=>wpAny (model X.prog X.w) X.A (pyIter v) (PIE X pins σ tg R) X.xe s1) X.xe s
theorem go_of {it:Addr} {u:Value} {o:Obj} {n:String} {vs:Array Value} (ho:s.heap.get? it=some o) (hc:o.cls= .type n) (hd:o.data= .fields vs)
  (hn:["enumerate","zip","dict_itemiterator","dict_reverseitemiterator","odict_iterator","itertools.zip_longest","itertools.pairwise"].contains n=false) (hQ:Q () s):wpAny M A (letOwnedTupleGo tg (.ref it) u) Q E s:=by
 unfold letOwnedTupleGo;cases tg <;> first
  |exact wpAny_pure hQ
  | (cases u <;> first
    |exact wpAny_pure hQ
    | (refine wpAny_bind (wpAny_load ho ?_)
       rw[hc,hd];show wpAny M A (if (["enumerate","zip","dict_itemiterator","dict_reverseitemiterator","odict_iterator","itertools.zip_longest","itertools.pairwise"].contains n && vs[0]? ==some (rawInt _))=true then _ else _) Q E s;rw[if_neg (by intro h;rw[hn,Bool.false_and] at h;cases h)];exact wpAny_pure hQ))
def Itl (K:PySem.W.Frag) (a:Addr):It:=
 ⟨λ i H=>∃xs x,SqL K H a xs/\xs[i]?=some x,λ i H x H'=>H'=H/\∀xs,SqL K H a xs->xs[i]?=some x,λ i H=>∃xs,SqL K H a xs/\xs.length<=i⟩
def Itt (K:PySem.W.Frag) (a:Addr):It:=
 ⟨λ i H=>∃xs x,SqT K H a xs/\xs[i]?=some x,λ i H x H'=>H'=H/\∀xs,SqT K H a xs->xs[i]?=some x,λ i H=>∃xs,SqT K H a xs/\xs.length<=i⟩
def Itr (lo:Int) (n:Nat):It:=⟨λ i _=>i < n,λ i H x H'=>H'=H/\x= .int (lo+i),λ i _=>n<=i⟩
theorem turn_list (a it:Addr):Turn P w K tg (Itl K a) [it] it (λ i h=>h.IsListIter it a i) where
 mem:=by simp
 obj:=λ i h st b hb=>by
  have e:b=it:=by simpa using hb
  subst e;obtain⟨o,e,c,d⟩:=st;exact⟨o,e,λ v z=>by rw[d] at z;cases z⟩
 keep:=λ i h h' st k=>st.at λ o e=>k it (by simp) o e
 item:=by
  intro X hP hw hK hc i pins s σ H E I hf st hg;subst hP hw hK;obtain⟨xs,x,hq,hx⟩:=hg;obtain⟨its,rv,p,hz⟩:=I.list hq;obtain⟨u,hu,ru⟩:=rv.get hx;obtain⟨f0,f1,f2,f3,f4,f5⟩:=hf it (by simp);refine wpAny_pyNext_list_item st p.isList (x:=u) (by simpa using hu) λ h' st' sb=>?_;have I1:Inv X pins σ H {s with heap:=h'}:=I.turned (t':=s.toks) (λ b o hb e=>(sb.2 b hb).trans e) f0 f1 f3 f4 f5;obtain⟨o,e,c,d⟩:=id st';exact⟨u,rfl,go_of (s:={s with heap:=h'}) e c d (by decide) ⟨x,H,I1,ru,⟨rfl,λ ys hy=>by rw[I.list_inj hy hq];exact hx⟩,st',λ b hb=>(hf b hb).1⟩⟩
 done:=by
  intro X hP hw hK hc i pins s σ H E I hf st hg;subst hP hw hK;obtain⟨xs,hq,hx⟩:=hg;obtain⟨its,rv,p,hz⟩:=I.list hq;obtain⟨f0,f1,f2,f3,f4,f5⟩:=hf it (by simp);have hl:=rv.length;exact wpAny_pyNext_list_end (I.ok.hd hc) st p.isList (by simp;omega) λ h' eb=>⟨rfl,I.turned (t':=s.toks) (λ b o hb e=>eb b o hb e) f0 f1 f3 f4 f5⟩
 self:=λ _ _ _ _ _ st h=>wpAny_pyIter_listiter st h
theorem turn_tuple (a it:Addr):Turn P w K tg (Itt K a) [it] it (λ i h=>h.IsTupleIter it a i) where
 mem:=by simp
 obj:=λ i h st b hb=>by
  have e:b=it:=by simpa using hb
  subst e;obtain⟨o,e,c,d⟩:=st;exact⟨o,e,λ v z=>by rw[d] at z;cases z⟩
 keep:=λ i h h' st k=>st.at λ o e=>k it (by simp) o e
 item:=by
  intro X hP hw hK hc i pins s σ H E I hf st hg;subst hP hw hK;obtain⟨xs,x,hq,hx⟩:=hg;obtain⟨its,rv,p,hz⟩:=I.tuple hq;obtain⟨u,hu,ru⟩:=rv.get hx;obtain⟨f0,f1,f2,f3,f4,f5⟩:=hf it (by simp);refine wpAny_pyNext_tuple_item st (show s.heap.IsTuple a its.toArray from p) (x:=u) (by simpa using hu) λ h' st' sb=>?_;have I1:Inv X pins σ H {s with heap:=h'}:=I.turned (t':=s.toks) (λ b o hb e=>(sb.2 b hb).trans e) f0 f1 f3 f4 f5;obtain⟨o,e,c,d⟩:=id st';exact⟨u,rfl,go_of (s:={s with heap:=h'}) e c d (by decide) ⟨x,H,I1,ru,⟨rfl,λ ys hy=>by rw[I.tuple_inj hy hq];exact hx⟩,st',λ b hb=>(hf b hb).1⟩⟩
 done:=by
  intro X hP hw hK hc i pins s σ H E I hf st hg;subst hP hw hK;obtain⟨xs,hq,hx⟩:=hg;obtain⟨its,rv,p,hz⟩:=I.tuple hq;obtain⟨f0,f1,f2,f3,f4,f5⟩:=hf it (by simp);have hl:=rv.length;exact wpAny_pyNext_tuple_end (I.ok.hd hc) st (show s.heap.IsTuple a its.toArray from p) (by simp;omega) λ h' eb=>⟨rfl,I.turned (t':=s.toks) (λ b o hb e=>eb b o hb e) f0 f1 f3 f4 f5⟩
 self:=λ _ _ _ _ _ st h=>wpAny_pyIter_tupleiter st h
theorem turn_range (it:Addr) (lo:Int) (n:Nat):Turn P w K tg (Itr lo n) [it] it (λ i h=>IsRangeIter h it (lo+(i:Nat)*1) ((n:Int) - (i:Nat)) 1) where
 mem:=by simp
 obj :=λ i h st b hb=>by
  have e:b=it:=by simpa using hb
  subst e;exact⟨_,st,λ v z=>by
   have z':Data.fields _=Data.cell v:=z;cases z'⟩
 keep:=λ i h h' st k=>k it (by simp) _ st
 item:=by
  intro X hP hw hK hc i pins s σ H E I hf st hg;subst hP hw hK;obtain⟨f0,f1,f2,f3,f4,f5⟩:=hf it (by simp);have W:=Walks.range (prog:=X.prog) (w:=X.w) (I.ok.hd hc) it lo 1 n;refine W.item i s _ _ hg st λ v h' tk hv st' kk=>?_;obtain⟨t,rfl⟩:=hv;have I1:Inv X pins σ H {s with heap:=h',toks:=tk}:=I.turned (λ b o hb e=>kk b o (by simpa using hb) e) f0 f1 f3 f4 f5;refine⟨_,rfl,go_of (s:={s with heap:=h',toks:=tk}) (n:= "range_iterator") st' rfl rfl (by decide) ⟨.int (lo+i),H,I1,⟨t,?_⟩,⟨rfl,rfl⟩,st',λ b hb=>(hf b hb).1⟩⟩;rw[Int.mul_one]
 done:=by
  intro X hP hw hK hc i pins s σ H E I hf st hg;subst hP hw hK;obtain⟨f0,f1,f2,f3,f4,f5⟩:=hf it (by simp);exact wpAny_pyNext_range_end (I.ok.hd hc) st (by have:n<=i:=hg;omega) λ h' eb=>⟨rfl,I.turned (t':=s.toks) (λ b o hb e=>eb b o hb e) f0 f1 f3 f4 f5⟩
 self:=λ _ _ _ _ _ st h=>wpAny_pyIter_rangeiter st h
section
variable {X:Cx} {tg:Expr}
theorem range_it {R:It->Hp->Prop} {lo hi:Int} {t u v:Tok} {tk:Nat} (I:Inv X pins σ H s) (h1: -(2 ^ 62)<=lo) (h2:lo < 2 ^ 62) (h3: -(2 ^ 62)<=hi) (h4:hi < 2 ^ 62)
  (q:R (Itr lo (hi - lo).toNat) H):wpAny (model X.prog X.w) X.A (pyIter (.ref s.heap.objs.size)) (PIE X pins σ tg R) E {s with heap:=s.heap.push {cls:= .type "range",data:= .fields #[.int lo t,.int hi u,.int 1 v]},toks:=tk}:=by
 refine wpAny_pyIter_range (IsRange.new ..) (small_one h1 h2 h3 h4) ?_;have I1:Inv X pins σ H {s with heap:=s.heap.push {cls:= .type "range",data:= .fields #[.int lo t,.int hi u,.int 1 v]},toks:=tk}:=I.kept λ b o e=>z1a _ e;refine⟨(s.heap.push {cls:= .type "range",data:= .fields #[.int lo t,.int hi u,.int 1 v]}).objs.size,[(s.heap.push {cls:= .type "range",data:= .fields #[.int lo t,.int hi u,.int 1 v]}).objs.size],_,_,H,rfl,
  I1.kept (t':=tk) λ b o e=>z1a _ e,turn_range _ lo (hi - lo).toNat,?_,λ b hb=>?_,q⟩
 ·have e1:lo+((0:Nat):Int)*1=lo:=by simp
  have e2:(((hi - lo).toNat:Nat):Int) - ((0:Nat):Int)=Builtin.Range.rangeSize lo hi 1:=by rw[rangeSize_one];split <;> omega
  show IsRangeIter _ _ (lo+((0:Nat):Int)*1) ((((hi - lo).toNat:Nat):Int) - ((0:Nat):Int)) 1;rw[e1,e2];exact z1f _ rfl
 ·have e:b=(s.heap.push {cls:= .type "range",data:= .fields #[.int lo t,.int hi u,.int 1 v]}).objs.size:=by simpa using hb
  subst e;exact I1.fpOk (z0g _) (I1.hok.fresh (z0g _))
def iRng1 (ta:TA):TI:=λ σ H R=>ta σ H λ vs H1=>∃j:Int,vs=[.int j]/\-(2 ^ 62)<=j/\j < 2 ^ 62/\R (Itr 0 j.toNat) H1
def iRng2 (ta:TA):TI:=λ σ H R=>ta σ H λ vs H1=>∃i j:Int,vs=[.int i,.int j]/\(-(2 ^ 62)<=i/\i < 2 ^ 62/\-(2 ^ 62)<=j/\j < 2 ^ 62)/\R (Itr i (j - i).toNat) H1
theorem pi_range1 {a:Expr} {ta:TA} {p pos:Pos} (hg:Gl X "range") (hm:X.mg "range" =none) (ha:PA X [a] ta) (hs:starEach [a] X.env=[(false,eval a X.env)]:=by rfl):PI X tg (.Call (.Name "range" p) [a] [] pos) (iRng1 ta):=by
 intro pins s σ H R I h;refine Call_ (ld_blt I hg hm boot_range (PyProof.Rows.callWith_type1 (thn (ha pos pins s σ H _ I h) λ us s1 ⟨vs,H1,I1,r1,q1⟩=>?_) hs rfl));obtain⟨j,e,q1,q2,q⟩:=q1;subst e;cases r1 with
 | cons r rr=>
  cases rr;obtain⟨t,rfl⟩:=r;exact call_range_1 (range_it I1 (by omega) (by omega) q1 q2 (by simpa using q))
theorem pi_range2 {a b:Expr} {ta:TA} {p pos:Pos} (hg:Gl X "range") (hm:X.mg "range" =none) (ha:PA X [a,b] ta) (hs:starEach [a,b] X.env=[(false,eval a X.env),(false,eval b X.env)]:=by rfl) (hs2:starEach [b] X.env=[(false,eval b X.env)]:=by rfl):
  PI X tg (.Call (.Name "range" p) [a,b] [] pos) (iRng2 ta):=by
 intro pins s σ H R I h;refine Call_ (ld_blt I hg hm boot_range (PyProof.Rows.callWith_type1 (thn (ha pos pins s σ H _ I h) λ us s1 ⟨vs,H1,I1,r1,q1⟩=>?_) (by rw[hs,hs2]) (by rw[hs2];rfl)));obtain⟨i,j,e,⟨q1,q2,q3,q4⟩,q⟩:=q1;subst e;cases r1 with
 | cons r rr=>
  cases rr with
  | cons r' rr=>
   cases rr;obtain⟨t,rfl⟩:=r;obtain⟨t',rfl⟩:=r';exact call_range_2 (range_it I1 q1 q2 q3 q4 q)
def tFor (wi:TI) (g:TG) (tb:TS):TS:=λ D σ H=>wi σ H λ J H1=>∃W:Nat->Nat->St->Hp->Prop,(∃m,W 0 m σ H1)/\∀i m σ H,W i m σ H->
 (J.stop i H/\D.nx σ H)\/(J.go i H/\∃N:St->Hp->Prop,(∀σ' H',N σ' H'->∃m',m' < m/\W (i+1) m' σ' H')/\∀x H',J.yld i H x H'->g x σ H' λ σ2 H2=>tb {D with nx:=N,ct:=N,bk:=D.nx} σ2 H2)
def pinsAt (fp:List Addr) (h:Heap):List (Addr×Obj):=fp.filterMap λ b=>(h.get? b).map λ o=>(b,o)
theorem mem_pinsAt {fp:List Addr} {b:Addr} {o:Obj} (hb:b∈fp) (e:h.get? b=some o):(b,o)∈pinsAt fp h:=List.mem_filterMap.mpr ⟨b,hb,by rw[e];rfl⟩
theorem of_pinsAt {fp:List Addr} {p:Addr×Obj} (hp:p∈pinsAt fp h):p.1∈fp/\h.get? p.1=some p.2:=by
 obtain⟨b,hb,e⟩:=List.mem_filterMap.mp hp;cases q:h.get? b with
 |none=>rw[q] at e;cases e
 | some o=>
  rw[q] at e;have e':(b,o)=p:=Option.some.inj e;subst e';exact⟨hb,q⟩
theorem Inv.pinned {fp:List Addr} (I:Inv X pins σ H s) (hf:∀b∈fp,FpOk X pins H b) (ho:∀b∈fp,∃o,s.heap.get? b=some o/\∀v,o.data≠.cell v):Inv X (pins++pinsAt fp s.heap) σ H s:=
 I.pins_of λ p hp=>(List.mem_append.mp hp).elim (λ z=>I.pin p (List.mem_append_right _ z)) λ z=>by
  obtain⟨hb,e⟩:=of_pinsAt z;obtain⟨f0,f1,f2,_⟩:=hf p.1 hb;obtain⟨o,e',d⟩:=ho p.1 hb;rw[e] at e';cases e';exact⟨e,f0,f1,f2,d⟩
theorem Inv.unpinned {pl:List (Addr×Obj)} (I:Inv X (pins++pl) σ H s):Inv X pins σ H s:=I.pins_of λ p hp=>I.pin p (List.mem_append_right _ (List.mem_append_left _ hp))
inductive Zd (X:Cx) (pins:List (Addr×Obj)) (tn:Nat->Heap->Prop) (fp:List Addr) (W:Nat->Nat->St->Hp->Prop) (n:Nat) (s':Shared):Prop
 |mk (i:Nat) (σ':St) (H':Hp) (I:Inv X pins σ' H' s') (st:tn i s'.heap) (fr:∀b∈fp,H' b=none) (w:W i n σ' H'):Zd X pins tn fp W n s'
theorem ps_for {iter:Expr} {wi:TI} {g:TG} {tb:TS} {pos:Pos} (hp:PassesOwn (model X.prog X.w) X.A X.env X.xe) (hc:X.calm=true) (hi:PI X tg iter wi) (hg:PG X tg g) (hb:PSs X body tb)
  (hs:∀x,foldedSetIterable iter X.env x=pure x:=by intro _;rfl):PS X (.For tg iter body [] pos) (tFor wi g tb):=by
 intro pins s σ H D I h;refine wpAny_For (thn (hi pins s σ H _ I h) λ v s1 h1=>thn h1 λ itv s2 h2=>?_) hs;obtain⟨it,fp,tn,J,H2,e,I2,T,st2,f2,W,⟨m0,w0⟩,turn⟩:=h2;subst e;have stat:∀{H':Hp},(∀b∈fp,H' b=none)->∀b∈fp,FpOk X pins H' b:=λ hn b hb=>⟨hn b hb,(f2 b hb).2⟩;refine codeAny_forLoop_any (λ n s'=>Zd X pins tn fp W n s') ?_ m0 ⟨0,σ,H2,I2,st2,λ b hb=>(f2 b hb).1,w0⟩
 rintro n s3 ⟨i,σ3,H3,I3,st3,fr3,w3⟩
 rcases turn i n σ3 H3 w3 with⟨stop,qn⟩ |⟨go,N,hN,step⟩
 ·refine wpAny_passesOwn hp (thn (T.done X rfl rfl rfl hc i pins s3 σ3 H3 X.xe I3 (stat fr3) st3 stop) λ r s4 bH=>?_);obtain⟨hr,I4⟩:=bH;subst hr;exact wpAny_execs_nil ⟨σ3,H3,I4,qn⟩
 ·refine wpAny_passesOwn hp (thn (T.item X rfl rfl rfl hc i pins s3 σ3 H3 X.xe I3 (stat fr3) st3 go) λ r s4 bH=>?_);obtain⟨u,hr,h4⟩:=bH;subst hr;refine wpAny_passesOwn hp (thn h4 λ _ s5 bH=>?_);obtain⟨x,H5,I5,r5,y5,st5,fr5⟩:=bH;have I5':=I5.pinned (stat fr5) (T.obj _ _ st5);refine wpAny_passesOwn hp (thn (hg _ s5 σ3 H5 x u _ I5' r5 (step x H5 y5)) λ _ s6 bH=>?_);obtain⟨σ6,H6,I6,q6⟩:=bH;refine wpAny_passesOwn hp (thn (hb _ s6 σ6 H6 _ I6 q6) λ f s7 q7=>?_);have again:∀{σ7:St} {H7:Hp},Inv X (pins++pinsAt fp s5.heap) σ7 H7 s7->N σ7 H7->∃m,m < n/\Zd X pins tn fp W m s7:=λ {σ7 H7} I7 n7=>by
   obtain⟨m',hm,w7⟩:=hN σ7 H7 n7;refine⟨m',hm,i+1,σ7,H7,I7.unpinned,T.keep _ _ _ st5 λ b hb o e=>(I7.pin (b,o) (List.mem_append_right _ (List.mem_append_right _ (mem_pinsAt hb e)))).1,λ b hb=>?_,w7⟩;obtain⟨o,e,d⟩:=T.obj _ _ st5 b hb;exact (I7.pin (b,o) (List.mem_append_right _ (List.mem_append_right _ (mem_pinsAt hb e)))).2.1
  cases f with
  |next=>obtain⟨σ7,H7,I7,n7⟩:=q7;exact again I7 n7
  |cont=>obtain⟨σ7,H7,I7,n7⟩:=q7;exact again I7 n7
  |brk=>obtain⟨σ7,H7,I7,q7⟩:=q7;exact⟨σ7,H7,I7.unpinned,q7⟩
  |ret v=>obtain⟨x7,σ7,H7,I7,r7,q7⟩:=q7;exact⟨x7,σ7,H7,I7.unpinned,r7,q7⟩
end
abbrev R2:=V->V->Hp->VK->Prop
def OpR (X:Cx) (f:Value->Value->Sem Value) (r:R2):Prop:=
 ∀ (pins:List (Addr×Obj)) (s:Shared) (σ:St) (H:Hp) (x y:V) (v u:Value) (Q:VK),Inv X pins σ H s->RelV x v->RelV y u->r x y H Q->
  wpAny (model X.prog X.w) X.A (f v u) (EP X pins σ Q) X.xe s
def UnR (X:Cx) (f:Value->Sem Value) (r:V->Hp->VK->Prop):Prop:=
 ∀ (pins:List (Addr×Obj)) (s:Shared) (σ:St) (H:Hp) (x:V) (v:Value) (Q:VK),Inv X pins σ H s->RelV x v->r x H Q->
  wpAny (model X.prog X.w) X.A (f v) (EP X pins σ Q) X.xe s
def CallR (X:Cx) (f:Value) (r:List V->Hp->VK->Prop):Prop:=
 ∀ (pins:List (Addr×Obj)) (s:Shared) (σ:St) (H:Hp) (xs:List V) (us:List Value) (Q:VK),Inv X pins σ H s->Vals xs us->r xs H Q->
  wpAny (model X.prog X.w) X.A (call f us) (EP X pins σ Q) X.xe s
def TruR (X:Cx) (r:V->Hp->(Bool->Hp->Prop)->Prop):Prop:=
 ∀ (pins:List (Addr×Obj)) (s:Shared) (σ:St) (H:Hp) (x:V) (v:Value) (Q:Bool->Hp->Prop),Inv X pins σ H s->RelV x v->r x H Q->
  wpAny (model X.prog X.w) X.A (truthy v) (TP X pins σ Q) X.xe s
def tOp (r:R2) (ta tb:TE):TE:=λ σ H Q=>ta σ H λ x H1=>tb σ H1 λ y H2=>r x y H2 Q
def tUn (r:V->Hp->VK->Prop) (ta:TE):TE:=λ σ H Q=>ta σ H λ x H1=>r x H1 Q
def rI (C:Int->Int->Prop) (g:Int->Int->V):R2:=λ x y H Q=>∃i j,x= .int i/\y= .int j/\C i j/\Q (g i j) H
def rI0 (g:Int->Int->V):R2:=λ x y H Q=>∃i j,x= .int i/\y= .int j/\Q (g i j) H
def rU (g:Int->V):V->Hp->VK->Prop:=λ x H Q=>∃i,x= .int i/\Q (g i) H
section
variable {X:Cx} {a b c:Expr} {ta tb tc:TE} {pos:Pos}
theorem binT (ha:PE X a ta) (hb:PE X b tb) {R:V->V->Hp->Prop} (I:Inv X pins σ H s)
  (h:ta σ H λ x H1=>tb σ H1 λ y H2=>R x y H2) {Q:Value->Shared->Prop}
  (hf:∀v u s2 x y H2,Inv X pins σ H2 s2->RelV x v->RelV y u->R x y H2->wpAny (model X.prog X.w) X.A (f v u) Q X.xe s2):
  wpAny (model X.prog X.w) X.A (eval a X.env) (λ v s₁=>wpAny (model X.prog X.w) X.A (eval b X.env) (λ u s₂=>wpAny (model X.prog X.w) X.A (f v u) Q X.xe s₂) X.xe s₁) X.xe s:=by
 refine thn (ha pins s σ H _ I h) λ v s1 bH=>?_;obtain⟨x,H1,I1,r1,q1⟩:=bH;refine thn (hb pins s1 σ H1 _ I1 q1) λ u s2 bH=>?_;obtain⟨y,H2,I2,r2,q2⟩:=bH;exact hf v u s2 x y H2 I2 r1 r2 q2
theorem pe_op {op:Operator} (ho:OpR X (binaryOp op) r) (ha:PE X a ta) (hb:PE X b tb):PE X (.BinOp a op b pos) (tOp r ta tb):=by
 intro pins s σ H Q I h;exact wpAny_BinOp (binT ha hb I h λ v u s2 x y H2 I2 rx ry q=>ho pins s2 σ H2 x y v u Q I2 rx ry q)
theorem pe_un {op:UnaryOp} {r:V->Hp->VK->Prop} (ho:UnR X (unaryOp op) r) (ha:PE X a ta):PE X (.UnaryOp op a pos) (tUn r ta):=by
 intro pins s σ H Q I h;exact UnaryOp_ (thn (ha pins s σ H _ I h) λ v s1 ⟨x,H1,I1,r1,q1⟩=>ho pins s1 σ H1 x v Q I1 r1 q1)
theorem opI {C:Int->Int->Prop} {g:Int->Int->Int}
  (rule:∀(i j:Int) (t u:Tok) (s:Shared) (Q:Value->Shared->Prop) (E:Value->Shared->Prop),C i j->Q (.int (g i j) s.toks) {s with toks:=s.toks+1}->wpAny (model X.prog X.w) X.A (f (.int i t) (.int j u)) Q E s):
  OpR X f (rI C λ i j=> .int (g i j)):=by
 intro pins s σ H x y v u Q I rx ry h;obtain⟨i,j,rfl,rfl,hc,q⟩:=h;obtain⟨t,rfl⟩:=rx;obtain⟨t',rfl⟩:=ry;exact rule i j t t' s _ _ hc ⟨.int (g i j),H,I.tok _,⟨_,rfl⟩,q⟩
theorem opI0 {g:Int->Int->Int}
  (rule:∀(i j:Int) (t u:Tok) (s:Shared) (Q:Value->Shared->Prop) (E:Value->Shared->Prop),Q (.int (g i j) s.toks) {s with toks:=s.toks+1}->wpAny (model X.prog X.w) X.A (f (.int i t) (.int j u)) Q E s):
  OpR X f (rI0 λ i j=> .int (g i j)):=by
 intro pins s σ H x y v u Q I rx ry h;obtain⟨i,j,rfl,rfl,q⟩:=h;obtain⟨t,rfl⟩:=rx;obtain⟨t',rfl⟩:=ry;exact rule i j t t' s _ _ ⟨.int (g i j),H,I.tok _,⟨_,rfl⟩,q⟩
theorem opB0 {g:Int->Int->Bool}
  (rule:∀(i j:Int) (t u:Tok) (s:Shared) (Q:Value->Shared->Prop) (E:Value->Shared->Prop),Q (.bool (g i j)) s->wpAny (model X.prog X.w) X.A (f (.int i t) (.int j u)) Q E s):
  OpR X f (rI0 λ i j=> .bl (g i j)):=by
 intro pins s σ H x y v u Q I rx ry h;obtain⟨i,j,rfl,rfl,q⟩:=h;obtain⟨t,rfl⟩:=rx;obtain⟨t',rfl⟩:=ry;exact rule i j t t' s _ _ ⟨.bl (g i j),H,I,rfl,q⟩
def CPow (i j:Int):Prop:=0<=j/\j<=1000000/\i.natAbs < 2 ^ 64
def CMul (i j:Int):Prop:=(-(2 ^ 64) < i/\i < 2 ^ 64)\/(-(2 ^ 64) < j/\j < 2 ^ 64)
theorem CMul.ok {i j:Int} (h:CMul i j):IntMulOk i j:=by
 rcases h with⟨h1,h2⟩ |⟨h1,h2⟩
 ·exact .of_left (intBits_le_64 h1 h2)
 ·exact .of_right (intBits_le_64 h1 h2)
theorem op_add:OpR X (binaryOp .Add) (rI0 λ i j=> .int (i+j)):=opI0 λ _ _ _ _ _ _ _ q=>add_int q
theorem op_sub:OpR X (binaryOp .Sub) (rI0 λ i j=> .int (i - j)):=opI0 λ _ _ _ _ _ _ _ q=>sub_int q
theorem op_mul:OpR X (binaryOp .Mult) (rI CMul λ i j=> .int (i*j)):=opI λ _ _ _ _ _ _ _ hc q=>mul_int q hc.ok
theorem op_mod:OpR X (binaryOp .Mod) (rI (λ _ j=>0 < j) λ i j=> .int (i % j)):=opI λ i j _ _ _ _ _ hc q=>by
 have h1:(0:Int) < j:=hc;exact mod_int' (by omega) (by rw[Int.fmod_eq_emod_of_nonneg i (by omega)];exact q)
theorem op_pow:OpR X (binaryOp .Pow) (rI CPow λ i j=> .int (i ^ j.toNat)):=opI λ _ _ _ _ _ _ _ hc q=>pow_int_small hc.1 hc.2.1 hc.2.2 q
theorem unI {f:Value->Sem Value} {g:Int->Int}
  (rule:∀(i:Int) (t:Tok) (s:Shared) (Q:Value->Shared->Prop) (E:Value->Shared->Prop),Q (.int (g i) s.toks) {s with toks:=s.toks+1}->wpAny (model X.prog X.w) X.A (f (.int i t)) Q E s):
  UnR X f (rU λ i=> .int (g i)):=by
 intro pins s σ H x v Q I rx h;obtain⟨i,rfl,q⟩:=h;obtain⟨t,rfl⟩:=rx;exact rule i t s _ _ ⟨.int (g i),H,I.tok _,⟨_,rfl⟩,q⟩
theorem un_neg:UnR X (unaryOp .USub) (rU λ i=> .int (-i)):=unI λ _ _ _ _ _ q=>neg_int q
end
section
variable {X:Cx} {a b c:Expr} {ta tb tc:TE} {pos:Pos}
theorem fin_bl {Q:VK} {k k':Bool} (I:Inv X pins σ H s) (q:Q (.bl k) H) (e:k=k'):EP X pins σ Q (.bool k') s:=by
 subst e;exact⟨.bl k,H,I,rfl,q⟩
theorem op_lt:OpR X (compareOp .Lt) (rI0 λ i j=> .bl (decide (i < j))):=opB0 λ _ _ _ _ _ _ _ q=>lt_int q
theorem op_le:OpR X (compareOp .LtE) (rI0 λ i j=> .bl (decide (i<=j))):=opB0 λ _ _ _ _ _ _ _ q=>le_int q
theorem op_gt:OpR X (compareOp .Gt) (rI0 λ i j=> .bl (decide (j < i))):=opB0 λ _ _ _ _ _ _ _ q=>gt_int q
theorem op_ge:OpR X (compareOp .GtE) (rI0 λ i j=> .bl (decide (j<=i))):=opB0 λ _ _ _ _ _ _ _ q=>ge_int q
theorem op_isN:OpR X (compareOp .Is) (λ x y H Q=>y= .non/\Q (.bl (decide (x= .non))) H):=by
 intro pins s σ H x y v u Q I rx ry h;obtain⟨rfl,q⟩:=h;cases ry;refine is_none_gen (fin_bl I q ?_);cases x <;> first
  |(cases rx;rfl)
  |(obtain⟨t,rfl⟩:=rx;rfl)
theorem OpR.or {r':R2} (h:OpR X f r) (h':OpR X f r'):OpR X f (λ x y H Q=>r x y H Q\/r' x y H Q):=by
 intro pins s σ H x y v u Q I rx ry q;rcases q with q |q
 ·exact h pins s σ H x y v u Q I rx ry q
 ·exact h' pins s σ H x y v u Q I rx ry q
theorem nomark (b:Expr) {op:CmpOp} (h:op≠.In:=by decide) (h2:op≠.NotIn:=by decide):behindInMarks op b=false:=by
 have e1:(op ==CmpOp.In)=false:=by cases op <;> first |rfl |exact absurd rfl h
 have e2:(op ==CmpOp.NotIn)=false:=by cases op <;> first |rfl |exact absurd rfl h2
 cases b <;> simp[behindInMarks,e1,e2]
theorem pe_cmpR {op:CmpOp} (ho:OpR X (compareOp op) r) (ha:PE X a ta) (hb:PE X b tb) (hm:behindInMarks op b=false):PE X (.Compare a [op] [b] pos) (tOp r ta tb):=by
 intro pins s σ H Q I h;exact wpAny_Compare1 (binT ha hb I h λ v u s2 x y H2 I2 rx ry q=>ho pins s2 σ H2 x y v u Q I2 rx ry q) hm
def tTest (t:TE):TT:=λ σ H Q=>t σ H λ x H'=>∃k,x= .bl k/\Q k H'
theorem pt_cmpR {op:CmpOp} (ho:OpR X (compareOp op) r) (ha:PE X a ta) (hb:PE X b tb) (hm:behindInMarks op b=false):PT X (.Compare a [op] [b] pos) (tTest (tOp r ta tb)):=by
 intro pins s σ H Q I h;refine wpAny_isTrue_Compare1 (thn (ha pins s σ H _ I h) λ v s1 ⟨x,H1,I1,r1,q1⟩=>thn (hb pins s1 σ H1 _ I1 q1) λ u s2 ⟨y,H2,I2,r2,q2⟩=>
  thn (ho pins s2 σ H2 x y v u _ I2 r1 r2 q2) λ c s3 ⟨z,H3,I3,r3,k,e,q3⟩=>?_) hm
 subst e;cases r3;exact wpAny_truthy_bool ⟨H3,I3,q3⟩
def tChain (r r':R2) (ta tb tc:TE):TE:=λ σ H Q=>ta σ H λ x H1=>tb σ H1 λ y H2=>r x y H2 λ z H3=>∃k,z= .bl k/\
 (if k=true then tc σ H3 λ w' H4=>r' y w' H4 Q else Q (.bl false) H3)
theorem pe_chain {op op':CmpOp} {r':R2} (ho:OpR X (compareOp op) r) (ho':OpR X (compareOp op') r') (ha:PE X a ta) (hb:PE X b tb) (hc:PE X c tc)
  (hm:lastMarks [op,op'] [b,c]=false:=by with_unfolding_all rfl):PE X (.Compare a [op,op'] [b,c] pos) (tChain r r' ta tb tc):=by
 intro pins s σ H Q I h;refine Compare_chain (thn (ha pins s σ H _ I h) λ v s1 ⟨x,H1,I1,r1,q1⟩=>chain_link (thn (hb pins s1 σ H1 _ I1 q1) λ u s2 ⟨y,H2,I2,r2,q2⟩=>
  thn (ho pins s2 σ H2 x y v u _ I2 r1 r2 q2) λ d s3 ⟨z,H3,I3,r3,k,e,q3⟩=>?_)) hm
 subst e;cases r3;refine wpAny_truthy_bool ?_;cases k with
 |false=>exact ite_ff ⟨.bl false,H3,I3,rfl,q3⟩
 |true=>exact ite_tt (chain_last (thn (hc pins s3 σ H3 _ I3 q3) λ w' s4 ⟨z',H4,I4,r4,q4⟩=>ho' pins s4 σ H4 y z' u w' Q I4 r2 r4 q4))
theorem pt_chain {op op':CmpOp} {r':R2} (ho:OpR X (compareOp op) r) (ho':OpR X (compareOp op') r') (ha:PE X a ta) (hb:PE X b tb) (hc:PE X c tc)
  (hm:lastMarks [op,op'] [b,c]=false:=by with_unfolding_all rfl):PT X (.Compare a [op,op'] [b,c] pos) (tTest (tChain r r' ta tb tc)):=by
 intro pins s σ H Q I h;refine isTrue_chain (thn (ha pins s σ H _ I h) λ v s1 ⟨x,H1,I1,r1,q1⟩=>test_link (thn (hb pins s1 σ H1 _ I1 q1) λ u s2 ⟨y,H2,I2,r2,q2⟩=>
  thn (ho pins s2 σ H2 x y v u _ I2 r1 r2 q2) λ d s3 ⟨z,H3,I3,r3,k,e,q3⟩=>?_)) hm
 subst e;cases r3;refine wpAny_truthy_bool ?_;cases k with
 | false=>
  obtain⟨k',e',q'⟩:=q3;cases e';exact ite_ff ⟨H3,I3,q'⟩
 | true=>
  refine ite_tt (test_last (thn (hc pins s3 σ H3 _ I3 q3) λ w' s4 ⟨z',H4,I4,r4,q4⟩=>thn (ho' pins s4 σ H4 y z' u w' _ I4 r2 r4 q4) λ d' s5 bH=>?_));obtain⟨z2,H5,I5,r5,k2,e2,q5⟩:=bH;subst e2;cases r5;exact wpAny_truthy_bool ⟨H5,I5,q5⟩
def TruV (K:PySem.W.Frag) (x:V) (H:Hp) (k:Bool):Prop:=
 match x with
 | .non=>k=false
 | .bl b=>k=b
 | .int i=>k=(i !=0)
 | .str y=>y.length<=sizeLine/\k=((y.length:Int) !=0)
 | .byt y=>y.size<=sizeLine/\k=((y.size:Int) !=0)
 | .ref p=>(∃xs,SqL K H p xs/\k= !xs.isEmpty)\/(∃xs,SqT K H p xs/\k= !xs.isEmpty)\/∃kvs,H p=some (.dK kvs)/\k= !kvs.isEmpty
 |_=>False
theorem isEmpty_kv {κ:Type} {kvs:List (κ×V)} {vs:List (κ×Value)} (r:KV kvs vs):(!vs.isEmpty)= !kvs.isEmpty:=by
 cases r <;> rfl
theorem isEmpty_of {xs:List V} {its:List Value} (r:Vals xs its):(!its.toArray.isEmpty)= !xs.isEmpty:=by
 cases r <;> simp
theorem line63:(sizeLine:Nat) < 2 ^ 63:=by rw[sizeLine_eq];decide
theorem tru_ok:TruR X (λ x H Q=>∃k,TruV X.K x H k/\Q k H):=by
 intro pins s σ H x v Q I rx h;obtain⟨k,e,q⟩:=h;have hl:=line63;have hs:sizeLine=16777216:=sizeLine_eq;cases x with
 | non=>
  cases rx;have e':k=false:=e;subst e';exact truthy_none ⟨H,I,q⟩
 | bl b=>
  cases rx;have e':k=b:=e;subst e';exact wpAny_truthy_bool ⟨H,I,q⟩
 | int i=>
  obtain⟨t,rfl⟩:=rx;have e':k=(i !=0):=e;subst e';exact PySem.P.truthy_int ⟨H,I,q⟩
 | str y=>
  obtain⟨t,rfl⟩:=rx;obtain⟨hy,e'⟩:y.length<=sizeLine/\k=((y.length:Int) !=0):=e;subst e';exact PySem.P.truthy_str (by omega) ⟨H,I.tok _,q⟩
 | byt y=>
  obtain⟨t,rfl⟩:=rx;obtain⟨hy,e'⟩:y.size<=sizeLine/\k=((y.size:Int) !=0):=e;subst e';exact PySem.W.truthy_bytes (by omega) ⟨H,I.tok _,q⟩
 | ref p=>
  cases rx;have e':(∃xs,SqL X.K H p xs/\k= !xs.isEmpty)\/(∃xs,SqT X.K H p xs/\k= !xs.isEmpty)\/∃kvs,H p=some (.dK kvs)/\k= !kvs.isEmpty:=e;rcases e' with⟨xs,hx,e'⟩ |⟨xs,hx,e'⟩ |⟨kvs,hx,e'⟩
  ·subst e';obtain⟨its,r,pl,hz⟩:=I.list hx;have hlen:=r.length;exact wpAny_truthy_list pl.isList (by simp only[z1c];omega) ⟨H,I.tok _,by rw[isEmpty_of r];exact q⟩
  ·subst e';obtain⟨its,r,pl,hz⟩:=I.tuple hx;have hlen:=r.length;exact truthy_tuple pl (by simp only[z1c];omega) ⟨H,I.tok _,by rw[isEmpty_of r];exact q⟩
  ·subst e';obtain⟨hz,hS,vs,r,m⟩:kvs.length<=sizeLine/\(p ==sysModules)=false/\∃vs,KV kvs vs/\s.heap.DictOf (mixKind X.prog X.w) p vs:=I.hok p _ hx;have hlen:kvs.length=vs.length:=Paired.length r;exact wpAny_truthy_dict hS m (by omega) ⟨H,I.tok _,by rw[isEmpty_kv r];exact q⟩
 |_=>exact (show False from e).elim
theorem pt_truth (ha:PE X a ta) (he:∀whole,isTrue a X.env whole=(do let v <-whole;standAt a.pos;holding [v] (truthy v))):
  PT X a (λ σ H Q=>ta σ H λ x H'=>∃k,TruV X.K x H' k/\Q k H'):=by
 intro pins s σ H Q I h;exact isTrue_plain (thn (ha pins s σ H _ I h) λ v s1 ⟨x,H1,I1,r1,q1⟩=>tru_ok pins s1 σ H1 x v Q I1 r1 q1) (he _)
theorem vals1 {x:V} (r:Vals [x] us):∃u,us=[u]/\RelV x u:=by
 cases r with
 |cons r1 r2=>cases r2;exact⟨_,rfl,r1⟩
theorem vals2 {x y:V} (r:Vals [x,y] us):∃u w',us=[u,w']/\RelV x u/\RelV y w':=by
 cases r with
 | cons r1 r2=>
  cases r2 with
  |cons r3 r4=>cases r4;exact⟨_,_,rfl,r1,r3⟩
theorem call_abs:CallR X (.builtin "abs") (λ xs H Q=>∃i,xs=[.int i]/\Q (.int (if i < 0 then -i else i)) H):=by
 intro pins s σ H xs us Q I r h;obtain⟨i,rfl,q⟩:=h;obtain⟨u,rfl,t,rfl⟩:=vals1 r;exact call_abs_int λ u tk=>⟨.int (if i < 0 then -i else i),H,I.tok _,⟨_,rfl⟩,q⟩
theorem call_max2 (hc:X.calm=true):CallR X (.builtin "max") (λ xs H Q=>∃i j,xs=[.int i,.int j]/\Q (.int (if j > i then j else i)) H):=by
 intro pins s σ H xs us Q I r h;obtain⟨i,j,rfl,q⟩:=h;obtain⟨u,w',rfl,⟨t,rfl⟩,⟨t',rfl⟩⟩:=vals2 r;refine max_two_ints (I.ok.hd hc) λ h' tk k=>⟨_,H,I.kept k,?_,q⟩;by_cases hj:j > i
 ·rw[if_pos hj,if_pos hj];exact⟨_,rfl⟩
 ·rw[if_neg hj,if_neg hj];exact⟨_,rfl⟩
theorem call_min2 (hc:X.calm=true):CallR X (.builtin "min") (λ xs H Q=>∃i j,xs=[.int i,.int j]/\Q (.int (if j < i then j else i)) H):=by
 intro pins s σ H xs us Q I r h;obtain⟨i,j,rfl,q⟩:=h;obtain⟨u,w',rfl,⟨t,rfl⟩,⟨t',rfl⟩⟩:=vals2 r;refine min_two_ints (I.ok.hd hc) λ h' tk k=>⟨_,H,I.kept k,?_,q⟩;by_cases hj:j < i
 ·rw[if_pos hj,if_pos hj];exact⟨_,rfl⟩
 ·rw[if_neg hj,if_neg hj];exact⟨_,rfl⟩
end
section
variable {prog:Program} {w:World} {A:Around} {E:Value->Shared->Prop} {s:Shared} {K:PySem.W.Frag} {x dx C f:Addr} {mA:Str->Option Value} {name:Str} {v:Value}
end
section
variable {P:Program} {w:World} {H H':Hp} {h h':Heap} {a C dx:Addr} {fs fs':List (Str×V)}
end
section
variable {X:Cx} {pins:List (Addr×Obj)} {σ:St} {H:Hp} {s:Shared} {a C dx:Addr} {fs:List (Str×V)} {f:Str} {v:V} {A:Around} {E:Value->Shared->Prop}
end
section
variable {X:Cx} {o e value:Expr} {f:Str} {pos pos' tpos:Pos} {ta tv:TE}
end
section
variable {X:Cx} {pins:List (Addr×Obj)} {σ:St} {H:Hp} {s:Shared} {A:Around} {E:Value->Shared->Prop} {Q:Value->Shared->Prop} {c:Value} {b:Bool}
end
structure Room (k:Nat) (A:Around):Prop where
 hd:A.handled=none
 dp:A.depth+3*k+5 < recursionLimit
 un:A.units+16*k+200 < cLine
theorem Room.mono {j:Nat} (r:Room k A) (h:j<=k):Room j A:=⟨r.hd,by have:=r.dp;omega,by have:=r.un;omega⟩
theorem Room.deeper (r:Room (k+1) A) (env:Env):Room k (A.deeper env):=
 ⟨r.hd,by have:=r.dp;show A.depth+1+3*k+5 < _;omega,by have:=r.un;show A.units+3+16*k+200 < _;omega⟩
theorem Room.depth (r:Room k A):A.depth < recursionLimit:=by have:=r.dp;omega
def tNil:TA:=λ _ H Q=>Q [] H
def tCons (ta:TE) (tr:TA):TA:=λ σ H Q=>ta σ H λ x H1=>tr σ H1 λ xs H2=>Q (x::xs) H2
section
variable {X:Cx} {e:Expr} {es:List Expr} {te:TE} {t:TA} {pos:Pos}
theorem pa_nil:PA X [] tNil:=λ _ _ _ _ H Q I h=>Calls.spliced_nil ⟨[],H,I,.nil,h⟩
theorem pa_cons (ha:PE X e te) (hr:PA X es t) (hs:starEach (e::es) X.env=(false,eval e X.env)::starEach es X.env:=by rfl):PA X (e::es) (tCons te t):=by
 intro pos pins s σ H Q I h;rw[hs];show wpAny _ _ (spliced ((false,eval e X.env)::backTo pos (starEach es X.env))) _ _ s;refine Calls.spliced_cons (thn (ha pins s σ H _ I h) λ u s1 bH=>?_);obtain⟨x,H1,I1,r1,q1⟩:=bH;refine thn (hr pos pins s1 σ H1 _ I1 q1) λ us s2 bH=>?_;obtain⟨xs,H2,I2,r2,q2⟩:=bH;exact⟨x::xs,H2,I2,.cons r1 r2,q2⟩
def tTup (t:TA):TE:=λ σ H Q=>t σ H λ xs H1=>xs.length<=sizeLine/\∀p,H1 p=none->Q (.ref p) (upd H1 p (.tup xs))
def tLst (t:TA):TE:=λ σ H Q=>t σ H λ xs H1=>xs.length<=sizeLine/\∀p,H1 p=none->Q (.ref p) (upd H1 p (.lst xs))
theorem pe_tup {x1} (h:PA X es t):PE X (.Tuple es x1 pos) (tTup t):=by
 intro pins s σ H Q I hq;refine wpAny_Tuple_spliced (thn (h pos pins s σ H _ I hq) λ us s1 ⟨xs,H1,I1,r,z,q⟩=>⟨by rw[<-r.length];exact z,?_⟩);have hf:H1 s1.heap.objs.size=none:=I1.hok.fresh (z0g _);refine⟨.ref s1.heap.objs.size,upd H1 s1.heap.objs.size (.tup xs),I1.laid (t':=s1.toks) (λ b u e=>z1a _ e) (z0g _) ?_,rfl,q _ hf⟩;exact⟨z,us,r,⟨_,z1f _ rfl,rfl,_,rfl⟩⟩
theorem pe_lst (h:PA X es t):PE X (.List es pos) (tLst t):=by
 intro pins s σ H Q I hq;refine wpAny_List_spliced (thn (h pos pins s σ H _ I hq) λ us s1 ⟨xs,H1,I1,r,z,q⟩=>⟨by rw[<-r.length];exact z,?_⟩);have hf:H1 s1.heap.objs.size=none:=I1.hok.fresh (z0g _);refine⟨.ref s1.heap.objs.size,upd H1 s1.heap.objs.size (.lst xs),I1.laid (t':=s1.toks) (λ b u e=>z1a _ e) (z0g _) ?_,rfl,q _ hf⟩;exact⟨z,us,0,r,z1f _ rfl⟩
end
abbrev Sp:=List V->Hp->VK->XK->Prop
abbrev CXT:=List Env->Hp->Shared->XK->Value->Shared->Prop
structure Env0 (P:Program) (w:World) (K:PySem.W.Frag) (mg:Str->Option Value) (base:Heap) (A:Around) (outer:List Env) (s:Shared) (H:Hp):Prop where
 frames:A.frames=some outer
 mod:Mod K mg base
 bs:∀b o,base.get? b=some o->s.heap.get? b=some o/\H b=none
 bsz:base.objs.size<=s.heap.objs.size
 funs:s.heap.FunFrames base outer
 frf:∀b∈frs outer,H b=none
 hok:HOk P w H s.heap
 bare:AllBare s.gens
inductive CE (outer:List Env) (P:Program) (w:World) (H:Hp) (s:Shared) (Q:VK) (u:Value) (s':Shared):Prop
 |mk (v:V) (H':Hp) (os:s'.os=s.os) (bare:AllBare s'.gens) (un:Un (frs outer) [] H H' s.heap s'.heap) (hok:HOk P w H' s'.heap) (r:RelV v u) (q:Q v H'):CE outer P w H s Q u s'
def CR (CX:CXT) (outer:List Env) (P:Program) (w:World) (H:Hp) (s:Shared) (Q:VK) (E:XK) (r:Result) (s':Shared):Prop:=
 match r with
 | .ok (.ret u)=>CE outer P w H s Q u s'
 | .ok _=>False
 | .error e=>CX outer H s E e s'
structure FnOk (P:Program) (w:World) (K:PySem.W.Frag) (mg:Str->Option Value) (base:Heap) (CX:CXT) (k:Nat) (f:Addr) (fd:FuncData) (ps:List Str) (sp:Sp):Prop where
 len:∀vs H Q E,sp vs H Q E->vs.length=ps.length
 run:∀(A:Around) (outer:List Env) (s:Shared) (H:Hp) (args:Args) (us:List Value) (vs:List V) (Q:VK) (E:XK),Room k A->Env0 P w K mg base A outer s H->BindsTo s fd args (ps.zip us)->Vals vs us->sp vs H Q E->
  codeAny (model P w) A (.call (.ref f) args) (CR CX outer P w H s Q E) s
theorem FnOk.mono {j:Nat} {f:Addr} {fd:FuncData} {sp:Sp} (F:FnOk P w K mg base CX j f fd ps sp) (h:j<=k):
  FnOk P w K mg base CX k f fd ps sp:=⟨F.len,λ A outer s H args us vs Q E hr=>F.run A outer s H args us vs Q E (hr.mono h)⟩
section
variable {X:Cx} {pins:List (Addr×Obj)} {σ:St} {H:Hp} {s s':Shared}
theorem Inv.env0 (I:Inv X pins σ H s):Env0 X.prog X.w X.K X.mg X.base X.A X.stack s H:=
 ⟨I.ok.frames,I.ok.mod,I.bs,z0b I.ok.bsz I.sz,I.stack,I.stkFree,I.hok,I.bare⟩
theorem Inv.after {Q:VK} {u:Value} (I:Inv X pins σ H s) (h:CE X.stack X.prog X.w H s Q u s'):EP X pins σ Q u s':=by
 obtain⟨v,H',os,bare,un,hok,r,q⟩:=h;obtain⟨hh,g,d,t,os'⟩:=s';obtain rfl:os'=s.os:=os;exact⟨v,H',I.call (h':=hh) (g':=g) (d':=d) (t':=t) (ch:=[]) un hok bare (λ b z=>absurd z (by simp)),r,q⟩
end
def tCall (sp:Sp) (dvs:List V) (E:XK) (t:TA):TE:=λ σ H Q=>t σ H λ vs H1=>sp (vs++dvs) H1 Q E
def Binds (K:PySem.W.Frag) (fd:FuncData) (ps:List Str) (ds:List Value):Prop:=
 ∀(s:Shared) (us:List Value),K.In s.heap->(us++ds).length=ps.length->BindsTo s fd ⟨us,[]⟩ (ps.zip (us++ds))
theorem Binds.all {fd:FuncData} (h:∀us:List Value,us.length=ps.length->bindArgs fd ⟨us,[]⟩=pure (ps.zip us)):Binds K fd ps []:=λ s us _ hl=>by
 rw[List.append_nil] at hl |-;exact .of_eq (h us hl)
def Passes (CX:CXT) (X:Cx) (E:XK):Prop:=∀(pins:List (Addr×Obj)) (σ:St) (H:Hp) (s:Shared) (e:Value) (s':Shared),Inv X pins σ H s->CX X.stack H s E e s'->X.xe e s'
section
variable {X:Cx} {CX:CXT} {k:Nat} {f C:Addr} {fd:FuncData} {ps:List Str} {sp:Sp} {dvs:List V} {ds:List Value} {E:XK} {x m:Str} {p pos apos:Pos} {e o:Expr} {es:List Expr} {ta:TE} {t:TA}
theorem run_fn {Q:VK} {vs:List V} (F:FnOk X.prog X.w X.K X.mg X.base CX k f fd ps sp) (hr:Room k X.A) (hb:Binds X.K fd ps ds) (hd:Vals dvs ds) (hx:Passes CX X E)
  (I:Inv X pins σ H s) (r:Vals vs us) (h:sp (vs++dvs) H Q E):wpAny (model X.prog X.w) X.A (call (.ref f) us) (EP X pins σ Q) X.xe s:=by
 have r2:Vals (vs++dvs) (us++ds):=r.append hd;have hl:(us++ds).length=ps.length:=by rw[<-r2.length];exact F.len _ _ _ _ h
 refine wpAny_call (codeAny_mono (F.run X.A X.stack s H ⟨us,[]⟩ (us++ds) (vs++dvs) Q E hr I.env0 (hb s us I.kIn hl) r2 h) λ r s' hq=>?_);cases r with
 |error e=>exact hx pins σ H s e s' I hq
 | ok fl=>
  cases fl with
  |ret u=>exact I.after hq
  |next=>exact False.elim hq
  |brk=>exact False.elim hq
  |cont=>exact False.elim hq
theorem pe_call (F:FnOk X.prog X.w X.K X.mg X.base CX k f fd ps sp) (hr:Room k X.A) (hg:Gl X x) (hm:X.mg x=some (.ref f)) (hk:PySem.W.keepIn X.K (.ref f)=true) (hb:Binds X.K fd ps ds) (hd:Vals dvs ds) (hx:Passes CX X E)
  (ha:PA X (e::es) t) (hdb:(x ==("__debug__" :Str))=false:=by decide) (he:starEach (e::es) X.env=(false,eval e X.env)::starEach es X.env:=by rfl) (hpl:(backTo pos (starEach es X.env)).any (·.1)=false:=by rfl):
  PE X (.Call (.Name x p) (e::es) [] pos) (tCall sp dvs E t):=by
 intro pins s σ H Q I h;refine wpAny_Call_Name_kw (ld_glob I hg hm ?_ hdb);refine PySem.W.callWith_K (h₀:=X.base) I.ok.mod.kin hk (thn (ha pos pins s σ H _ I h) λ us s1 ⟨vs,H1,I1,r,q⟩=>⟨I1.kIn,?_⟩) he hpl;exact run_fn F hr hb hd hx I1 r q
end
def PK (X:Cx) (kws:List Keyword) (t:TA):Prop:=
 ∀(pos:Pos) (pins:List (Addr×Obj)) (s:Shared) (σ:St) (H:Hp) (Q:List V->Hp->Prop),Inv X pins σ H s->t σ H Q->wpAny (model X.prog X.w) X.A (evalAll ((backToKw pos (keywordEach kws X.env)).map (·.2))) (AP X pins σ Q) X.xe s
section
variable {X:Cx} {CX:CXT} {k:Nat} {f C:Addr} {fd:FuncData} {ps ks:List Str} {sp:Sp} {E:XK} {x m:Str} {p pos apos kpos:Pos} {e o:Expr} {es:List Expr} {kws:List Keyword} {te ta:TE} {t tk:TA} {nm:Option Str}
theorem pk_nil:PK X [] tNil:=λ _ _ _ _ H Q I h=>wpAny_evalAll_nil ⟨[],H,I,.nil,h⟩
theorem pk_cons (ha:PE X e te) (hr:PK X kws t):PK X (⟨nm,e,kpos⟩::kws) (tCons te t):=by
 intro pos pins s σ H Q I h;show wpAny _ _ (evalAll ((do let v <-eval e X.env;standAt pos;pure v)::(backToKw pos (keywordEach kws X.env)).map (·.2))) _ _ s;refine wpAny_evalAll_cons (wpAny_bind (thn (ha pins s σ H _ I h) λ u s1 ⟨x,H1,I1,r1,q1⟩=>wpAny_bind (wpAny_standAt (wpAny_pure ?_))));refine thn (hr pos pins s1 σ H1 _ I1 q1) λ us s2 bH=>?_;obtain⟨xs,H2,I2,r2,q2⟩:=bH;exact⟨x::xs,H2,I2,.cons r1 r2,q2⟩
variable {g:List Value->List Value->List Value} {gV:List V->List V->List V}
end
structure FnScope (N P:List Str) (sc:Scope):Prop where
 kind:sc.kind= .function
 co:sc.isCoroutine=false
 gen:sc.isGenerator=false
 nd:N.Nodup
 pre:N.take P.length=P
 par:∀x∈P,sc.names.lookup x=some .local\/sc.names.lookup x=some .cell
 nofree:∀y∈sc.names,y.2≠.free
theorem bindL_out {kindOf:Str->Option NameKind} {x:Str}:∀{binds:List (Str×Value)} {m:Str->Option Value},(∀v,(x,v)∉binds)->bindL kindOf binds m x=m x
 |[],_,_=>rfl
 | (n,v)::r,m,h=>by
  unfold bindL;rw[bindL_out λ w hw=>h w (z2f _ hw)];split
  ·have:x≠n:=by rintro rfl;exact h v List.mem_cons_self
   simp[this]
  ·rfl
theorem bindC_out {kindOf:Str->Option NameKind} {x:Str}:∀{binds:List (Str×Value)} {m:Str->Option Value},(∀v,(x,v)∉binds)->bindC kindOf binds m x=m x
 |[],_,_=>rfl
 | (n,v)::r,m,h=>by
  unfold bindC;rw[bindC_out λ w hw=>h w (z2f _ hw)];split
  ·rfl
  ·have:x≠n:=by rintro rfl;exact h v List.mem_cons_self
   simp[this]
theorem bindL_get {kindOf:Str->Option NameKind} {x:Str} {v:Value}:∀{P:List Str} {vs:List Value} {i:Nat} {m:Str->Option Value},P.Nodup->P[i]?=some x->vs[i]?=some v->kindOf x=some .local->
  bindL kindOf (P.zip vs) m x=some v
 |[],_,_,_,_,h,_,_=>by simp at h
 |_::_,[],_,_,_,_,h,_=>by simp at h
 | p::P,w::vs,0,m,nd,h1,h2,hk=>by
  simp at h1 h2;subst h1;subst h2;show bindL kindOf ((p,w)::P.zip vs) m p=_;unfold bindL;rw[bindL_out λ v hv=>(List.nodup_cons.mp nd).1 (List.of_mem_zip hv).1,if_pos hk];simp
 | p::P,w::vs,i+1,m,nd,h1,h2,hk=>by
  show bindL kindOf ((p,w)::P.zip vs) m x=_;unfold bindL;exact bindL_get (i:=i) (List.nodup_cons.mp nd).2 (by simpa using h1) (by simpa using h2) hk
theorem bindC_get {kindOf:Str->Option NameKind} {x:Str} {v:Value}:∀{P:List Str} {vs:List Value} {i:Nat} {m:Str->Option Value},P.Nodup->P[i]?=some x->vs[i]?=some v->kindOf x≠some .local->
  bindC kindOf (P.zip vs) m x=some v
 |[],_,_,_,_,h,_,_=>by simp at h
 |_::_,[],_,_,_,_,h,_=>by simp at h
 | p::P,w::vs,0,m,nd,h1,h2,hk=>by
  simp at h1 h2;subst h1;subst h2;show bindC kindOf ((p,w)::P.zip vs) m p=_;unfold bindC;rw[bindC_out λ v hv=>(List.nodup_cons.mp nd).1 (List.of_mem_zip hv).1,if_neg hk];simp
 | p::P,w::vs,i+1,m,nd,h1,h2,hk=>by
  show bindC kindOf ((p,w)::P.zip vs) m x=_;unfold bindC;exact bindC_get (i:=i) (List.nodup_cons.mp nd).2 (by simpa using h1) (by simpa using h2) hk
def start (N:List Str) (vs:List V):St:=vs.map some++List.replicate (N.length - vs.length) none
def cxOf (CX:CXT) (P:Program) (w:World) (K:PySem.W.Frag) (mg:Str->Option Value) (base:Heap) (N:List Str) (qual:Str) (scope:Scope) (f:Addr) (cd:Value) (A:Around) (outer:List Env) (s:Shared) (H:Hp) (E:XK):Cx where
 prog:=P
 w:=w
 K:=K
 mg:=mg
 base:=base
 A:=A.deeper (envOfC qual scope s.heap.objs.size f cd)
 N:=N
 s₀:=s
 H₀:=H
 env:=envOfC qual scope s.heap.objs.size f cd
 outer:=outer
 stack:=envOfC qual scope s.heap.objs.size f cd::outer
 ex:=[]
 calm:=true
 fn:=λ _=>true
 pn:=[]
 xe:=λ e s'=>wpAny (model P w) (A.deeper (envOfC qual scope s.heap.objs.size f cd)) (leaving (envOfC qual scope s.heap.objs.size f cd) e) (λ _ s''=>CX outer H s E e s'') (λ e' s''=>CX outer H s E e' s'') s'
theorem cell_has {sc:Scope} {n:Nat} {x:Str} (h:sc.names.lookup x=some .cell):∃c,(cellsFrom n sc.names []).lookup x=some c:=by
 have q:=PySem.W.cellsFrom_some sc.names n [] (.inl h);exact Option.isSome_iff_exists.mp q
theorem inv_start {qual:Str} {scope:Scope} {f:Addr} {cd:Value} {outer:List Env} {s1:Shared} {E:XK} {vs:List V}
  (S:FnScope N ps scope) (hd:A.handled=none) (e0:Env0 P w K mg base A outer s H) (hl:vs.length=ps.length) (r:Vals vs us)
  (x:InCallC s s.heap.objs.size (bindL (envOfC qual scope s.heap.objs.size f cd).kindOf (ps.zip us) λ _=>none) (cellsFrom (s.heap.objs.size+1) scope.names []) (bindC (envOfC qual scope s.heap.objs.size f cd).kindOf (ps.zip us) λ _=>none) s1):
  Inv (cxOf CX P w K mg base N qual scope f cd A outer s H E) [] (start N vs) H s1:=by
 have hpl:ps.length<=N.length:=by have:=congrArg List.length S.pre;rw[List.length_take] at this;omega
 obtain⟨h1,tk,rfl,hk⟩:=x.done;have noA:∀b:Addr,b∉(cxOf CX P w K mg base N qual scope f cd A outer s H E).ex:=λ b z=>absurd (show b∈([]:List Addr) from z) (by simp);refine⟨⟨e0.mod,S.kind,rfl,rfl,z0g _,λ y z c h1 h2=>?_,λ y hy=>?_,λ y c _ h=>?_,λ _=>hd,Around.frames_deeper e0.frames,.inr ⟨rfl,rfl⟩,λ b z=>absurd z (noA b),e0.bs,e0.bsz,λ b _ _=>noA b,λ b z=>absurd z (noA b),e0.funs,e0.frf⟩,
  rfl,e0.bare,Un.kept hk,⟨_,x.toInCall.ns,λ i y v h1 h2 h3=>?_⟩,λ y c h=>⟨_,x.cell y c h⟩,e0.hok.fresh (z0g _),λ y c h=>?_,λ p hp=>absurd (show p∈([]:List (Addr×Obj)) from hp) (by simp),e0.hok.kept hk,?_⟩
 ·exact name_of_addr x.apart (PySem.mem_of_lookup h1) (PySem.mem_of_lookup h2)
 ·have hy:scope.names.lookup y=some .cell\/scope.names.lookup y=some .free:=hy;rcases hy with hy |hy
  ·exact cell_has hy
  ·exact absurd rfl (S.nofree _ (PySem.mem_of_lookup hy))
 ·exact z0e (x.above y c (PySem.mem_of_lookup h))
 ·have hi:i < vs.length:=by
   unfold start at h2;by_cases hi:i < vs.length
   ·exact hi
   ·rw[List.getElem?_append_right (by simpa using hi)] at h2;rw[List.getElem?_replicate] at h2;split at h2 <;> cases h2
  have ha:vs[i]?=some v:=by
   unfold start at h2;rw[List.getElem?_append_left (by simpa using hi),z2b] at h2;cases e:vs[i]? with
   |none=>rw[e] at h2;cases h2
   |some a=>rw[e] at h2;cases h2;rfl
  obtain⟨u,hu,rv⟩:=r.get ha;have hp:ps[i]?=some y:=by
   rw[<-S.pre,List.getElem?_take_of_lt (by omega)];exact h1
  have ndP:ps.Nodup:=by rw[<-S.pre];exact S.nd.sublist (List.take_sublist _ _)
  refine⟨u,rv,?_⟩;rcases S.par y (List.mem_of_getElem? hp) with k |k
  ·exact .inl ⟨k,bindL_get ndP hp hu k⟩
  ·obtain⟨c,e⟩:=cell_has (n:=s.heap.objs.size+1) k;refine .inr ⟨.inl k,c,e,?_⟩;have q:=x.cell y c e;rw[bindC_get ndP hp hu (by show scope.names.lookup y≠_;rw[k];decide)] at q;exact q
 ·exact e0.hok.fresh (z0e (x.above y c (PySem.mem_of_lookup h)))
 ·unfold start;show _=N.length;rw[z1d,z1g,List.length_replicate];omega
theorem fn_of {f:Addr} {name qual:Str} {params:Arguments} {scope:Scope} {dV kV doc pm cdv ct oc:Value} {an od:Option Addr}
  {osl:Array (Option Value)} {sp:Sp} (lk:K.lookup f=some ⟨oc,od,.func (PySem.W.fnOf name qual params body scope dV kV doc pm an cdv ct),osl⟩) (hcd:PySem.W.codeIn K cdv qual=true) (S:FnScope N ps scope)
  (len:∀vs H Q E,sp vs H Q E->vs.length=ps.length)
  (hbody:∀(A:Around) (outer:List Env) (s:Shared) (H:Hp) (vs:List V) (Q:VK) (E:XK),Room k (A.deeper (envOfC qual scope s.heap.objs.size f cdv))->sp vs H Q E->
   ∃t,PSs (cxOf CX P w K mg base N qual scope f cdv A outer s H E) body t/\t {nx:=λ _ H'=>Q .non H',rt:=Q} (start N vs) H):
  FnOk P w K mg base CX (k+1) f (PySem.W.fnOf name qual params body scope dV kV doc pm an cdv ct) ps sp:=by
 refine⟨len,λ A outer s H args us vs Q E hr e0 hb r hsp=>?_⟩;have hl:=len _ _ _ _ hsp;have KX:K.In s.heap:=e0.mod.kin.keeps λ b o e=>(e0.bs b o e).1;have lim:s.heap.NoLimit:=e0.mod.nolimit.keeps λ b o e=>(e0.bs b o e).1;have hkind:∀y∈ps.zip us,scope.names.lookup y.1=some .local\/(scope.names.lookup y.1=some .cell/\((cellsFrom (s.heap.objs.size+1) scope.names []).lookup y.1).isSome=true):=λ ⟨n,v⟩ hy=>by
  rcases S.par n (List.of_mem_zip hy).1 with q |q
  ·exact .inl q
  ·exact .inr ⟨q,PySem.W.cellsFrom_some _ _ _ (.inl q)⟩
 refine codeAny_call_function hr.depth (KX _ _ lk) rfl S.co S.gen rfl (PySem.W.codeRec_of KX hcd) (hb _ _ _ _ ?_);refine wpAny_newFunctionEnv_cells S.kind hkind λ env he s1 x=>?_;subst he;refine⟨lim.keeps x.toInCall.keep,codeAny_func ?_⟩;obtain⟨t,ht,hq⟩:=hbody A outer s H vs Q E (hr.deeper _) hsp;have I:Inv (cxOf CX P w K mg base N qual scope f cdv A outer s H E) [] (start N vs) H s1:=inv_start S hr.hd e0 hl r x;refine wpAny_mono (ht [] s1 (start N vs) H _ I hq) (λ fl s' hs=>?_) λ e s' hs=>hs;have fin:∀{σ':St} {H':Hp} {v:V} {u:Value},Inv (cxOf CX P w K mg base N qual scope f cdv A outer s H E) [] σ' H' s'->RelV v u->Q v H'->CE outer P w H s Q u s':=
  λ {σ' H' v u} J rv q=>⟨v,H',J.os,J.bare,J.base,J.hok,rv,q⟩
 cases fl with
 | ret u=>
  obtain⟨v,σ',H',J,rv,q⟩:=hs;exact fin J rv q
 | next=>
  obtain⟨σ',H',J,q⟩:=hs;exact fin (v:=V.non) (u:=Value.none) J rfl q
 | brk=>
  obtain⟨_,_,_,q⟩:=hs;exact False.elim q
 | cont=>
  obtain⟨_,_,_,q⟩:=hs;exact False.elim q
section
variable {X:Cx} {x:Str} {p pos:Pos} {e:Expr} {es:List Expr} {t:TA} {id T:String} {r:List V->Hp->VK->Prop}
def tCB (r:List V->Hp->VK->Prop) (t:TA):TE:=λ σ H Q=>t σ H λ vs H1=>r vs H1 Q
theorem pe_callB (hc:CallR X (.builtin id) r) (hg:Gl X x) (hm:X.mg x=none) (hv:bootBuiltins x=some (.builtin id)) (ha:PA X (e::es) t) (hn:x≠"__name__" :=by decide) (hdb:(x ==("__debug__" :Str))=false:=by decide)
  (he:starEach (e::es) X.env=(false,eval e X.env)::starEach es X.env:=by rfl) (hpl:(backTo pos (starEach es X.env)).any (·.1)=false:=by rfl):PE X (.Call (.Name x p) (e::es) [] pos) (tCB r t):=by
 intro pins s σ H Q I h;refine wpAny_Call_Name_kw (ld_blt I hg hm hv ?_ hn hdb);exact PyProof.Rows.callWith_builtin1 (thn (ha pos pins s σ H _ I h) λ us s1 ⟨vs,H1,I1,r1,q1⟩=>hc pins s1 σ H1 vs us Q I1 r1 q1) he hpl
theorem pe_callTy (hc:CallR X (.type T) r) (hg:Gl X x) (hm:X.mg x=none) (hv:bootBuiltins x=some (.type T)) (ha:PA X (e::es) t) (hn:x≠"__name__" :=by decide) (hdb:(x ==("__debug__" :Str))=false:=by decide)
  (he:starEach (e::es) X.env=(false,eval e X.env)::starEach es X.env:=by rfl) (hpl:(backTo pos (starEach es X.env)).any (·.1)=false:=by rfl):PE X (.Call (.Name x p) (e::es) [] pos) (tCB r t):=by
 intro pins s σ H Q I h;refine wpAny_Call_Name_kw (ld_blt I hg hm hv ?_ hn hdb);exact PyProof.Rows.callWith_type1 (thn (ha pos pins s σ H _ I h) λ us s1 ⟨vs,H1,I1,r1,q1⟩=>hc pins s1 σ H1 vs us Q I1 r1 q1) he hpl
end
end L2
namespace HT
open PySem PyProof.Rows
section
open PySem.SeqAt
open PySem.AutoSeq1 (wpAny_loadPart')
open PySem.MeetsSeq PySem.MeetsSeq2 PySem.MeetsSeq3
end
section
variable {prog:Program} {w:World} {A:Around} {E:Value->Shared->Prop} {s:Shared}
theorem cat_tup {t b:Addr} {vs ws:List Value} {Q:Value->Shared->Prop} (ht:IsTup s.heap t vs.toArray) (hb:IsTup s.heap b ws.toArray) (hv:vs≠[])
  (h1:ws=[]->Q (.ref t) s) (h2:ws≠[]->Q (.ref s.heap.objs.size) {s with heap:=s.heap.push {cls:= .type "tuple",data:= .seq (vs++ws).toArray}})
  (hsz:vs.length+ws.length<=sizeLine):wpAny (model prog w) A (binaryOp .Add (.ref t) (.ref b)) Q E s:=by
 obtain⟨⟨cls,dd,data,sl⟩,ho,hc,n,hd⟩:=id ht;obtain⟨⟨cls2,dd2,data2,sl2⟩,ho2,hc2,n2,hd2⟩:=id hb;simp only at hc hd hc2 hd2;subst hc hd hc2 hd2;have e:vs.toArray++ws.toArray=(vs++ws).toArray:=by simp
 by_cases hw:ws=[]
 ·exact concat_meets ⟨_,ho,rfl⟩ ⟨_,ho2,rfl⟩ noFill_tuple_add seq_tuple_add PySem.F.slot_tuple_add PySem.F.entry_tuple_add (PySem.F.args_tuple_add_2 _ _)
   (tuple_addW1 t b vs.toArray ws.toArray n n2 dd dd2 sl sl2 (by simpa using hv) (by simp[hw])) ⟨ho,ho2,h1 hw⟩
 ·refine concat_meets ⟨_,ho,rfl⟩ ⟨_,ho2,rfl⟩ noFill_tuple_add seq_tuple_add PySem.F.slot_tuple_add PySem.F.entry_tuple_add (PySem.F.args_tuple_add_2 _ _)
   (tuple_addW2 t b vs.toArray ws.toArray n n2 dd dd2 sl sl2 (by simpa using hv) (by simpa using hw) (by rw[z1c,z1c];exact hsz)) ⟨ho,ho2,?_⟩
  rw[e];exact h2 hw
def sIx (n d:Nat):Option Int->Nat
 |none=>d
 |some v=>if v < 0 then (v+(n:Int)).toNat else min v.toNat n
theorem sIx_le (n d:Nat) (hd:d<=n) (o:Option Int):sIx n d o<=n:=by
 cases o with
 |none=>exact hd
 | some v=>
  show (if v < 0 then (v+(n:Int)).toNat else min v.toNat n)<=n;by_cases hv:v < 0
  ·rw[if_pos hv];omega
  ·rw[if_neg hv];exact Nat.min_le_right _ _
theorem Wg (a b:Nat):((min a b:Nat):Int)=min (a:Int) (b:Int):=by
 rcases Nat.le_total a b with h |h
 ·rw[Nat.min_eq_left h,Int.min_eq_left (Int.ofNat_le.mpr h)]
 ·rw[Nat.min_eq_right h,Int.min_eq_right (Int.ofNat_le.mpr h)]
theorem adg {i:Int} (n:Nat) (h:i < 0):max 0 (min (i+(n:Int)) (n:Int))=(((i+(n:Int)).toNat:Nat):Int):=by
 rw[Int.min_eq_left (by omega),Int.max_comm];exact (Int.ofNat_toNat _).symm
theorem adh (k n:Nat):max 0 (min (k:Int) (n:Int))=((min (k:Int).toNat n:Nat):Int):=by
 rw[Int.max_eq_right (Int.le_min.mpr ⟨Int.natCast_nonneg _,Int.natCast_nonneg _⟩)];exact (Wg k n).symm
theorem clip_eq (v:Int) (n d:Nat):(if v < 0 then max (v+(n:Int)) 0 else min v (n:Int))=((sIx n d (some v):Nat):Int):=by
 show (if v < 0 then max (v+(n:Int)) 0 else min v (n:Int))=(((if v < 0 then (v+(n:Int)).toNat else min v.toNat n):Nat):Int);by_cases hv:v < 0
 ·simp only[if_pos hv];exact (Int.ofNat_toNat _).symm
 ·simp only[if_neg hv];obtain⟨k,rfl⟩:=Int.eq_ofNat_of_zero_le (Int.not_lt.mp hv);exact (Wg k n).symm
theorem adjust_gen (lo hi:Option Int) (n:Nat):Builtin.Slice.sliceAdjust lo hi 1 (n:Int)=(((sIx n 0 lo:Nat):Int),((sIx n n hi:Nat):Int)):=by
 have h1:¬((1:Int) < 0):=by omega
 unfold Builtin.Slice.sliceAdjust;simp only[h1,if_false];refine Prod.ext ?_ ?_
 ·cases lo with
  |none=>rfl
  |some v=>exact clip_eq v n 0
 ·cases hi with
  |none=>rfl
  |some v=>exact clip_eq v n n
theorem places_gen (i j:Nat):Builtin.Slice.slicePlaces (i:Int) (j:Int) 1=j - i:=by
 unfold Builtin.Slice.slicePlaces;have h1:(1:Int) > 0:=by omega
 simp only[h1,if_true,Int.ediv_one];split <;> omega
theorem slicePart_ {v:Value} {o:Option Int} {Q:Option Int->Shared->Prop} (p:IsPart v o) (h:Q o s):wpAny (model prog w) A (Builtin.Slice.slicePartIndex v) Q E s:=by
 cases p with
 |none=>exact slicePart_none h
 |int i t=>exact slicePart_int h
theorem sliceApplied_gen {sl:Addr} {vl vu:Value} {lo hi:Option Int} {n:Nat} {Q:Int×Int×Nat->Shared->Prop} (hs:s.heap.IsSliceOf sl vl vu .none) (pl:IsPart vl lo) (pu:IsPart vu hi)
  (h:Q (((sIx n 0 lo:Nat):Int),1,sIx n n hi - sIx n 0 lo) s):wpAny (model prog w) A (Builtin.Slice.sliceApplied (.ref sl) (pure (n:Int))) Q E s:=by
 obtain⟨os,hos,hcs,hds⟩:=id hs;unfold Builtin.Slice.sliceApplied Builtin.Slice.sliceFields;refine wpAny_bind (wpAny_bind (wpAny_field hos hds (x:=vl) rfl (wpAny_bind (wpAny_field hos hds (x:=vu) rfl (wpAny_bind (wpAny_field hos hds (x:= .none) rfl (wpAny_pure ?_)))))));refine wpAny_bind (slicePart_none ?_);show wpAny _ _ (if ((1:Int) ==0)=true then _ else _) _ _ s;rw[if_neg (by decide)];refine wpAny_bind (slicePart_ pl (wpAny_bind (slicePart_ pu (wpAny_bind (wpAny_pure ?_)))));show wpAny _ _ (match Builtin.Slice.sliceAdjust lo hi 1 (n:Int) with |(lo,hi)=>pure (lo,(1:Int),Builtin.Slice.slicePlaces lo hi 1)) _ _ s;rw[adjust_gen lo hi n];show wpAny _ _ (pure (((sIx n 0 lo:Nat):Int),(1:Int),Builtin.Slice.slicePlaces ((sIx n 0 lo:Nat):Int) ((sIx n n hi:Nat):Int) 1)) _ _ s;rw[places_gen];exact wpAny_pure h
theorem pick_gen (xs:Array Value) (i k:Nat):((List.range k).filterMap λ (m:Nat)=>xs[((i:Int)+(m:Int)*1).toNat]?).toArray=((xs.toList.drop i).take k).toArray:=by
 have e:(λ (m:Nat)=>xs[((i:Int)+(m:Int)*1).toNat]?)=λ m=>xs[i+m]?:=by
  funext m;have:((i:Int)+(m:Int)*1).toNat=i+m:=by omega
  rw[this]
 rw[e];have:=pick_run xs i k;rw[List.filterMap_map] at this;have e2:((λ x=>xs[x]?) ∘ λ x=>i+x)=λ m=>xs[i+m]?:=rfl;rw[e2] at this;rw[this]
theorem getItem_tuple_cut {t sl:Addr} {items:Array Value} {vl vu:Value} {lo hi:Option Int} {Q:Value->Shared->Prop} (ht:IsTup s.heap t items) (hs:s.heap.IsSliceOf sl vl vu .none) (pl:IsPart vl lo) (pu:IsPart vu hi)
  (hw:¬(sIx items.size 0 lo=0/\sIx items.size items.size hi=items.size))
  (h:Q (.ref s.heap.objs.size) {s with heap:=s.heap.push {cls:= .type "tuple",data:= .seq ((items.toList.drop (sIx items.size 0 lo)).take (sIx items.size items.size hi - sIx items.size 0 lo)).toArray}})
  (hsz:items.size<=sizeLine):wpAny (model prog w) A (getItem (.ref t) (.ref sl)) Q E s:=by
 have htake:sizeOk (.seq ((items.toList.drop (sIx items.size 0 lo)).take (sIx items.size items.size hi - sIx items.size 0 lo)).toArray):=by
  show ((items.toList.drop (sIx items.size 0 lo)).take (sIx items.size items.size hi - sIx items.size 0 lo)).toArray.size<=sizeLine;rw[z1c,List.length_take,List.length_drop,Array.length_toList];omega
 have hj:sIx items.size items.size hi<=items.size:=sIx_le _ _ (z0g _) hi;obtain⟨os,hos,hcs,hds⟩:=id hs;have hTs:s.TypeIs (.ref sl) "slice" :=⟨os,hos,hcs⟩;unfold getItem
 try with_reducible refine wpAny_holding ?_
 first |refine wpAny_bind (wpAny_pure ?_) |skip
 refine wpAny_bind (wpAny_sequenceKey ht.typeIs (by decide) ?_);refine wpAny_bind (wpAny_callSpecial?_slot (name:=Str.ofString "__getitem__") ht.typeIs PyProof.Rows.slot_tuple_getitem
  (wpAny_call_entry PyProof.Rows.slot_tuple_getitem ht.typeIs entry_tuple_getitem ?_ (args_tuple_getitem _ _)))
 show wpAny _ _ (Builtin.Tuple.tupleItemsOf (.ref t) >>=_) _ _ s;refine wpAny_bind (tupleItemsOf_ ht ?_);refine wpAny_bind (wpAny_typeOf hTs ?_);rw[if_pos (by decide)];refine wpAny_bind (sliceApplied_gen hs pl pu ?_);have hno:¬((((sIx items.size 0 lo:Nat):Int) ==0 && (1:Int) ==1 && (sIx items.size items.size hi - sIx items.size 0 lo) ==items.size)=true):=by
  intro q;rw[Bool.and_eq_true,Bool.and_eq_true] at q;have q1:((sIx items.size 0 lo:Nat):Int)=0:=eq_of_beq q.1.1;have q2:sIx items.size items.size hi - sIx items.size 0 lo=items.size:=eq_of_beq q.2;exact hw ⟨by omega,by omega⟩
 show wpAny _ _ (if (((sIx items.size 0 lo:Nat):Int) ==0 && (1:Int) ==1 && (sIx items.size items.size hi - sIx items.size 0 lo) ==items.size)=true then _ else _) _ _ s;rw[if_neg hno,pick_gen]
 first
  |exact wpAny_bind (m:=Builtin.Tuple.tupleExact _) (wpAny_newObj_type (wpAny_pure ⟨_,rfl,wpAny_pure h⟩) htake)
  |exact wpAny_bind (m:=Builtin.Tuple.tupleExact _) (wpAny_newObj_type (wpAny_bind (wpAny_pure (wpAny_pure ⟨_,rfl,wpAny_pure h⟩))) htake)
  |exact wpAny_bind (wpAny_bind (m:=Builtin.Tuple.tupleExact _) (wpAny_newObj_type (wpAny_pure (wpAny_pure ⟨_,rfl,wpAny_pure h⟩)) htake))
  |exact wpAny_bind (wpAny_bind (m:=Builtin.Tuple.tupleExact _) (wpAny_newObj_type (wpAny_pure ⟨_,rfl,wpAny_pure h⟩) htake))
end
end HT
namespace L2
open PySem PySem.Spec PyProof.Rows
variable {pins:List (Addr×Obj)} {xs:List V} {its:List Value} {s:Shared}
abbrev TO:=St->Hp->(Option Int->Hp->Prop)->Prop
def PO (X:Cx) (e:Option Expr) (t:TO):Prop:=
 ∀ (pins:List (Addr×Obj)) (s:Shared) (σ:St) (H:Hp) (Q:Option Int->Hp->Prop),Inv X pins σ H s->t σ H Q->
  wpAny (model X.prog X.w) X.A (evalPart e X.env) (λ u s'=>∃o H',Inv X pins σ H' s'/\IsPart u o/\Q o H') X.xe s
def tNoPart:TO:=λ _ H Q=>Q none H
def tPart (t:TE):TO:=λ σ H Q=>t σ H λ x H1=>∃i,x= .int i/\Q (some i) H1
theorem intsAre_of {ns:List Int}:∀{us:List Value},Vals (ns.map V.int) us->IntsAre us ns:=by
 induction ns with
 |nil=>intro us r;rw[List.map_nil] at r;cases r;exact .nil
 | cons n ns ih=>
  intro us r;rw[z1h] at r;cases r with
  | cons r1 r2=>
   obtain⟨t,e⟩:=r1;subst e;exact .cons n t (ih r2)
section
variable {X:Cx} {e:Expr} {te:TE} {lo hi:Option Expr} {tl th:TO} {pos p2:Pos}
theorem po_none:PO X none tNoPart:=by
 intro pins s σ H Q I h;rw[evalPart_none];exact wpAny_pure ⟨none,H,I,.none,h⟩
theorem po_some (h:PE X e te):PO X (some e) (tPart te):=by
 intro pins s σ H Q I hw;rw[evalPart_some];refine thn (h pins s σ H _ I hw) λ u s1 bH=>?_;obtain⟨x,H1,I1,r1,q1⟩:=bH;obtain⟨i,rfl,q⟩:=q1;obtain⟨t,rfl⟩:=r1;exact⟨some i,H1,I1,.int i t,q⟩
def SlR (X:Cx) (r:V->Option Int->Option Int->Hp->VK->Prop):Prop:=
 ∀ (pins:List (Addr×Obj)) (s:Shared) (σ:St) (H:Hp) (x:V) (v vl vu:Value) (lo hi:Option Int) (sl:Addr) (Q:VK),Inv X pins σ H s->RelV x v->s.heap.IsSliceOf sl vl vu .none->IsPart vl lo->IsPart vu hi->r x lo hi H Q->
  ∃T id,typeLookup (.type T) "__getitem__" =pure (some (.builtin id))/\s.TypeIs v T/\wpAny (model X.prog X.w) X.A (getItem v (.ref sl)) (EP X pins σ Q) X.xe s
theorem SlR.or {r r':V->Option Int->Option Int->Hp->VK->Prop} (h:SlR X r) (h':SlR X r'):SlR X (λ x lo hi H Q=>r x lo hi H Q\/r' x lo hi H Q):=by
 intro pins s σ H x v vl vu lo hi sl Q I rx hs pl pu q;rcases q with q |q
 ·exact h pins s σ H x v vl vu lo hi sl Q I rx hs pl pu q
 ·exact h' pins s σ H x v vl vu lo hi sl Q I rx hs pl pu q
def tSl (r:V->Option Int->Option Int->Hp->VK->Prop) (te:TE) (tl th:TO):TE:=λ σ H Q=>te σ H λ x H1=>tl σ H1 λ l H2=>th σ H2 λ u H3=>r x l u H3 Q
theorem pe_slice {r:V->Option Int->Option Int->Hp->VK->Prop} (hr:SlR X r) (he:PE X e te) (hl:PO X lo tl) (hu:PO X hi th):PE X (.Subscript e (.Slice lo hi none p2) pos) (tSl r te tl th):=by
 intro pins s σ H Q I h;refine Subscript_ (thn (he pins s σ H _ I h) λ v s1 bH=>?_);obtain⟨x,H1,I1,r1,q1⟩:=bH;refine wpAny_Slice (thn (hl pins s1 σ H1 _ I1 q1) λ vl s2 ⟨l,H2,I2,pl,q2⟩=>thn (hu pins s2 σ H2 _ I2 q2) λ vu s3 bH=>?_);obtain⟨u,H3,I3,pu,q3⟩:=bH;rw[evalPart_none];refine wpAny_pure ?_;have I4:Inv X pins σ H3 {s3 with heap:=s3.heap.push {cls:= .type "slice",data:= .fields #[vl,vu,.none]}}:=I3.kept (t':=s3.toks) λ b ob q=>z1a _ q;obtain⟨T,id,hT,ht,hg⟩:=hr pins {s3 with heap:=s3.heap.push {cls:= .type "slice",data:= .fields #[vl,vu,.none]}} σ H3 x v vl vu l u s3.heap.objs.size Q I4 r1 (Heap.IsSliceOf.new ..) pl pu q3;show wpAny (model X.prog X.w) X.A (subscriptTail e (.Slice lo hi none p2) v (.ref s3.heap.objs.size)) (EP X pins σ Q) X.xe {s3 with heap:=s3.heap.push {cls:= .type "slice",data:= .fields #[vl,vu,.none]}};exact tail_any (ops:=[.ref s3.heap.objs.size,v]) ht hT hg (by with_unfolding_all rfl)
def cutV (xs:List V) (lo hi:Option Int):List V:=(xs.drop (HT.sIx xs.length 0 lo)).take (HT.sIx xs.length xs.length hi - HT.sIx xs.length 0 lo)
theorem cutV_length (xs:List V) (lo hi:Option Int):(cutV xs lo hi).length<=xs.length:=by
 unfold cutV;rw[List.length_take,List.length_drop];omega
def rSlT (K:PySem.W.Frag):V->Option Int->Option Int->Hp->VK->Prop:=λ x lo hi H Q=>∃a xs,x= .ref a/\SqT K H a xs/\
 ¬(HT.sIx xs.length 0 lo=0/\HT.sIx xs.length xs.length hi=xs.length)/\∀p,H p=none->Q (.ref p) (upd H p (.tup (cutV xs lo hi)))
theorem sl_tup:SlR X (rSlT X.K):=by
 intro pins s σ H x v vl vu lo hi sl Q I rx hs pl pu h;obtain⟨a,xs,rfl,hx,hw,q⟩:=h;cases rx;obtain⟨its,r,ht,hz⟩:=I.tuple hx;have hlen:its.toArray.size=xs.length:=by rw[z1c];exact r.length.symm
 refine⟨"tuple",_,PyProof.Rows.slot_tuple_getitem.lookup,ht.typeIs,?_⟩;refine HT.getItem_tuple_cut ht hs pl pu (by rw[hlen];exact hw) ?_ (by rw[hlen];exact hz);rw[hlen];refine⟨.ref s.heap.objs.size,_,I.laid (t':=s.toks) (o:= .tup (cutV xs lo hi)) (λ b ob q=>z1a _ q) (z0g _) ?_,rfl,q _ (I.hok.fresh (z0g _))⟩;exact⟨z0b (cutV_length xs lo hi) hz,_,(r.drop (HT.sIx xs.length 0 lo)).take (HT.sIx xs.length xs.length hi - HT.sIx xs.length 0 lo),IsTup.new _ _⟩
def rCatT (K:PySem.W.Frag):R2:=λ x y H Q=>∃a b xs ys,x= .ref a/\y= .ref b/\SqT K H a xs/\SqT K H b ys/\xs≠[]/\xs.length+ys.length<=sizeLine/\
 (ys=[]->Q (.ref a) H)/\(ys≠[]->∀p,H p=none->Q (.ref p) (upd H p (.tup (xs++ys))))
theorem Vals.nil_iff {us:List Value} (r:Vals xs us):us=[]↔xs=[]:=by
 cases r with
 |nil=>simp
 |cons _ _=>simp
theorem op_catT:OpR X (binaryOp .Add) (rCatT X.K):=by
 intro pins s σ H x y v u Q I rx ry h;obtain⟨a,b,xs,ys,rfl,rfl,ha,hb,hx,hz,q1,q2⟩:=h;cases rx;cases ry;obtain⟨its,r1,p1,_⟩:=I.tuple ha;obtain⟨its2,r2,p2,_⟩:=I.tuple hb;refine HT.cat_tup p1 p2 (λ z=>hx (r1.nil_iff.mp z)) (λ z=>⟨.ref a,H,I,rfl,q1 (r2.nil_iff.mp z)⟩) (λ z=>?_) (by rw[<-r1.length,<-r2.length];exact hz);refine⟨.ref s.heap.objs.size,_,I.laid (t':=s.toks) (o:= .tup (xs++ys)) (λ b ob q=>z1a _ q) (z0g _) ?_,rfl,q2 (λ w=>z (r2.nil_iff.mpr w)) _ (I.hok.fresh (z0g _))⟩;exact⟨by rw[z1d];exact hz,_,r1.append r2,IsTup.new _ _⟩
end
def ixN (n:Nat) (i:Int):Option Nat:=if 0<=i then (if i < n then some i.toNat else none) else if -(n:Int)<=i then some (i+n).toNat else none
def atI {α:Type} (xs:List α) (i:Int):Option α:=(ixN xs.length i).bind λ j=>xs[j]?
theorem ixN_seq {n:Nat} {i:Int} {j:Nat} (h:ixN n i=some j):seqIndex? i n=some j/\j < n/\-(n:Int)<=i/\i < n:=by
 unfold ixN at h;by_cases h0:0<=i
 ·rw[if_pos h0] at h;by_cases h1:i < n
  ·rw[if_pos h1] at h;have e:i.toNat=j:=Option.some.inj h;exact⟨by rw[seqIndex_of h0 h1,e],by omega,by omega,h1⟩
  ·rw[if_neg h1] at h;cases h
 ·rw[if_neg h0] at h;by_cases h1: -(n:Int)<=i
  ·rw[if_pos h1] at h;have e:(i+n).toNat=j:=Option.some.inj h;exact⟨by rw[seqIndex_neg (by omega) h1,e],by omega,h1,by omega⟩
  ·rw[if_neg h1] at h;cases h
theorem atI_get {α:Type} {xs:List α} {i:Int} {v:α} (h:atI xs i=some v):∃j,seqIndex? i xs.length=some j/\xs[j]?=some v/\j < xs.length/\-(xs.length:Int)<=i/\i < xs.length:=by
 unfold atI at h;cases e:ixN xs.length i with
 |none=>rw[e] at h;cases h
 | some j=>
  rw[e] at h;obtain⟨h1,h2,h3,h4⟩:=ixN_seq e;exact⟨j,h1,h,h2,h3,h4⟩
def PlainIx (b:Expr):Prop:=∀o i,subscripted b false o i=operate [o,i] (getItem o i)
def IxR (X:Cx) (r:R2):Prop:=
 ∀ (value slice:Expr) (pins:List (Addr×Obj)) (s:Shared) (σ:St) (H:Hp) (x y:V) (v u:Value) (Q:VK),Inv X pins σ H s->RelV x v->RelV y u->r x y H Q->
  subscripted slice false v u=operate [v,u] (getItem v u)->wpAny (model X.prog X.w) X.A (subscriptTail value slice v u) (EP X pins σ Q) X.xe s
def MtR (X:Cx) (id:String) (r:V->List V->Hp->VK->Prop):Prop:=
 ∀ (pins:List (Addr×Obj)) (s:Shared) (σ:St) (H:Hp) (x:V) (xs:List V) (v:Value) (us:List Value) (Q:VK),Inv X pins σ H s->RelV x v->Vals xs us->r x xs H Q->
  wpAny (model X.prog X.w) X.A (call (.builtin id) (v::us)) (EP X pins σ Q) X.xe s
section
variable {X:Cx} {a b:Expr} {ta tb:TE} {pos:Pos}
theorem IxR.or {r r':R2} (h:IxR X r) (h':IxR X r'):IxR X (λ x y H Q=>r x y H Q\/r' x y H Q):=by
 intro value slice pins s σ H x y v u Q I rx ry q hs;rcases q with q |q
 ·exact h value slice pins s σ H x y v u Q I rx ry q hs
 ·exact h' value slice pins s σ H x y v u Q I rx ry q hs
theorem pe_ix {r:R2} (hr:IxR X r) (ha:PE X a ta) (hb:PE X b tb) (hs:PlainIx b):PE X (.Subscript a b pos) (tOp r ta tb):=by
 intro pins s σ H Q I h;exact Subscript_ (binT ha hb I h λ v u s2 x y H2 I2 rx ry q=>hr a b pins s2 σ H2 x y v u Q I2 rx ry q (hs _ _))
def rIxL (K:PySem.W.Frag):R2:=λ x y H Q=>∃p xs i v,x= .ref p/\y= .int i/\SqL K H p xs/\atI xs i=some v/\Q v H
def rIxT (K:PySem.W.Frag):R2:=λ x y H Q=>∃p xs i v,x= .ref p/\y= .int i/\SqT K H p xs/\atI xs i=some v/\Q v H
def rIxS:R2:=λ x y H Q=>∃z i c,x= .str z/\y= .int i/\z.length<=sizeLine/\atI z.cps.toList i=some c/\Q (.str ⟨#[c]⟩) H
theorem ix_list:IxR X (rIxL X.K):=by
 intro value slice pins s σ H x y v u Q I rx ry h hs;obtain⟨p,xs,i,z,rfl,rfl,hq,he,q⟩:=h;cases rx;obtain⟨t,rfl⟩:=ry;obtain⟨its,r,pl,hz⟩:=I.list hq;obtain⟨j,h1,h2,h3,h4,h5⟩:=atI_get he;obtain⟨w,ew,rw'⟩:=r.get h2;have hl:=r.length;have hn:=line63;have fin:EP X pins σ Q w s:=⟨z,H,I,rw',q⟩;by_cases h0:0<=i
 ·have hj:i.toNat=j:=by
   rw[seqIndex_of h0 h5] at h1;exact Option.some.inj h1
  exact item_listR pl.isList h0 (by omega) (by rw[hj];simpa using ew) fin hs
 ·have hj:(i+(its.toArray.size:Int)).toNat=j:=by
   rw[seqIndex_neg (by omega) h4] at h1;rw[z1c,<-hl];exact Option.some.inj h1
  exact subscriptTail_builtinR (x:=w) pl.isList.typeIs slot_list_getitem.lookup
   (wpAny_getItem_list_neg (Q:=λ r s'=>r=w/\EP X pins σ Q r s') pl.isList (by omega) (by rw[z1c] <;> omega) (by omega) (by rw[hj];simpa using ew) ⟨rfl,fin⟩) hs
theorem ix_tup:IxR X (rIxT X.K):=by
 intro value slice pins s σ H x y v u Q I rx ry h hs;obtain⟨p,xs,i,z,rfl,rfl,hq,he,q⟩:=h;cases rx;obtain⟨t,rfl⟩:=ry;obtain⟨its,r,pl,hz⟩:=I.tuple hq;obtain⟨j,h1,h2,h3,h4,h5⟩:=atI_get he;obtain⟨w,ew,rw'⟩:=r.get h2;have hl:=r.length;have hn:=line63;have fin:EP X pins σ Q w s:=⟨z,H,I,rw',q⟩;exact subscriptTail_builtinR (x:=w) pl.typeIs slot_tuple_getitem.lookup
  (getItem_tuple (j:=j) (Q:=λ r s'=>r=w/\EP X pins σ Q r s') pl (by omega) (by omega) (by rw[z1c,<-hl];exact h1) (by simpa using ew) ⟨rfl,fin⟩) hs
theorem ix_str:IxR X rIxS:=by
 intro value slice pins s σ H x y v u Q I rx ry h hs;obtain⟨z,i,c,rfl,rfl,hz,he,q⟩:=h;obtain⟨t,rfl⟩:=rx;obtain⟨t',rfl⟩:=ry;obtain⟨j,h1,h2,h3,h4,h5⟩:=atI_get he;have hl:z.cps.toList.length=z.length:=by simp[Str.length]
 rw[hl] at h1 h4 h5;have hn:=line63;exact tail_any (typeIs_str s z t) slot_str_getitem.lookup (getItem_str (c:=c) (by
  have e1:decide (i < -(2 ^ 63:Int))=false:=decide_eq_false (by omega);have e2:decide (i>=2 ^ 63)=false:=decide_eq_false (by omega);rw[e1,e2,Bool.or_false]) (by rw[h1];simpa using h2) ⟨.str ⟨#[c]⟩,H,I.tok _,⟨_,rfl⟩,q⟩) hs
def rIx (K:PySem.W.Frag):R2:=λ x y H Q=>rIxL K x y H Q\/rIxT K x y H Q\/rIxS x y H Q
theorem ix_seq:IxR X (rIx X.K):=ix_list.or (ix_tup.or ix_str)
theorem mapSeq_set (its:List Value) (n j:Nat) (u:Value):Obj.mapSeq (·.setIfInBounds j u) {cls:= .type "list",data:= .seq its.toArray n}={cls:= .type "list",data:= .seq (its.set j u).toArray n}:=by
 simp[Obj.mapSeq]
theorem Inv.lst {σ:St} {H:Hp} {p:Addr} (I:Inv X pins σ H s) (h:H p=some (.lst xs)):
  ∃(its:List Value) (n:Nat),Vals xs its/\s.heap.get? p=some {cls:= .type "list",data:= .seq its.toArray n}/\xs.length<=sizeLine:=by
 obtain⟨z,its,n,r,e⟩:=I.hok p _ h;exact⟨its,n,r,e,z⟩
theorem Inv.lstUpd {σ:St} {H:Hp} {p:Addr} {ys:List V} {its':List Value} {n n':Nat} {f:Obj->Obj} (I:Inv X pins σ H s) (h:H p=some (.lst xs))
  (ho:s.heap.get? p=some {cls:= .type "list",data:= .seq its.toArray n}) (hf:f {cls:= .type "list",data:= .seq its.toArray n}={cls:= .type "list",data:= .seq its'.toArray n'}) (r:Vals ys its') (hz:ys.length<=sizeLine) (t:Nat):
  Inv X pins σ (upd H p (.lst ys)) {s with heap:=s.heap.update p f,toks:=t}:=by
 have e:(s.heap.update p f).get? p=some {cls:= .type "list",data:= .seq its'.toArray n'}:=by
  rw[Heap.get?_update_self f ho (by rw[hf] <;> rfl),hf]
 refine I.write (x:=p) (e:=p) (by rw[h];trivial) (.inl rfl) (λ b u hb q=>(Heap.get?_update_other _ _ (Ne.symm hb)).trans q) ⟨_,e⟩ ?_;exact⟨hz,its',n',r,e⟩
def rSetL:V->V->V->Hp->(Hp->Prop)->Prop:=λ o i v H Q=>∃p xs k j,o= .ref p/\i= .int k/\H p=some (.lst xs)/\ixN xs.length k=some j/\Q (upd H p (.lst (xs.set j v)))
theorem set_list:PSet X rSetL:=by
 intro pins s σ H o i v ov iv u Q I ro ri rv h;obtain⟨p,xs,k,j,rfl,rfl,hp,hj,q⟩:=h;cases ro;obtain⟨t,rfl⟩:=ri;obtain⟨its,n,r,ho,hz⟩:=I.lst hp;obtain⟨h1,h2,h3,h4⟩:=ixN_seq hj;have hl:=r.length;have hn:=line63;have I':Inv X pins σ (upd H p (.lst (xs.set j v))) {s with heap:=s.heap.update p (Obj.mapSeq (·.setIfInBounds j u))}:=
  I.lstUpd hp ho (mapSeq_set its n j u) (r.set rv j) (by rw[List.length_set];exact hz) s.toks
 by_cases h0:0<=k
 ·have hk:k.toNat=j:=by
   rw[seqIndex_of h0 h4] at h1;exact Option.some.inj h1
  exact PySem.W.ki_setAt ho h0 (by omega) (by rw[z1c,<-hl];exact h4) (by rw[hk];exact⟨_,I',q⟩)
 ·have hk:(k+(its.toArray.size:Int)).toNat=j:=by
   rw[seqIndex_neg (by omega) h3] at h1;rw[z1c,<-hl];exact Option.some.inj h1
  exact PySem.W.ki_setBack ho (by omega) (by rw[z1c,<-hl];exact h3) (by omega) (by rw[hk];exact⟨_,I',q⟩)
theorem slice_bounds (lo hi:Option Int) (n:Nat):(sliceBounds lo hi none n).1=((HT.sIx n 0 lo:Nat):Int)/\(sliceBounds lo hi none n).2.1=((HT.sIx n n hi:Nat):Int)/\(sliceBounds lo hi none n).2.2=1:=by
 refine⟨?_,?_,rfl⟩
 ·cases lo with
  |none=>simp[sliceBounds,HT.sIx]
  | some i=>
   simp only[sliceBounds,HT.sIx,Option.getD_none,show (1:Int) > 0 by decide,if_true];by_cases h:i < 0
   ·simp only[h,if_true];exact HT.adg n h
   ·simp only[h,if_false];obtain⟨k,rfl⟩:=Int.eq_ofNat_of_zero_le (Int.not_lt.mp h);exact HT.adh k n
 ·cases hi with
  |none=>simp[sliceBounds,HT.sIx]
  | some i=>
   simp only[sliceBounds,HT.sIx,Option.getD_none,show (1:Int) > 0 by decide,if_true];by_cases h:i < 0
   ·simp only[h,if_true];exact HT.adg n h
   ·simp only[h,if_false];obtain⟨k,rfl⟩:=Int.eq_ofNat_of_zero_le (Int.not_lt.mp h);exact HT.adh k n
theorem slicePick_cut (its:List Value) (lo hi:Option Int):slicePick its.toArray lo hi none=((its.drop (HT.sIx its.length 0 lo)).take (HT.sIx its.length its.length hi - HT.sIx its.length 0 lo)).toArray:=by
 obtain⟨h1,h2,h3⟩:=slice_bounds lo hi its.toArray.size;unfold slicePick;rw[h1,h2,h3];simp only[sliceRange_one,pick_run,z1c] <;> rfl
def rSlL (K:PySem.W.Frag):V->Option Int->Option Int->Hp->VK->Prop:=λ x lo hi H Q=>∃a xs,x= .ref a/\SqL K H a xs/\∀p,H p=none->Q (.ref p) (upd H p (.lst (cutV xs lo hi)))
theorem sl_list:SlR X (rSlL X.K):=by
 intro pins s σ H x v vl vu lo hi sl Q I rx hs pl pu h;obtain⟨a,xs,rfl,hx,q⟩:=h;cases rx;obtain⟨its,r,ht,hz⟩:=I.list hx;have hlen:=r.length;refine⟨"list",_,slot_list_getitem.lookup,ht.isList.typeIs,?_⟩;refine wpAny_getItem_list_slice ht.isList hs pl pu .none (by simp) ?_ (by rw[z1c] <;> omega);rw[slicePick_cut,<-hlen];refine⟨.ref s.heap.objs.size,_,I.laid (t':=s.toks) (o:= .lst (cutV xs lo hi)) (λ b ob q=>z1a _ q) (z0g _) ?_,rfl,q _ (I.hok.fresh (z0g _))⟩;exact⟨z0b (cutV_length xs lo hi) hz,_,0,(r.drop (HT.sIx xs.length 0 lo)).take (HT.sIx xs.length xs.length hi - HT.sIx xs.length 0 lo),z1f _ rfl⟩
def flatV:V->Bool
 | .non=>true
 | .bl _=>true
 | .int _=>true
 | .str _=>true
 |_=>false
def eqV:V->V->Bool
 | .non,.non=>true
 | .bl a,.bl b=>a ==b
 | .bl a,.int b=>(if a then 1 else 0) ==b
 | .int a,.bl b=>a ==(if b then 1 else 0)
 | .int a,.int b=>a ==b
 | .str a,.str b=>a ==b
 |_,_=>false
theorem eqAt_V {A:Around} {y x:V} {u v:Value} (ry:RelV y u) (rx:RelV x v) (fy:flatV y=true) (fx:flatV x=true):SeqAt.EqAt A s u v (eqV y x):=by
 cases y with
 | non=>
  cases ry;cases x with
  |non=>cases rx;exact SeqAt.EqAt.same _
  |bl b=>cases rx;exact SeqAt.EqAt.none_bool b
  |int b=>obtain⟨t,rfl⟩:=rx;exact SeqAt.EqAt.none_int b t
  |str b=>obtain⟨t,rfl⟩:=rx;exact SeqAt.EqAt.none_str b t
  |_=>exact absurd (show false=true from fx) Bool.false_ne_true
 | bl a=>
  cases ry;cases x with
  |non=>cases rx;exact SeqAt.EqAt.bool_none a
  |bl b=>cases rx;exact SeqAt.EqAt.bool_bool a b
  |int b=>obtain⟨t,rfl⟩:=rx;exact SeqAt.EqAt.bool_int a b t
  |str b=>obtain⟨t,rfl⟩:=rx;exact SeqAt.EqAt.bool_str a b t
  |_=>exact absurd (show false=true from fx) Bool.false_ne_true
 | int a=>
  obtain⟨t',rfl⟩:=ry;cases x with
  |non=>cases rx;exact SeqAt.EqAt.int_none a t'
  |bl b=>cases rx;exact SeqAt.EqAt.int_bool a t' b
  |int b=>obtain⟨t,rfl⟩:=rx;exact SeqAt.EqAt.int_int a t' b t
  |str b=>obtain⟨t,rfl⟩:=rx;exact SeqAt.EqAt.int_str a t' b t
  |_=>exact absurd (show false=true from fx) Bool.false_ne_true
 | str a=>
  obtain⟨t',rfl⟩:=ry;cases x with
  |non=>cases rx;exact SeqAt.EqAt.str_none a t'
  |bl b=>cases rx;exact SeqAt.EqAt.str_bool a t' b
  |int b=>obtain⟨t,rfl⟩:=rx;exact SeqAt.EqAt.str_int a t' b t
  |str b=>obtain⟨t,rfl⟩:=rx;exact SeqAt.EqAt.str_str a t' b t
  |_=>exact absurd (show false=true from fx) Bool.false_ne_true
 |_=>exact absurd (show false=true from fy) Bool.false_ne_true
def eqU (x:V) (u:Value):Bool:=match u with
 | .none=>eqV .non x
 | .bool b=>eqV (.bl b) x
 | .int i _=>eqV (.int i) x
 | .str z _=>eqV (.str z) x
 |_=>false
theorem eqU_of {x y:V} {u:Value} (r:RelV y u) (f:flatV y=true):eqU x u=eqV y x:=by
 cases y with
 |non=>cases r;rfl
 |bl b=>cases r;rfl
 |int i=>obtain⟨t,rfl⟩:=r;rfl
 |str z=>obtain⟨t,rfl⟩:=r;rfl
 |_=>exact absurd (show false=true from f) Bool.false_ne_true
theorem any_eqU {x:V}:∀{xs:List V} {us:List Value},Vals xs us->xs.all flatV=true->us.any (eqU x)=xs.any λ y=>eqV y x
 |_,_,.nil,_=>rfl
 | y::xs,u::us,.cons r t,f=>by
  rw[List.all_cons,Bool.and_eq_true] at f;rw[List.any_cons,List.any_cons,eqU_of r f.1,any_eqU t f.2]
theorem mem_eqAt {A:Around} {s:Shared} {x:V} {v:Value} (rx:RelV x v) (fx:flatV x=true):∀{xs:List V} {us:List Value},Vals xs us->xs.all flatV=true->∀u∈us,SeqAt.EqAt A s u v (eqU x u)
 |_,_,.nil,_=>λ u hu=>by cases hu
 | y::xs,u::us,.cons r t,f=>λ u' hu=>by
  rw[List.all_cons,Bool.and_eq_true] at f;rcases List.mem_cons.mp hu with rfl |hu
  ·rw[eqU_of r f.1];exact eqAt_V r rx f.1 fx
  ·exact mem_eqAt rx fx t f.2 u' hu
def inV (x:V) (xs:List V):Bool:=xs.any λ y=>eqV y x
def rIn (K:PySem.W.Frag) (neg:Bool):R2:=λ x y H Q=>∃p xs,y= .ref p/\(SqL K H p xs\/SqT K H p xs)/\flatV x=true/\xs.all flatV=true/\Q (.bl (if neg then !inV x xs else inV x xs)) H
theorem op_in_seq:OpR X (compareOp .In) (rIn X.K false):=by
 intro pins s σ H x y v u Q I rx ry h;obtain⟨p,xs,rfl,hq,fx,fs,q⟩:=h;cases ry;rcases hq with hq |hq
 ·obtain⟨its,r,pl,hz⟩:=I.list hq;refine SeqAt.in_listAt (eqU x) pl.isList (λ w hw=>mem_eqAt rx fx r fs w (by simpa using hw)) ⟨.bl _,H,I,rfl,?_⟩;rw[show its.toArray.any (eqU x)=its.any (eqU x) by simp,any_eqU r fs];exact q
 ·obtain⟨its,r,pl,hz⟩:=I.tuple hq;refine SeqAt.in_tupleAt (eqU x) pl (λ w hw=>mem_eqAt rx fx r fs w (by simpa using hw)) ⟨.bl _,H,I,rfl,?_⟩;rw[show its.toArray.any (eqU x)=its.any (eqU x) by simp,any_eqU r fs];exact q
theorem op_notIn_seq:OpR X (compareOp .NotIn) (rIn X.K true):=by
 intro pins s σ H x y v u Q I rx ry h;obtain⟨p,xs,rfl,hq,fx,fs,q⟩:=h;cases ry;rcases hq with hq |hq
 ·obtain⟨its,r,pl,hz⟩:=I.list hq;refine SeqAt.notIn_listAt (eqU x) pl.isList (λ w hw=>mem_eqAt rx fx r fs w (by simpa using hw)) ⟨.bl _,H,I,rfl,?_⟩;rw[show its.toArray.any (eqU x)=its.any (eqU x) by simp,any_eqU r fs];exact q
 ·obtain⟨its,r,pl,hz⟩:=I.tuple hq;refine SeqAt.notIn_tupleAt (eqU x) pl (λ w hw=>mem_eqAt rx fx r fs w (by simpa using hw)) ⟨.bl _,H,I,rfl,?_⟩;rw[show its.toArray.any (eqU x)=its.any (eqU x) by simp,any_eqU r fs];exact q
theorem call_len_seq:CallR X (.builtin "len") (λ xs H Q=>∃p ys,xs=[.ref p]/\(SqL X.K H p ys\/SqT X.K H p ys)/\Q (.int ys.length) H):=by
 intro pins s σ H xs us Q I r h;obtain⟨p,ys,rfl,hq,q⟩:=h;obtain⟨u,rfl,rx⟩:=vals1 r;cases rx;have hn:=line63;rcases hq with hq |hq
 ·obtain⟨its,r',pl,hz⟩:=I.list hq;have hlen:=r'.length;exact Calls.call_len_list pl.isList (by simp only[z1c] <;> omega) ⟨.int ys.length,H,I.tok _,⟨s.toks+1,by rw[z1c,hlen]⟩,q⟩
 ·obtain⟨its,r',pl,hz⟩:=I.tuple hq;have hlen:=r'.length;exact len_tuple pl (by simp only[z1c] <;> omega) ⟨.int ys.length,H,I.tok _,⟨s.toks+1,by rw[z1c,hlen]⟩,q⟩
theorem call_tuple_of:CallR X (.type "tuple") (λ xs H Q=>∃p ys,xs=[.ref p]/\((SqL X.K H p ys/\∀l,H l=none->Q (.ref l) (upd H l (.tup ys)))\/(SqT X.K H p ys/\Q (.ref p) H))):=by
 intro pins s σ H xs us Q I r h;obtain⟨p,ys,rfl,h⟩:=h;obtain⟨u,rfl,rx⟩:=vals1 r;cases rx;rcases h with⟨hq,q⟩ |⟨hq,q⟩
 ·obtain⟨its,r',pl,hz⟩:=I.list hq;have hlen:=r'.length;refine call_tuple_list pl.isList (λ h' kp=>?_) (by simp only[z1c] <;> omega);have I1:Inv X pins σ H {s with heap:=h'}:=I.kept (t':=s.toks) kp;have I2:Inv X pins σ (upd H h'.objs.size (.tup ys)) {s with heap:=h'.push {cls:= .type "tuple",data:= .seq its.toArray}}:=
   I1.laid (t':=s.toks) (λ b o e=>z1a _ e) (z0g _) (show ObjOk X.prog X.w _ _ _ (.tup ys) from ⟨hz,its,r',IsTup.new _ _⟩)
  exact⟨.ref h'.objs.size,_,I2,rfl,q _ (I1.hok.fresh (z0g _))⟩
 ·obtain⟨its,r',pl,hz⟩:=I.tuple hq;exact call_tuple_same pl ⟨.ref p,H,I,rfl,q⟩
def tyV (K:PySem.W.Frag) (T:String) (x:V) (H:Hp):Prop:=match x with
 | .str _=>T= "str"
 | .int _=>T= "int"
 | .ref p=>(T= "list"/\∃xs,SqL K H p xs)\/(T= "tuple"/\∃o,K.lookup p=some o/\o.cls= .type "tuple"/\o.dict=none)\/
   (T= "dict"/\((∃kvs,H p=some (.dK kvs))\/∃kvs,H p=some (.dT kvs)))\/(T= "set"/\∃S n,H p=some (.set S n))
 |_=>False
theorem tyV_is {σ:St} {H:Hp} {T:String} {x:V} {v:Value} (I:Inv X pins σ H s) (r:RelV x v) (ty:tyV X.K T x H):
  s.TypeIs v T/\∀a,v= .ref a->∃ob,s.heap.get? a=some ob/\ob.dict=none:=by
 cases x with
 | str z=>
  obtain⟨t,rfl⟩:=r;cases (show T= "str" from ty);exact⟨typeIs_str s z t,λ _ e=>nomatch e⟩
 | int i=>
  obtain⟨t,rfl⟩:=r;cases (show T= "int" from ty);exact⟨typeIs_int s i t,λ _ e=>nomatch e⟩
 | ref p =>
  cases r;rcases ty with⟨rfl,xs,hq⟩ |⟨rfl,o,hk,hc,hd⟩ |⟨rfl,hk⟩ |⟨rfl,S,n,hk⟩
  ·obtain⟨its,_,pl,_⟩:=I.list hq;refine⟨pl.isList.typeIs,λ a e=>?_⟩;cases e;obtain⟨o,n,e,c,hd,_⟩:=pl;exact⟨o,e,hd⟩
  ·refine⟨⟨o,I.kIn p o hk,hc⟩,λ a e=>?_⟩;cases e;exact⟨o,I.kIn _ o hk,hd⟩
  ·have z:∃o,s.heap.get? p=some o/\o.ExactDict:=by
    rcases hk with⟨kvs,hk⟩ |⟨kvs,hk⟩
    ·obtain⟨_,_,_,_,o,_,_,e,ex,_⟩:=I.hok p _ hk;exact⟨o,e,ex⟩
    ·obtain⟨_,_,_,_,o,_,_,e,ex,_⟩:=I.hok p _ hk;exact⟨o,e,ex⟩
   obtain⟨o,e,ex⟩:=z;refine⟨⟨o,e,ex.1⟩,λ a e2=>?_⟩;cases e2;exact⟨o,e,ex.2.1⟩
  ·obtain⟨o,_,_,_,e,ex,_⟩:=I.hok p _ hk;refine⟨⟨o,e,ex.1⟩,λ a e2=>?_⟩;cases e2;exact⟨o,e,ex.2.1⟩
 |_=>exact False.elim ty
def tBM (K:PySem.W.Frag) (T:String) (r:V->List V->Hp->VK->Prop) (to:TE) (t:TA):TE:=λ σ H Q=>to σ H λ x H1=>tyV K T x H1/\t σ H1 λ xs H2=>r x xs H2 Q
variable {o e:Expr} {es:List Expr} {to:TE} {t:TA} {name:Str} {apos cpos:Pos} {T id:String} {r:V->List V->Hp->VK->Prop}
theorem pe_bm (pa:PlainAttrs T) (slot:Slot T name id) (hty:typeOf (.builtin id)=pure (.type "method_descriptor")) (hm:MtR X id r) (ho:PE X o to) (ha:PA X (e::es) t)
  (hbase:attributeBase o name X.env (eval o X.env)=eval o X.env:=by rfl)
  (hfew:((backTo cpos (starEach (e::es) X.env)).all (λ x=> !x.1) && (backToKw cpos (keywordEach [] X.env)).all (λ x=>x.1.isSome)
   && decide ((e::es).length+([]:List Keyword).length+(if ([]:List Keyword).isEmpty then 0 else 1) < 30))=true:=by rfl)
  (hline:(apos.endLine ==cpos.line)=true:=by rfl) (hs:starEach (e::es) X.env=(false,eval e X.env)::starEach es X.env:=by rfl) (hplain:(backTo cpos (starEach es X.env)).any (·.1)=false:=by rfl):
  PE X (.Call (.Attribute o name apos) (e::es) [] cpos) (tBM X.K T r to t):=by
 intro pins s σ H Q I h;refine wpAny_Call_method_late hbase hfew hline rfl (thn (ho pins s σ H _ I h) λ v s1 bH=>?_);obtain⟨x,H1,I1,r1,ty,q1⟩:=bH;obtain⟨h1,h2⟩:=tyV_is I1 r1 ty;refine⟨T,id,pa,slot,hty,h1,h2,?_⟩;have hA:=ha cpos pins s1 σ H1 _ I1 q1;rw[hs] at hA |-;refine Calls.callWith_builtin (by show (false || (backTo cpos (starEach es X.env)).any (·.1))=false;rw[hplain] <;> rfl) (Calls.evalArgs_plain ?_);refine thn hA λ us s2 bH=>?_;obtain⟨vs,H2,I2,r2,q2⟩:=bH;exact hm pins s2 σ H2 x vs v us Q I2 r1 r2 q2
end
def MtM (X:Cx) (id:String) (r:V->List V->Hp->VK->Prop):Prop:=
 ∀ (pins:List (Addr×Obj)) (s:Shared) (σ:St) (H:Hp) (x:V) (xs:List V) (v:Value) (us:List Value) (Q:VK),Inv X pins σ H s->RelV x v->Vals xs us->r x xs H Q->
  wpAny (model X.prog X.w) X.A (call (.builtin id) (v::us)) (EP X pins σ Q) X.xe s
theorem Vals.one:∀{x:V} {us:List Value},Vals [x] us->∃u,us=[u]/\RelV x u
 | _,_,h=>by
  cases h with
  |cons r t=>cases t;exact⟨_,rfl,r⟩
theorem Vals.rep {xs:List V} {us:List Value} (h:Vals xs us):∀k:Nat,Vals (List.replicate k xs).flatten (List.replicate k us).flatten
 |0=> .nil
 | k+1=>by
  rw[List.replicate_succ,List.replicate_succ,List.flatten_cons,List.flatten_cons];exact Vals.append h (Vals.rep h k)
theorem foldl_rep (its:List Value):∀(k:Nat) (acc:List Value),
  List.foldl (λ x1 x2=>x1++x2) acc.toArray (List.replicate k its.toArray)=(acc++(List.replicate k its).flatten).toArray
 |0,acc=>by simp
 | k +1,acc=>by
  have e:acc.toArray++its.toArray=(acc++its).toArray:=by simp
  have e2:(acc++its)++(List.replicate k its).flatten=acc++(List.replicate (k+1) its).flatten:=by
   rw[List.replicate_succ,List.flatten_cons,List.append_assoc]
  rw[<-e2,<-foldl_rep its k (acc++its),<-e,List.replicate_succ,List.foldl_cons]
section
variable {X:Cx} {pins:List (Addr×Obj)} {σ:St} {H:Hp} {s:Shared} {l b:Addr} {xs ys zs:List V}
theorem Inv.lset {its':List Value} {n:Nat} {f:Array Value->Array Value} {t':Nat} (I:Inv X pins σ H s) (hH:H l=some (.lst xs))
  (e:s.heap.get? l=some {cls:= .type "list",data:= .seq its.toArray n}) (hf:f its.toArray=its'.toArray) (hv:Vals ys its') (hz:ys.length<=sizeLine):
  Inv X pins σ (upd H l (.lst ys)) {s with heap:=s.heap.update l (Obj.mapSeq f),toks:=t'}:=by
 have q:=PySem.IsL.update e f;rw[hf] at q;refine I.write (x:=l) (e:=l) (by rw[hH];exact trivial) (.inl rfl) (λ b' u hb hu=>(Heap.get?_update_other s.heap (Obj.mapSeq f) (Ne.symm hb)).trans hu) ⟨_,q⟩ ?_;exact⟨hz,its',_,hv,q⟩
theorem Inv.lnew {t':Nat} (I:Inv X pins σ H s) (hv:Vals ys its) (hz:ys.length<=sizeLine):
  Inv X pins σ (upd H s.heap.objs.size (.lst ys)) {s with heap:=s.heap.push {cls:= .type "list",data:= .seq its.toArray},toks:=t'}:=
 I.laid (λ _ _ q=>z1a _ q) (z0g _) ⟨hz,its,0,hv,z1f _ rfl⟩
theorem Inv.fresh (I:Inv X pins σ H s):H s.heap.objs.size=none:=I.hok.fresh (z0g _)
theorem Inv.lstM (I:Inv X pins σ H s) (hH:H l=some (.lst xs)):xs.length<=sizeLine/\∃(its:List Value) (n:Nat),Vals xs its/\xs.length=its.length/\s.heap.get? l=some {cls:= .type "list",data:= .seq its.toArray n}:=by
 obtain⟨z,its,n,r,e⟩:=I.hok l _ hH;exact⟨z,its,n,r,r.length,e⟩
end
section
variable {X:Cx}
def rAppend:V->List V->Hp->VK->Prop:=λ x vs H Q=>∃l xs y,x= .ref l/\vs=[y]/\H l=some (.lst xs)/\xs.length < sizeLine/\Q .non (upd H l (.lst (xs++[y])))
theorem mt_append:MtM X "list.append" rAppend:=by
 intro pins s σ H x vs v us Q I rx rv h;obtain⟨l,xs,y,rfl,rfl,hH,hz,q⟩:=h;cases rx;obtain⟨u,rfl,ru⟩:=rv.one;obtain⟨z,its,n,r,hl,e⟩:=I.lstM hH;refine call_meets F.slot_list_append ⟨_,e,rfl⟩ F.entry_list_append (F.args_list_append_2 _ _) (PySem.list_append l its.toArray n u (by rw[z1c];omega)) ⟨e,?_⟩;refine⟨.non,_,I.lset (its':=its++[u]) hH e (by simp) (r.append (.cons ru .nil)) ?_,rfl,q⟩;rw[z1d,List.length_singleton];omega
theorem len_rep {α:Type} (xs:List α) (k:Nat):(List.replicate k xs).flatten.length=k*xs.length:=by
 induction k with
 |zero=>simp
 |succ k ih=>rw[List.replicate_succ,List.flatten_cons,z1d,ih,Nat.succ_mul,Nat.add_comm]
end
section
variable {prog:Program} {w:World} {A:Around} {E:Value->Shared->Prop} {s:Shared}
end
section
variable {X:Cx}
end
section
variable {κ:Type} [DecidableEq κ]
end
section
variable {P:Program} {w:World} {H:Hp} {h:Heap} {a:Addr}
end
section
variable {X:Cx} {pins:List (Addr×Obj)} {σ:St} {H:Hp} {s:Shared} {a:Addr} {y v:V} {u r:Value} {o:Option V} {A:Around} {E:Value->Shared->Prop}
end
section
variable {X:Cx} {pins:List (Addr×Obj)} {σ:St} {H:Hp} {s:Shared} {a:Addr} {kvs:List (Key×V)} {k:Key} {u:Value} {A:Around} {E:Value->Shared->Prop}
end
section
variable {X:Cx} {o i e value:Expr} {pos pos' tpos:Pos} {td ty tv:TE}
end
section
variable {X:Cx} {pos:Pos}
end
section
variable {X:Cx} {pins:List (Addr×Obj)} {σ:St} {H:Hp} {s:Shared} {a:Addr} {y d:V} {u r:Value} {o:Option V} {A:Around} {E:Value->Shared->Prop}
end
section
variable {X:Cx} {o e f:Expr} {apos cpos:Pos} {td ty tx:TE}
end
section
variable {X:Cx} {pins:List (Addr×Obj)} {σ:St} {H:Hp} {s:Shared} {a:Addr} {kvs:List (Key×V)} {A:Around} {E:Value->Shared->Prop}
end
section
variable {X:Cx} {pins:List (Addr×Obj)} {σ:St} {H:Hp} {s:Shared} {a:Addr} {y:V} {u:Value} {A:Around} {E:Value->Shared->Prop}
end
end L2
namespace Att
open PySem PySem.W PySem.Calls PyProof.Rows
theorem ints_of_wellAll {P:Params} {h:Heap}:∀(ns:List Int) (vs:List Value),WellAll P h vs (ns.map WData.int)->IntsAre vs ns:=by
 intro ns
 induction ns with
 | nil=>
  intro vs w;rw[List.map_nil] at w;cases w;exact .nil
 | cons n ns ih=>
  intro vs w;rw[z1h] at w;cases w with
  | cons a b=>
   cases a;exact .cons _ _ (ih _ b)
theorem script_of {l:OpenLaw} {n:Nat} (hn:l.most=some n) {P:Params} {h:Heap} {args:List WData} {vals:List Value}
  (hpre:l.row.toRowW.claim.pre args=true) (hwl:WellAll P h vals args):
  ∃a vs ns,vals=[Value.ref a]/\args=[WData.list (ns.map WData.int)]/\h.get? a=some {cls:= .type "list",data:= .seq vs.toArray}/\IntsAre vs ns/\ns.length<=n:=by
 have hsh:WShape.hasAll [] args [.list .int]=true:=(pre_splitW hpre).1;have hc:l.pre.holds [] {args:=args}=true:=(pre_splitW hpre).2;obtain⟨d,r,rfl,h1,h2⟩:=hasAllW_cons hsh;obtain rfl:=hasAllW_nil h2;obtain⟨xs,rfl,h3⟩:=hasW_list h1;obtain⟨ns,rfl⟩:=items_int h3;have hlen:ns.length<=n:=by
  unfold OpenLaw.pre at hc;have h4:(WTm.not (.lt (.lit (.int (n:Int))) (.len (.arg 0)))).holds [] {args:=[.list (ns.map .int)]}=true:=by
   have h4:=(holds_andW hc).1;rw[hn] at h4;exact h4
  have h5:=condW_of h4 (w_not (w_lt w_lit (w_len_list (w_arg rfl))));rw[z1g] at h5;refine Nat.le_of_not_lt λ q=>?_;have q':(n:Int) < ((ns.length:Nat):Int):=by omega
  first
   |(rw[decide_eq_true q'] at h5;exact absurd h5 (by decide))
   |(simp at h5;omega)
 cases hwl with
 | cons w1 w2=>
  cases w2;cases w1 with
  |list ho hall=>exact⟨_,_,ns,rfl,rfl,ho,ints_of_wellAll ns _ hall,hlen⟩
theorem post_true (l:OpenLaw) (args:List WData):l.row.toRowW.claim.post args (.bool true) args=true:=
 postW_of (r:=l.row.toRowW) (X:=(true ==true))
  (show WShape.has [] (.bool true) .bool=true by first |rfl |decide |simp [WShape.has,WShape.arms,WShape.armsAll])
  (show (WTm.eq .res (.lit (.bool true))).value [] {args:=args,res:=some (.bool true),after:=args}=some (.bool (true ==true)) from w_eq_bool (w_res rfl) w_lit) rfl
theorem attach_call {l:OpenLaw} {n:Nat} {q:Program} {loose:List Str} {XP:(Str->Option Value)->Heap->Prop} {YP:World->Heap->Prop} {d:DefRec}
  (hn:l.most=some n) (hdf:d.params.defaults=[])
  (call:∀(w:World) (s₀ s₁:Shared) (mg mb:Str->Option Value) (fa:Addr) (o:Obj) (pm cd doc:Value) (a:Addr) (vs:List Value) (ns:List Int),
   Ground q loose [] XP w s₀ mg mb s₁.heap->YP w s₁.heap->
   s₁.heap.get? fa=some o->o.data= .func (docDef d.name d.params d.body d.scope pm cd doc)->s₁.heap.CodeRec cd d.name->mg d.name=some (.ref fa)->
   s₁.heap.get? a=some {cls:= .type "list",data:= .seq vs.toArray}->IntsAre vs ns->ns.length<=n->s₁.gens= #[]->
   codeAny (model l.prog w) callerA (.call (.ref fa) ⟨[.ref a],[]⟩) (λ r s'=>r= .ok (.ret (.bool true))/\OldK s₁.heap s'.heap/\s'.os=s₁.os/\AllBare s'.gens) s₁):
  WalkO q loose XP YP l.row.toRowW d [] (λ f vs=>PySem.call f vs):=by
 intro w s₀ s₁ mg mb G Y fa o pm cd doc dV kV ho hd hcd hD hmg hg args vals as hpre hlay hrd hwl hlo;obtain rfl:dV= .none:=Dflts.none hD hdf;obtain rfl:kV= .none:=Dflts.noKw hD;obtain⟨a,vs,ns,rfl,rfl,hobj,hints,hlen⟩:=script_of hn hpre hwl;refine enter_call (codeAny_mono (call w s₀ s₁ mg mb fa o pm cd doc a vs ns G Y ho (fd_plain hd) hcd hmg hobj hints hlen hg) λ r s' hq=>?_);obtain⟨rfl,h2,h3,h4⟩:=hq;exact⟨.inl ⟨.bool true,.bool true,[],rfl,λ _=>rfl,.bool true,post_true l _,λ _=>⟨List.Pairwise.nil,λ _ hm=>(nomatch hm)⟩⟩,h2,h3,h4⟩
section
variable {prog:Program} {w:World} {A:Around} {E:Value->Shared->Prop} {s:Shared} {K:Frag}
end
end Att
namespace L2
open PySem PySem.Spec PyProof.Rows
variable {fd:FuncData} {st:Stmt} {x qual:Str}
theorem vals_ints:∀{vs:List Value} {ns:List Int},IntsAre vs ns->Vals (ns.map V.int) vs
 :=by
 intro vs ns h
 induction h with
 |nil=>exact .nil
 |cons n t h ih=>exact .cons ⟨t,rfl⟩ ih
def Only (H:Hp):Prop:=∀b,H b=none\/∃o xs,H b=some (.frz o (.lst xs))
theorem law_call {P:Program} {w:World} {K:PySem.W.Frag} {mg mb:Str→Option Value} {CX:CXT} {k:Nat} {fa a:Addr} {sp:Sp} {s₁:Shared} {vs:List Value} {ns:List Int}
    (KX:K.In s₁.heap) (hns:s₁.heap.Ns mainGlobals mg) (hb:s₁.heap.Ns builtinsNs mb) (hbb:∀x:Str,x≠"__name__"→mb x=bootBuiltins x) (hlim:s₁.heap.NoLimit) (hg:s₁.gens= #[])
    (ha:s₁.heap.get? a=some {cls:= .type "list",data:= .seq vs.toArray}) (hi:IntsAre vs ns) (hl:ns.length≤sizeLine) (hr:Room k callerA)
    (F:∀base:Heap,K.In base→base.Ns mainGlobals mg→FnOk P w K mg base CX k fa fd [x] sp) (hbind:∀(s:Shared) (u:Value),BindsTo s fd ⟨[u],[]⟩ [(x,u)])
    (hsp:∀H:Hp,Only H→SqL K H a (ns.map V.int)→sp [.ref a] H (fun v _=>v= .bl true) fun _ _ _=>False)
    (hCX:∀H e s',CX [] H s₁ (fun _ _ _=>False) e s'→False):
    codeAny (model P w) callerA (.call (.ref fa) ⟨[.ref a],[]⟩) (fun r s'=>r= .ok (.ret (.bool true))∧OldK s₁.heap s'.heap∧s'.os=s₁.os∧AllBare s'.gens) s₁:=by
  have rv:=vals_ints hi
  have lenV:=hi.length
  have core :∀H:Hp,Only H→SqL K H a (ns.map V.int)→HOk P w H s₁.heap→(∀b,H b≠none→b=a)→(H a≠none→K.lookup a=none)→
      codeAny (model P w) callerA (.call (.ref fa) ⟨[.ref a],[]⟩) (fun r s'=>r= .ok (.ret (.bool true))∧OldK s₁.heap s'.heap∧s'.os=s₁.os∧AllBare s'.gens) s₁:=by
    intro H hO hS hok hA hK
    have base_of:∀{b:Addr} {o:Obj},s₁.heap.get? b=some o→H b=none→(hidT s₁.heap H).get? b=some o:=fun e n=>hidT_get e n
    have noA:∀{b:Addr} {o:Obj} {es:Array DictEntry} {ep:Nat},s₁.heap.get? b=some o→o.data= .dict es ep→H b=none:=fun {b o es ep} e d=>by
      cases q:H b with
      |none=>rfl
      | some u=>
        have e':b=a:=hA b (by rw[q];simp)
        subst e'
        rw[ha] at e;cases e
        have d':Data.seq vs.toArray _=Data.dict es ep:=d
        cases d'
    have nsK:∀{b:Addr} {m:Str→Option Value},s₁.heap.Ns b m→(hidT s₁.heap H).Ns b m:=fun {b m} ⟨o,es,ep,e,d,r⟩=>⟨o,es,ep,base_of e (noA e d),d,r⟩
    have hKb:K.In (hidT s₁.heap H):=fun b o e=>base_of (KX b o e) (by
      cases q:H b with
      |none=>rfl
      | some u=>
        have e':b=a:=hA b (by rw[q];simp)
        subst e'
        rw[hK (by rw[q];simp)] at e;cases e)
    have hM:Mod K mg (hidT s₁.heap H):=⟨hKb,nsK hns,⟨mb,nsK hb,hbb⟩,let ⟨mc,h1,h2⟩:=hlim;⟨mc,nsK h1,h2⟩⟩
    have e0:Env0 P w K mg (hidT s₁.heap H) callerA [] s₁ H:=⟨rfl,hM,fun b o e=>of_hidT e,Nat.le_of_eq (hidT_size _ _),trivial,fun b hb=>absurd (show b∈([]:List Addr) from hb) (by simp),hok,.of_eq hg⟩
    refine codeAny_mono ((F _ hKb (nsK hns)).run callerA [] s₁ H ⟨[.ref a],[]⟩ [.ref a] [.ref a] _ _ hr e0 (hbind s₁ (.ref a)) (.cons rfl .nil) (hsp H hO hS)) fun r s' h=>?_
    cases r with
    |error e=>exact (hCX H e s' h).elim
    | ok fl =>
      cases fl with
      |next=>exact False.elim h
      |brk=>exact False.elim h
      |cont=>exact False.elim h
      | ret u=>
        obtain⟨v,H',os,bare,un,hok',r',q⟩:=h
        have q':v= .bl true:=q
        subst q'
        obtain rfl:u=Value.bool true:=r'
        refine⟨rfl,OldK.of_keep fun b o e=>?_,os,bare⟩
        cases q:H b with
        |none=>exact un.keep b o e q (by intro z;exact absurd (show b∈([]:List Addr) from z) (by simp)) (by simp)
        | some u=>
          rcases hO b with z |⟨ob,xs,z⟩
          · rw[q] at z;cases z
          · have z2:=un.frzs b ob _ z
            obtain⟨e1,_⟩:=hok b _ z
            obtain⟨e2,_⟩:=hok' b _ z2
            rw[e] at e1;cases e1
            exact e2
  cases hk:K.lookup a with
  | some o=>
    have e:=KX a o hk
    rw[ha] at e
    cases e
    refine core (fun _=>none) (fun _=> .inl rfl) (.inr ⟨_,vs.toArray,_,hk,rfl,rfl,rfl,by rw[List.size_toArray,lenV];exact hl,by simpa using rv⟩) (fun b u z=>by have z':(none:Option HO)=some u:=z;cases z') (fun b z=>absurd rfl z) fun z=>absurd rfl z
  | none=>
    refine core (fun b=>if b=a then some (.frz {cls:= .type "list",data:= .seq vs.toArray} (.lst (ns.map V.int))) else none) (fun b=>?_) (.inl (.inr ⟨{cls:= .type "list",data:= .seq vs.toArray},if_pos rfl⟩)) (fun b u z=>?_) (fun b z=>?_) fun _=>hk
    · by_cases hb:b=a
      · exact .inr ⟨_,_,if_pos hb⟩
      · exact .inl (if_neg hb)
    · by_cases hb:b=a
      · have z':=(if_pos hb).symm.trans z
        cases z'
        subst hb
        exact⟨ha,by rw[List.length_map];exact hl,vs,_,rv,ha⟩
      · have z':=(if_neg hb).symm.trans z
        cases z'
    · by_cases hb:b=a
      · exact hb
      · exact absurd (if_neg hb) z
theorem walk_of {l:PySem.W.OpenLaw} {n k:Nat} {q:Program} {loose:List Str} {XP:(Str->Option Value)->Heap->Prop} {YP:World->Heap->Prop} {d:DefRec} {K:Params->PySem.W.Frag} {CX:World->CXT} {sp:World->Sp}
  (hn:l.most=some n) (hn2:n<=sizeLine) (hdf:d.params.defaults=[]) (hr:Room k callerA)
  (hY:∀(w:World) (h:Heap),YP w h->(K w.params).In h)
  (F:∀(w:World) (mg:Str->Option Value) (fa:Addr) (h:Heap),(K w.params).In h->h.Ns mainGlobals mg->mg d.name=some (.ref fa)->
   ∃ fd:FuncData,(∀(s:Shared) (u:Value),BindsTo s fd ⟨[u],[]⟩ [(x,u)])/\
    ∀base:Heap,(K w.params).In base->base.Ns mainGlobals mg->FnOk l.prog w (K w.params) mg base (CX w) k fa fd [x] (sp w))
  (hsp:∀(w:World) (H:Hp) (a:Addr) (ns:List Int),ns.length<=n->Only H->SqL (K w.params) H a (ns.map V.int)->sp w [.ref a] H (λ v _=>v= .bl true) λ _ _ _=>False)
  (hCX:∀(w:World) (H:Hp) (s:Shared) (e:Value) (s':Shared),CX w [] H s (λ _ _ _=>False) e s'->False):
  PySem.W.WalkO q loose XP YP l.row.toRowW d [] (λ f vs=>PySem.call f vs):=by
 refine Att.attach_call hn hdf λ w s₀ s₁ mg mb fa o pm cd doc a vs ns G Y ho hd hcd hmg hobj hints hlen hg=>?_;have KX:=hY w _ Y;obtain⟨fd,hb,hF⟩:=F w mg fa _ KX G.T.g hmg;exact law_call KX G.T.g G.T.b G.T.builtins G.T.nolimit hg hobj hints (z0b hlen hn2) hr hF hb (λ H hO hS=>hsp w H a ns hlen hO hS) λ H e s'=>hCX w H s₁ e s'
def defArgs (s:Stmt):Arguments:=match s with
 | .FunctionDef _ a _ _ _ _ _ _ _ _=>a
 |_=>{posonlyargs:=[],args:=[],vararg:=none,kwonlyargs:=[],kw_defaults:=[],kwarg:=none,defaults:=[]}
def defBody (s:Stmt):List Stmt:=match s with
 | .FunctionDef _ _ b _ _ _ _ _ _ _=>b
 |_=>[]
def defScope (s:Stmt):Scope:=match s with
 | .FunctionDef _ _ _ _ _ _ sc _ _ _=>sc
 |_=>{kind:= .function,names:=[],isGenerator:=false,isCoroutine:=false}
abbrev CX0:CXT:=λ _ _ _ _ _ _=>False
abbrev E0:XK:=λ _ _ _=>False
theorem pass0 {X:Cx}:Passes CX0 X E0:=λ _ _ _ _ _ _ _ h=>h.elim
inductive aaR (K:PySem.W.Frag) (x qual:Str) (st:Stmt) (f:Addr) (fd:FuncData):Prop
 |mk (oc:Value) (od:Option Addr) (kV doc pm:Value) (an:Option Addr) (cdv ct:Value) (osl:Array (Option Value)) (e:fd=PySem.W.fnOf x qual (defArgs st) (defBody st) (defScope st) .none kV doc pm an cdv ct) (lk:K.lookup f=some ⟨oc,od,.func fd,osl⟩) (hcd:PySem.W.codeIn K cdv qual=true):aaR K x qual st f fd
structure Fun (K:PySem.W.Frag) (x qual:Str) (st:Stmt) (f:Addr) (fd:FuncData):Prop where
 ex:aaR K x qual st f fd
 kp:PySem.W.keepIn K (.ref f)=true
section
variable {P:Program} {w:World} {K:PySem.W.Frag} {mg:Str->Option Value} {base:Heap}
theorem Fun.ok {f:Addr} {N ps:List Str} {k:Nat} {sp:Sp} (F:Fun K x qual st f fd) (S:FnScope N ps (defScope st)) (len:∀vs H Q E,sp vs H Q E->vs.length=ps.length)
  (hbody:∀(cdv:Value) (A:Around) (outer:List Env) (s:Shared) (H:Hp) (vs:List V) (Q:VK) (E:XK),Room k (A.deeper (envOfC qual (defScope st) s.heap.objs.size f cdv))->sp vs H Q E->
   ∃t,PSs (cxOf CX0 P w K mg base N qual (defScope st) f cdv A outer s H E).nox (defBody st) t/\t {nx:=λ _ H'=>Q .non H',rt:=Q} (start N vs) H):FnOk P w K mg base CX0 (k+1) f fd ps sp:=by
 obtain⟨oc,od,kV,doc,pm,an,cdv,ct,osl,rfl,lk,hcd⟩:=F.ex;refine fn_of lk hcd S len λ A outer s H vs Q E hr hsp=>?_;obtain⟨t,h,q⟩:=hbody cdv A outer s H vs Q E hr hsp;exact⟨t,h.nox,q⟩
theorem Fun.binds {f:Addr} {ps:List Str} (F:Fun K x qual st f fd)
  (h:∀(kV doc pm:Value) (an:Option Addr) (cdv ct:Value) (us:List Value),us.length=ps.length->bindArgs (PySem.W.fnOf x qual (defArgs st) (defBody st) (defScope st) .none kV doc pm an cdv ct) ⟨us,[]⟩=pure (ps.zip us)):Binds K fd ps []:=by
 obtain⟨oc,od,kV,doc,pm,an,cdv,ct,osl,rfl,lk,hcd⟩:=F.ex;exact .all (h kV doc pm an cdv ct)
theorem fun_mk {f:Addr} {oc:Value} {od an:Option Addr} {osl:Array (Option Value)} {kV doc pm cdv ct:Value} (l:K.lookup f=some ⟨oc,od,.func (PySem.W.fnOf x qual (defArgs st) (defBody st) (defScope st) .none kV doc pm an cdv ct),osl⟩)
  (c:PySem.W.codeIn K cdv qual=true) (k:PySem.W.keepIn K (.ref f)=true):Fun K x qual st f (PySem.W.fnOf x qual (defArgs st) (defBody st) (defScope st) .none kV doc pm an cdv ct):=⟨⟨oc,od,kV,doc,pm,an,cdv,ct,osl,rfl,l,c⟩,k⟩
end
section
variable {X:Cx}
end
def Same (H H':Hp):Prop:=∀b o,H b=some o->H' b=some o
theorem Same.refl (H:Hp):Same H H:=λ _ _ h=>h
theorem Same.trans {H H1 H2:Hp} (a:Same H H1) (b:Same H1 H2):Same H H2:=λ c o h=>b c o (a c o h)
theorem Same.free {H H':Hp} (e:Same H H') {l:Addr} (h:H' l=Option.none):H l=Option.none:=by
 cases q:H l with
 |none=>rfl
 | some o=>
  rw[e l o q] at h;cases h
section
variable {κ:Type} [DecidableEq κ]
end
end L2
namespace Pu
open PySem PySem.Spec L2
open PyProof.Rows hiding St
inductive D where
 |non |bl (b:Bool) |int (i:Int) |str (x:Str) |tup (xs:List D) |lst (xs:List D)
inductive R (α:Type) where
 |bad |ok (a:α) |err (c:Str)
namespace R
def bind {α β:Type} (r:R α) (k:α->R β):R β:=match r with
 | .ok a=>k a
 | .err c=> .err c
 | .bad=> .bad
@[simp] theorem bC {α β:Type} (a:α) (k:α->R β):(R.ok a).bind k=k a:=rfl
end R
mutual
def Rep (K:PySem.W.Frag) (O:Addr->Prop) (H:Hp):D->V->Prop
 | .non,v=>v= .non
 | .bl b,v=>v= .bl b
 | .int i,v=>v= .int i
 | .str x,v=>v= .str x
 | .tup ds,v=>∃a xs,v= .ref a/\SqT K H a xs/\aN K O H ds xs
 | .lst ds,v=>∃a xs,v= .ref a/\SqL K H a xs/\¬O a/\aN K O H ds xs
def aN (K:PySem.W.Frag) (O:Addr->Prop) (H:Hp):List D->List V->Prop
 |[],xs=>xs=[]
 |d::ds,xs=>∃x r,xs=x::r/\Rep K O H d x/\aN K O H ds r
end
structure Ext (O:Addr->Prop) (H H':Hp):Prop where
 tup:∀b xs,Rd H b (.tup xs)->Rd H' b (.tup xs)
 lst:∀b xs,¬O b->Rd H b (.lst xs)->Rd H' b (.lst xs)
section
variable {K:PySem.W.Frag} {O O':Addr->Prop} {H H':Hp}
theorem SqL.ext (e:Ext O H H') {a:Addr} {xs:List V} (n:¬O a) (h:SqL K H a xs):SqL K H' a xs:=by
 rcases h with h |h
 ·exact .inl (e.lst _ _ n h)
 ·exact .inr h
theorem SqT.ext (e:Ext O H H') {a:Addr} {xs:List V} (h:SqT K H a xs):SqT K H' a xs:=by
 rcases h with h |h
 ·exact .inl (e.tup _ _ h)
 ·exact .inr h
mutual
theorem Rep.ext (e:Ext O H H') (o:∀b xs,¬O b->SqL K H b xs->¬O' b):∀(d:D) (v:V),Rep K O H d v->Rep K O' H' d v
 | .non,_,h=>by simpa only[Rep] using h
 | .bl _,_,h=>by simpa only[Rep] using h
 | .int _,_,h=>by simpa only[Rep] using h
 | .str _,_,h=>by simpa only[Rep] using h
 | .tup ds,v,h=>by
  simp only[Rep] at h |-;obtain⟨a,xs,e1,h1,h2⟩:=h;exact⟨a,xs,e1,SqT.ext e h1,aN.ext e o ds xs h2⟩
 | .lst ds,v,h=>by
  simp only[Rep] at h |-;obtain⟨a,xs,e1,h1,h2,h3⟩:=h;exact⟨a,xs,e1,SqL.ext e h2 h1,o _ _ h2 h1,aN.ext e o ds xs h3⟩
theorem aN.ext (e:Ext O H H') (o:∀b xs,¬O b->SqL K H b xs->¬O' b):∀(ds:List D) (xs:List V),aN K O H ds xs->aN K O' H' ds xs
 |[],xs,h=>by simpa only[aN] using h
 | d::ds,xs,h=>by
  simp only[aN] at h |-;obtain⟨x,r,e1,h1,h2⟩:=h;exact⟨x,r,e1,Rep.ext e o d x h1,aN.ext e o ds r h2⟩
end
end
structure eF (K:PySem.W.Frag) (O:Addr->Prop) (H:Hp) (O':Addr->Prop) (H':Hp):Prop where
 ext:Ext O H H'
 new:∀a,O' a->O a\/(H a=none/\K.lookup a=none)
 dom:∀a,H' a=none->H a=none
section
variable {K:PySem.W.Frag} {O O1 O2:Addr->Prop} {H H1 H2:Hp}
theorem Rd.some {a:Addr} {u:HO} (h:Rd H a u):H a≠none:=by
 rcases h with h |⟨o,h⟩ <;> rw[h] <;> simp
theorem eF.out (r:eF K O H O1 H1) (b:Addr) (xs:List V) (n:¬O b) (h:SqL K H b xs):¬O1 b:=λ z=>by
 rcases r.new b z with z |⟨z1,z2⟩
 ·exact n z
 ·rcases h with h |⟨o,_,_,h,_⟩
  ·exact Rd.some h z1
  ·rw[z2] at h;cases h
theorem eF.refl:eF K O H O H:=⟨⟨λ _ _ h=>h,λ _ _ _ h=>h⟩,λ _ h=> .inl h,λ _ h=>h⟩
theorem eF.trans (r:eF K O H O1 H1) (q:eF K O1 H1 O2 H2):eF K O H O2 H2 where
 ext:=⟨λ b xs h=>q.ext.tup b xs (r.ext.tup b xs h),λ b xs n h=>q.ext.lst b xs (r.out b xs n (.inl h)) (r.ext.lst b xs n h)⟩
 new:=λ a z=>(q.new a z).elim (r.new a) λ w=> .inr ⟨r.dom a w.1,w.2⟩
 dom:=λ a z=>r.dom a (q.dom a z)
theorem Same.rd (s:Same H H1) {a:Addr} {u:HO} (h:Rd H a u):Rd H1 a u:=by
 rcases h with h |⟨o,h⟩
 ·exact .inl (s _ _ h)
 ·exact .inr ⟨o,s _ _ h⟩
theorem Same.dJ (s:Same H H1):eF K O H O H1:=⟨⟨λ _ _ h=>Same.rd s h,λ _ _ _ h=>Same.rd s h⟩,λ _ h=> .inl h,λ _ h=>s.free h⟩
theorem Rep.go (r:eF K O H O1 H1) {d:D} {v:V} (h:Rep K O H d v):Rep K O1 H1 d v:=Rep.ext r.ext r.out d v h
theorem aN.go (r:eF K O H O1 H1) {d:List D} {v:List V} (h:aN K O H d v):aN K O1 H1 d v:=aN.ext r.ext r.out d v h
theorem Rep.same (s:Same H H1) {d:D} {v:V} (h:Rep K O H d v):Rep K O H1 d v:=h.go (Same.dJ s)
theorem aN.same (s:Same H H1) {d:List D} {v:List V} (h:aN K O H d v):aN K O H1 d v:=h.go (Same.dJ s)
theorem Rep.fewer (w:∀a,O1 a->O a) {d:D} {v:V} (h:Rep K O H d v):Rep K O1 H d v:=Rep.ext ⟨λ _ _ h=>h,λ _ _ _ h=>h⟩ (λ b _ n _ z=>n (w b z)) d v h
theorem aN.fewer (w:∀a,O1 a->O a) {d:List D} {v:List V} (h:aN K O H d v):aN K O1 H d v:=aN.ext ⟨λ _ _ h=>h,λ _ _ _ h=>h⟩ (λ b _ n _ z=>n (w b z)) d v h
theorem aN.nil:aN K O H [] []:=by simp only[aN]
theorem aN.cons {d:D} {v:V} {ds:List D} {vs:List V} (h:Rep K O H d v) (t:aN K O H ds vs):aN K O H (d::ds) (v::vs):=by simp only[aN];exact⟨v,vs,rfl,h,t⟩
theorem aN.cons_inv {d:D} {ds:List D} {vs:List V} (h:aN K O H (d::ds) vs):∃x r,vs=x::r/\Rep K O H d x/\aN K O H ds r:=by simpa only[aN] using h
theorem aN.nil_inv {vs:List V} (h:aN K O H [] vs):vs=[]:=by simpa only[aN] using h
theorem aN.length:∀{ds:List D} {vs:List V},aN K O H ds vs->ds.length=vs.length
 |[],vs,h=>by rw[h.nil_inv];rfl
 | d::ds,vs,h=>by
  obtain⟨x,r,rfl,_,t⟩:=h.cons_inv;simp[aN.length t]
theorem aN.get:∀{ds:List D} {vs:List V} {i:Nat} {d:D},aN K O H ds vs->ds[i]?=some d->∃v,vs[i]?=some v/\Rep K O H d v
 |[],_,_,_,_,e=>by simp at e
 | d::ds,vs,i,d',h,e=>by
  obtain⟨x,r,rfl,h1,t⟩:=h.cons_inv;cases i with
  |zero=>simp at e;subst e;exact⟨x,rfl,h1⟩
  |succ i=>simpa using aN.get t (i:=i) (by simpa using e)
theorem aN.bL {ds:List D} {vs:List V} {i:Nat} {v:V} (h:aN K O H ds vs) (e:vs[i]?=some v):∃d,ds[i]?=some d/\Rep K O H d v:=by
 have hl:=h.length;have hi:i < ds.length:=by rw[hl];exact (z1b e).1
 obtain⟨v',e',r⟩:=h.get (i:=i) (d:=ds[i]) (by simp[hi]);rw[e] at e';cases e';exact⟨_,by simp[hi],r⟩
theorem aN.append:∀{ds es:List D} {vs ws:List V},aN K O H ds vs->aN K O H es ws->aN K O H (ds++es) (vs++ws)
 |[],_,vs,_,h,t=>by rw[h.nil_inv];exact t
 | d::ds,es,vs,ws,h,t=>by
  obtain⟨x,r,rfl,h1,h2⟩:=h.cons_inv;exact .cons h1 (aN.append h2 t)
theorem aN.reverse:∀{ds:List D} {vs:List V},aN K O H ds vs->aN K O H ds.reverse vs.reverse
 |[],vs,h=>by rw[h.nil_inv];exact .nil
 | d::ds,vs,h=>by
  obtain⟨x,r,rfl,h1,h2⟩:=h.cons_inv;simp only[List.reverse_cons];exact h2.reverse.append (.cons h1 .nil)
theorem aN.drop:∀{ds:List D} {vs:List V} (n:Nat),aN K O H ds vs->aN K O H (ds.drop n) (vs.drop n)
 |_,_,0,h=>h
 |[],vs,n+1,h=>by rw[h.nil_inv];exact .nil
 | d::ds,vs,n+1,h=>by
  obtain⟨x,r,rfl,h1,h2⟩:=h.cons_inv;exact h2.drop n
theorem aN.take:∀{ds:List D} {vs:List V} (n:Nat),aN K O H ds vs->aN K O H (ds.take n) (vs.take n)
 |_,_,0,_=>by simpa using aN.nil
 |[],vs,n+1,h=>by rw[h.nil_inv];exact .nil
 | d::ds,vs,n+1,h=>by
  obtain⟨x,r,rfl,h1,h2⟩:=h.cons_inv;exact .cons h1 (h2.take n)
theorem Rep.int {i:Int} {v:V} (h:Rep K O H (.int i) v):v= .int i:=by simpa only[Rep] using h
theorem Rep.bl {b:Bool} {v:V} (h:Rep K O H (.bl b) v):v= .bl b:=by simpa only[Rep] using h
theorem Rep.non {v:V} (h:Rep K O H .non v):v= .non:=by simpa only[Rep] using h
theorem Rep.str {x:Str} {v:V} (h:Rep K O H (.str x) v):v= .str x:=by simpa only[Rep] using h
theorem Rep.tup {ds:List D} {v:V} (h:Rep K O H (.tup ds) v):∃a xs,v= .ref a/\SqT K H a xs/\aN K O H ds xs:=by simpa only[Rep] using h
theorem Rep.lst {ds:List D} {v:V} (h:Rep K O H (.lst ds) v):∃a xs,v= .ref a/\SqL K H a xs/\¬O a/\aN K O H ds xs:=by simpa only[Rep] using h
theorem cB (i:Int):Rep K O H (.int i) (.int i):=by simp only[Rep]
theorem gM (b:Bool):Rep K O H (.bl b) (.bl b):=by simp only[Rep]
theorem sI:Rep K O H .non .non:=by simp only[Rep]
theorem HW (x:Str):Rep K O H (.str x) (.str x):=by simp only[Rep]
theorem iV {ds:List D} {a:Addr} {xs:List V} (h:SqT K H a xs) (r:aN K O H ds xs):Rep K O H (.tup ds) (.ref a):=by simp only[Rep];exact⟨a,xs,rfl,h,r⟩
theorem gG {ds:List D} {a:Addr} {xs:List V} (h:SqL K H a xs) (n:¬O a) (r:aN K O H ds xs):Rep K O H (.lst ds) (.ref a):=by simp only[Rep];exact⟨a,xs,rfl,h,n,r⟩
end
inductive Ob where
 |exc (c:Str) |fn (a:Addr)
inductive Ent where
 |val (d:D) |lst (ds:List D) |za (kvs:List (Key×D)) |obj (t:Ob)
def Ent.own:Ent->Bool
 | .val _=>false
 | .obj _=>false
 |_=>true
def Ent.Rv:Ent->Bool
 | .val _=>true
 |_=>false
theorem abm {e:Ent} (h:e.Rv=true):e.own=false:=by cases e <;> first |rfl |cases h
abbrev ao:=List (Option Ent)
def afv (K:PySem.W.Frag) (O:Addr->Prop) (H:Hp) (kvs:List (Key×D)) (ys:List (Key×V)):Prop:=kvs.map (·.1)=ys.map (·.1)/\aN K O H (kvs.map (·.2)) (ys.map (·.2))
def tD (K:PySem.W.Frag) (H:Hp):Ob->V->Prop
 | .exc c,v=>∃a o C,v= .ref a/\H a=some (.frz o (.own a))/\o.cls= .ref C/\o.dict=none/\(∃vs,o.data= .fields vs)/\PySem.W.nsIn K mainGlobals c=some (some (.ref C))
 | .fn a,v=>v= .ref a/\∃o fd,H a=some (.frz o (.own a))/\o.data= .func fd
def qQ (K:PySem.W.Frag) (O:Addr->Prop) (H:Hp):Ent->V->Prop
 | .val d,v=>Rep K O H d v
 | .lst ds,v=>∃a xs,v= .ref a/\O a/\H a=some (.lst xs)/\aN K O H ds xs
 | .za kvs,v=>∃a ys,v= .ref a/\O a/\H a=some (.dK ys)/\afv K O H kvs ys
 | .obj t,v=>tD K H t v
structure Env (K:PySem.W.Frag) (O:Addr->Prop) (H:Hp) (ρ:ao) (σ:St):Prop where
 get:∀(i:Nat) e,ρ[i]?=some (some e)->∃v,σ[i]?=some (some v)/\qQ K O H e v
 sep:∀(i j:Nat) e e' v,i≠j->ρ[i]?=some (some e)->ρ[j]?=some (some e')->e.own=true->e'.own=true->σ[i]?=some (some v)->σ[j]?=some (some v)->False
structure In (X:Cx) (O:Addr->Prop) (H:Hp) (ρ:ao) (σ:St):Prop where
 env:Env X.K O H ρ σ
 al:∀a,O a->∃o,H a=some o
 len:σ.length=X.N.length
 m9:ρ.length=X.N.length
section
variable {X:Cx} {O:Addr->Prop} {H H1:Hp} {ρ:ao} {σ:St} {K:PySem.W.Frag}
theorem tD.fz (s:∀b o u,H b=some (.frz o u)->H1 b=some (.frz o u)):∀{t:Ob} {v:V},tD K H t v->tD K H1 t v
 | .exc _,_,z=>by
  obtain⟨a,o,C,e,h,q,n⟩:=z;exact⟨a,o,C,e,s _ _ _ h,q,n⟩
 | .fn _,_,z=>by
  obtain⟨e,o,fd,h,q⟩:=z;exact⟨e,o,fd,s _ _ _ h,q⟩
theorem tD.same (s:Same H H1) {t:Ob} {v:V} (h:tD K H t v):tD K H1 t v:=h.fz λ _ _ _ q=>s _ _ q
theorem qQ.same (s:Same H H1):∀{e:Ent} {v:V},qQ K O H e v->qQ K O H1 e v
 | .val d,v,h=>Rep.same s h
 | .lst ds,v,z=>by
  obtain⟨a,xs,e,o,h,r⟩:=z;exact⟨a,xs,e,o,s _ _ h,r.same s⟩
 | .za kvs,v,z=>by
  obtain⟨a,xs,e,o,h,k,r⟩:=z;exact⟨a,xs,e,o,s _ _ h,k,r.same s⟩
 | .obj t,v,h=>tD.same s h
theorem In.same (i:In X O H ρ σ) (s:Same H H1):In X O H1 ρ σ:=
 ⟨⟨λ j e h=>let ⟨v,h1,h2⟩:=i.env.get j e h;⟨v,h1,h2.same s⟩,i.env.sep⟩,λ a h=>let ⟨o,q⟩:=i.al a h;⟨o,s _ _ q⟩,i.len,i.m9⟩
end
def Exc (h:Heap) (e C:Addr) (T:Option Addr):Prop:=∃(oe:Obj) (vs:Array Value),h.get? e=some oe/\oe.cls= .ref C/\oe.dict=none/\oe.data= .fields vs/\match T with
 |none=>vs[1]?=some Value.none
 |some t=>vs[1]?=some (.ref t)/\t≠e/\∃(ot:Obj) (ts:Array Value),h.get? t=some ot/\ot.data= .fields ts/\ts[3]?=some Value.none
structure Rsd (P:Program) (w:World) (fs:List Addr) (H:Hp) (s:Shared) (a C:Addr) (T:Option Addr) (s':Shared) (H':Hp):Prop where
 same:Same H H'
 un:Un fs [] H H' s.heap s'.heap
 hok:HOk P w H' s'.heap
 os:s'.os=s.os
 bare:AllBare s'.gens
 exc:Exc s'.heap a C T
 na:s.heap.get? a=none
 ha:H' a=none
 nt:∀t,T=some t->s.heap.get? t=none/\H' t=none
def Cg (X:Cx) (c:Str) (σ:St) (H:Hp):Prop:=∀(H1:Hp) (pins:List (Addr×Obj)) (s:Shared) (a C:Addr) (T:Option Addr) (s':Shared) (H':Hp),Same H H1->Inv X pins σ H1 s->
 PySem.W.nsIn X.K mainGlobals c=some (some (.ref C))->Rsd X.prog X.w (frs X.stack) H1 s a C T s' H'->X.xe (.ref a) s'
theorem Cg.same {X:Cx} {c:Str} {σ:St} {H H1:Hp} (h:Cg X c σ H) (s:Same H H1):Cg X c σ H1:=λ H2 pins s0 a C T s' H' s2=>h H2 pins s0 a C T s' H' (s.trans s2)
def good {α β:Type} (X:Cx) (Rl:(Addr->Prop)->Hp->α->β->Prop) (O:Addr->Prop) (r:R α) (σ:St) (H:Hp) (Q:β->Hp->Prop):Prop:=match r with
 | .ok a=>∀b H',Same H H'->Rl O H' a b->Q b H'
 | .err c=>Cg X c σ H
 | .bad=>False
theorem good.same {α β:Type} {X:Cx} {Rl:(Addr->Prop)->Hp->α->β->Prop} {O:Addr->Prop} {r:R α} {σ:St} {H H1:Hp} {Q:β->Hp->Prop} (h:good X Rl O r σ H Q) (s:Same H H1):good X Rl O r σ H1 Q:=by
 cases r with
 |ok a=>exact λ b H' s' q=>h b H' (s.trans s') q
 |err c=>exact Cg.same (show Cg X c σ H from h) s
 |bad=>exact h
inductive TGd {α β:Type} (X:Cx) (Rl:(Addr->Prop)->Hp->α->β->Prop) (f:ao->R α) (σ:St) (H:Hp) (Q:β->Hp->Prop):Prop
 |mk (ρ:ao) (O:Addr->Prop) (j:In X O H ρ σ) (g:good X Rl O (f ρ) σ H Q):TGd X Rl f σ H Q
def tG {α β:Type} (X:Cx) (Rl:(Addr->Prop)->Hp->α->β->Prop) (f:ao->R α):St->Hp->(β->Hp->Prop)->Prop:=λ σ H Q=>TGd X Rl f σ H Q
abbrev rB:(Addr->Prop)->Hp->Bool->Bool->Prop:=λ _ _ a b=>a=b
abbrev rD (X:Cx):(Addr->Prop)->Hp->D->V->Prop:=λ O H d v=>Rep X.K O H d v
abbrev Rw (X:Cx):(Addr->Prop)->Hp->List D->List V->Prop:=λ O H d v=>aN X.K O H d v
def DE (X:Cx) (e:Expr) (f:ao->R D):Prop:=PE X e (tG X (rD X) f)
def DT (X:Cx) (e:Expr) (f:ao->R Bool):Prop:=PT X e (tG X rB f)
def DW (X:Cx) (e:Expr) (f:ao->R Bool):Prop:=PW X e (tG X rB f)
def DA (X:Cx) (es:List Expr) (f:ao->R (List D)):Prop:=PA X es (tG X (Rw X) f)
theorem PE.imp {X:Cx} {e:Expr} {t t':TE} (h:PE X e t) (w:∀σ H Q,t' σ H Q->t σ H Q):PE X e t':=λ pins s σ H Q I q=>h pins s σ H Q I (w σ H Q q)
theorem PT.imp {X:Cx} {e:Expr} {t t':TT} (h:PT X e t) (w:∀σ H Q,t' σ H Q->t σ H Q):PT X e t':=λ pins s σ H Q I q=>h pins s σ H Q I (w σ H Q q)
theorem PW.imp {X:Cx} {e:Expr} {t t':TT} (h:PW X e t) (w:∀σ H Q,t' σ H Q->t σ H Q):PW X e t':=λ wh pins s σ H Q I q=>h wh pins s σ H Q I (w σ H Q q)
theorem PA.imp {X:Cx} {e:List Expr} {t t':TA} (h:PA X e t) (w:∀σ H Q,t' σ H Q->t σ H Q):PA X e t':=λ pos pins s σ H Q I q=>h pos pins s σ H Q I (w σ H Q q)
section
variable {X:Cx} {O:Addr->Prop} {H:Hp} {ρ:ao} {σ:St}
theorem go {α β γ δ:Type} {Rl:(Addr->Prop)->Hp->α->β->Prop} {Rm:(Addr->Prop)->Hp->γ->δ->Prop} {f:ao->R α} {g:α->R γ} {Q:δ->Hp->Prop} {Q':β->Hp->Prop}
  (i:In X O H ρ σ) (h:good X Rm O ((f ρ).bind g) σ H Q)
  (k:∀a b H1,f ρ= .ok a->Same H H1->Rl O H1 a b->In X O H1 ρ σ->good X Rm O (g a) σ H1 Q->Q' b H1):tG X Rl f σ H Q':=by
 refine⟨ρ,O,i,?_⟩;cases e:f ρ with
 |ok a=>rw[e] at h;exact λ b H1 s r=>k a b H1 e s r (i.same s) (good.same h s)
 |err c=>rw[e] at h;exact h
 |bad=>rw[e] at h;exact h
theorem fin {α β:Type} {Rl:(Addr->Prop)->Hp->α->β->Prop} {a:α} {b:β} {Q:β->Hp->Prop} (h:good X Rl O (.ok a) σ H Q) (r:Rl O H a b):Q b H:=h b H (Same.refl H) r
end
end Pu
namespace Pu
open PySem PySem.Spec L2
open PyProof.Rows hiding St
variable {p:Addr} {O O0:Addr->Prop} {X Y:Cx} {d:D} {k l:D->D->R D} {H H0:Hp} {ds:List D} {u:List D->ao->R ao} {N caps ts:List Str} {xs:List V} {n i:Nat} {px:Pos} {K:PySem.W.Frag} {ρ:ao} {scope sc:Scope} {σ:St} {α:Type}
theorem Same.upd {o:HO} (h:H p=none):Same H (L2.upd H p o):=λ b u e=>by
 rw[upd_ne (ne_of_none e h)];exact e
theorem Rep.pF (h:H p=none) (r:aN X.K O H ds xs):Rep X.K O (upd H p (.tup xs)) (.tup ds) (.ref p):=
 iV (SqT.of upd_same) (r.same (Same.upd h))
theorem In.qR (i:In X O H ρ σ) (h:H p=none):¬O p:=λ z=>by
 obtain⟨o,e⟩:=i.al p z;rw[h] at e;cases e
theorem Rep.nD (h:H p=none) (n:¬O p) (r:aN X.K O H ds xs):Rep X.K O (upd H p (.lst xs)) (.lst ds) (.ref p):=
 gG (SqL.of upd_same) n (r.same (Same.upd h))
section
variable {X:Cx} {a b c:Expr} {f g h:ao->R D} {pos:Pos}
def bL (ρ:ao) (i:Nat):R D:=match ρ[i]? with
 |some (some (.val d))=> .ok d
 |_=> .bad
theorem dv (i:Nat) {x:Str} {pos:Pos} (hN:X.N[i]?=some x:=by rfl) (hv:Vis X.env.scope x:=by first |exact Or.inl rfl |exact Or.inr (Or.inl rfl) |exact Or.inr (Or.inr rfl)) (hd:(x ==("__debug__" :Str))=false:=by decide) (hcd:(x ==("__classdict__" :Str))=false:=by decide):
  DE X (.Name x pos) (λ ρ=>bL ρ i):=by
 refine PE.imp (pe_var hN hv hd hcd) λ σ H Q h=>?_;obtain⟨ρ,O,j,h⟩:=h;have h:good X (rD X) O (bL ρ i) σ H Q:=h;unfold bL at h;split at h
 ·rename_i d e;obtain⟨v,e1,r⟩:=j.env.get i _ e;exact⟨v,e1,fin h r⟩
 ·exact h.elim
theorem HX {e:Expr} {v:V} (h:PE X e (tC v)) (r:∀O H,Rep X.K O H d v):DE X e (λ _=> .ok d):=PE.imp h λ σ H Q h=>by
 obtain⟨ρ,O,j,h⟩:=h;exact fin h (r O H)
theorem aJ {i:Int} {j pos}:DE X (.Constant (.int i) j pos) (λ _=> .ok (.int i)):=HX pe_int λ _ _=>cB i
theorem lN {i:Bool} {j pos}:DE X (.Constant (.bool i) j pos) (λ _=> .ok (.bl i)):=HX pe_bl λ _ _=>gM i
theorem tE {j pos}:DE X (.Constant .none j pos) (λ _=> .ok .non):=HX pe_non λ _ _=>sI
theorem adi {x:Str} {j pos}:DE X (.Constant (.str x) j pos) (λ _=> .ok (.str x)):=HX pe_str λ _ _=>HW x
theorem fU {x:Str} {i:Int} {t:Tok} {pos:Pos} (hg:Gl X x) (hm:X.mg x=some (.int i t)) (hd:(x ==("__debug__" :Str))=false:=by decide):DE X (.Name x pos) (λ _=> .ok (.int i)):=
 HX (pe_glob (v:= .int i) hg hm ⟨t,rfl⟩ hd) λ _ _=>cB i
def jt (X:Cx) (o:Value->Value->Sem Value) (k:D->D->R D):Prop:=∃r:R2,OpR X o r/\
 ∀(ρ:ao) (O:Addr->Prop) (σ:St) (H:Hp) (Q:VK) (x y:V) (dx dy:D),In X O H ρ σ->Rep X.K O H dx x->Rep X.K O H dy y->good X (rD X) O (k dx dy) σ H Q->r x y H Q
def bin (f g:ao->R D) (k:D->D->R D):ao->R D:=λ ρ=>(f ρ).bind λ x=>(g ρ).bind λ y=>k x y
theorem Es {r:R2} {Q:VK}
  (hr:∀(ρ:ao) (O:Addr->Prop) (σ:St) (H:Hp) (Q:VK) (x y:V) (dx dy:D),In X O H ρ σ->Rep X.K O H dx x->Rep X.K O H dy y->good X (rD X) O (k dx dy) σ H Q->r x y H Q)
  (h:tG X (rD X) (bin f g k) σ H Q):tOp r (tG X (rD X) f) (tG X (rD X) g) σ H Q:=by
 obtain⟨ρ,O,j,h⟩:=h;refine go j h λ dx x H1 e1 s1 r1 j1 h1=>?_;exact go j1 h1 λ dy y H2 e2 s2 r2 j2 h2=>hr ρ O σ H2 Q x y dx dy j2 (r1.same s2) r2 h2
theorem aM {op:Operator} (ho:jt X (binaryOp op) k) (ha:DE X a f) (hb:DE X b g):DE X (.BinOp a op b pos) (bin f g k):=by
 obtain⟨r,ho,hr⟩:=ho;exact PE.imp (pe_op ho ha hb) λ σ H Q h=>Es hr h
theorem zc {op:CmpOp} (ho:jt X (compareOp op) k) (ha:DE X a f) (hb:DE X b g) (hm:behindInMarks op b=false:=by exact nomark _):DE X (.Compare a [op] [b] pos) (bin f g k):=by
 obtain⟨r,ho,hr⟩:=ho;exact PE.imp (pe_cmpR ho ha hb hm) λ σ H Q h=>Es hr h
def asB:D->R Bool
 | .bl b=> .ok b
 |_=> .bad
def bU (f:ao->R D):ao->R Bool:=λ ρ=>(f ρ).bind asB
theorem Dr {t:TE} {k:ao->R D} {Q:Bool->Hp->Prop} (w:∀Q,tG X (rD X) k σ H Q->t σ H Q) (h:tG X rB (bU k) σ H Q):tTest t σ H Q:=by
 refine w _ ?_;obtain⟨ρ,O,j,h⟩:=h;refine go j h λ d x H1 e1 s1 r1 j1 h1=>?_;cases d with
 |bl b=>exact⟨b,r1.bl,fin h1 rfl⟩
 |_=>exact h1.elim
theorem cQ {op:CmpOp} (ho:jt X (compareOp op) k) (ha:DE X a f) (hb:DE X b g) (hm:behindInMarks op b=false:=by exact nomark _):DT X (.Compare a [op] [b] pos) (bU (bin f g k)):=by
 obtain⟨r,ho,hr⟩:=ho;exact PT.imp (pt_cmpR ho ha hb hm) λ σ H Q h=>Dr (λ Q h=>Es hr h) h
theorem jO {e:Expr} (h:DE X e f) (he:∀whole,isTrue e X.env whole=(do let v <-whole;standAt e.pos;holding [v] (truthy v)):=by intro _;rfl):DT X e (bU f):=
 PT.imp (pt_val h he) λ σ H Q h=>Dr (t:=tG X (rD X) f) (λ Q h=>h) h
def iD (k:Int->Int->R D):D->D->R D
 | .int i,.int j=>k i j
 |_,_=> .bad
theorem Bl {o:Value->Value->Sem Value} {C:Int->Int->Prop} {g:Int->Int->V} {k:Int->Int->R D} (ho:OpR X o (rI C g)) (hk:∀i j,k i j= .bad\/∃d,k i j= .ok d/\C i j/\∀K O H,Rep K O H d (g i j)):jt X o (iD k):=by
 refine⟨_,ho,λ ρ O σ H Q x y dx dy j0 rx ry h=>?_⟩;cases dx <;> cases dy <;> first
  |exact h.elim
  |skip
 rename_i i j;rcases hk i j with e |⟨d,e,c,r⟩
 ·have h':good X (rD X) O (k i j) σ H Q:=h;rw[e] at h';exact h'.elim
 ·have h':good X (rD X) O (k i j) σ H Q:=h;rw[e] at h';exact⟨i,j,rx.int,ry.int,c,fin h' (r _ _ _)⟩
theorem tK {o:Value->Value->Sem Value} {g:Int->Int->V} {k:Int->Int->R D} (ho:OpR X o (rI0 g)) (hk:∀i j,∃d,k i j= .ok d/\∀K O H,Rep K O H d (g i j)):jt X o (iD k):=by
 refine⟨_,ho,λ ρ O σ H Q x y dx dy j0 rx ry h=>?_⟩;cases dx <;> cases dy <;> first
  |exact h.elim
  |skip
 rename_i i j;obtain⟨d,e,r⟩:=hk i j;have h':good X (rD X) O (k i j) σ H Q:=h;rw[e] at h';exact⟨i,j,rx.int,ry.int,fin h' (r _ _ _)⟩
def fV:D->D->R D:=iD λ i j=> .ok (.int (i - j))
def iC:D->D->R D:=iD λ i j=>if (-(2 ^ 64) < i/\i < 2 ^ 64)\/(-(2 ^ 64) < j/\j < 2 ^ 64) then .ok (.int (i*j)) else .bad
def d9:D->D->R D:=iD λ i j=>if 0 < j/\j < 2 ^ 64 then .ok (.int (i / j)) else .bad
def fW:D->D->R D:=iD λ i j=>if 0 < j then .ok (.int (i % j)) else .bad
def vg:D->D->R D:=iD λ i j=>if 0<=j/\j<=1000000/\i.natAbs < 2 ^ 64 then .ok (.int (i ^ j.toNat)) else .bad
def ltI:D->D->R D:=iD λ i j=> .ok (.bl (decide (i < j)))
def v9:D->D->R D:=iD λ i j=> .ok (.bl (decide (i<=j)))
def rM:D->D->R D:=iD λ i j=> .ok (.bl (decide (j < i)))
def Wh:D->D->R D:=iD λ i j=> .ok (.bl (decide (j<=i)))
theorem fM:jt X (binaryOp .Sub) fV:=tK op_sub λ i j=>⟨_,rfl,λ _ _ _=>cB _⟩
theorem xG:jt X (compareOp .Lt) ltI:=tK op_lt λ i j=>⟨_,rfl,λ _ _ _=>gM _⟩
theorem qm:jt X (compareOp .LtE) v9:=tK op_le λ i j=>⟨_,rfl,λ _ _ _=>gM _⟩
theorem Et:jt X (compareOp .Gt) rM:=tK op_gt λ i j=>⟨_,rfl,λ _ _ _=>gM _⟩
theorem afw:jt X (compareOp .GtE) Wh:=tK op_ge λ i j=>⟨_,rfl,λ _ _ _=>gM _⟩
theorem Bm {c:Prop} [Decidable c] (d:D) {P:D->Prop} (hP:c->P d):(if c then R.ok d else R.bad)=R.bad\/∃d',(if c then R.ok d else R.bad)=R.ok d'/\c/\P d':=by
 by_cases h:c
 ·exact .inr ⟨d,by rw[if_pos h],h,hP h⟩
 ·exact .inl (by rw[if_neg h])
theorem qD:jt X (binaryOp .Mult) iC:=Bl op_mul λ i j=>Bm (.int (i*j)) (P:=λ d=>∀K O H,Rep K O H d (.int (i*j))) λ _ _ _ _=>cB _
theorem Wi {j:Int} (h0:0 < j) (h:j < 2 ^ 64):j.natAbs.log2 < 9000:=by
 have h1:j.natAbs≠0:=by omega
 have h2:j.natAbs < 2 ^ 64:=by omega
 have h3:j.natAbs.log2 < 64:=(Nat.log2_lt h1).mpr h2;omega
theorem Ze:OpR X (binaryOp .FloorDiv) (rI (λ _ j=>0 < j/\j < 2 ^ 64) λ i j=> .int (i / j)):=opI λ i j _ _ _ _ _ hc q=>by
 refine floordiv_int (by have:=hc.1;omega) ?_ (.inl (PyProof.noPylong_of_log2 (Wi hc.1 hc.2)));rw[Int.fdiv_eq_ediv_of_nonneg _ (by have:=hc.1;omega)];exact q
theorem kj:jt X (binaryOp .FloorDiv) d9:=Bl Ze λ i j=>Bm (.int (i / j)) (P:=λ d=>∀K O H,Rep K O H d (.int (i / j))) λ _ _ _ _=>cB _
theorem ou:jt X (binaryOp .Mod) fW:=Bl op_mod λ i j=>Bm (.int (i % j)) (P:=λ d=>∀K O H,Rep K O H d (.int (i % j))) λ _ _ _ _=>cB _
theorem Wj:jt X (binaryOp .Pow) vg:=Bl op_pow λ i j=>Bm (.int (i ^ j.toNat)) (P:=λ d=>∀K O H,Rep K O H d (.int (i ^ j.toNat))) λ _ _ _ _=>cB _
def Ci (f g h:ao->R D) (k l:D->D->R D):ao->R D:=λ ρ=>(f ρ).bind λ x=>(g ρ).bind λ y=>(k x y).bind λ z=>match z with
 | .bl true=>(h ρ).bind λ w=>l y w
 | .bl false=> .ok (.bl false)
 |_=> .bad
def tM (f g:ao->R D):ao->R D:=λ ρ=>(f ρ).bind λ x=>match x with
 | .bl true=>g ρ
 | .bl false=> .ok (.bl false)
 |_=> .bad
def HY (f:ao->R D):ao->R D:=λ ρ=>(f ρ).bind λ x=>match x with
 | .bl b=> .ok (.bl (!b))
 |_=> .bad
variable {rest:List Expr}
theorem tO {op} (h:DE X a f):DE X (.BoolOp op [a] pos) f:=pe_one h
theorem qF (ha:DE X a f) (hb:DE X (.BoolOp .And (b::rest) pos) g):DE X (.BoolOp .And (a::b::rest) pos) (tM f g):=by
 refine PE.imp (pe_and ha hb) λ σ H Q h=>?_;obtain⟨ρ,O,j,h⟩:=h;refine go j h λ d x H1 e1 s1 r1 j1 h1=>?_;cases d with
 | bl k=>
  cases k with
  |true=>exact⟨true,r1.bl,by rw[if_pos rfl];exact⟨ρ,O,j1,h1⟩⟩
  |false=>exact⟨false,r1.bl,by rw[if_neg Bool.false_ne_true];exact fin h1 (gM _)⟩
 |_=>exact h1.elim
theorem Wk (ha:DE X a f):DE X (.UnaryOp .Not a pos) (HY f):=by
 refine PE.imp (pe_not ha) λ σ H Q h=>?_;obtain⟨ρ,O,j,h⟩:=h;refine go j h λ d x H1 e1 s1 r1 j1 h1=>?_;cases d with
 |bl k=>exact⟨k,r1.bl,fin h1 (gM _)⟩
 |_=>exact h1.elim
def ni (f g:ao->R Bool):ao->R Bool:=λ ρ=>(f ρ).bind λ x=>if x=true then g ρ else .ok false
def JH (f g:ao->R Bool):ao->R Bool:=λ ρ=>(f ρ).bind λ x=>if x=true then .ok true else g ρ
def kI (f:ao->R Bool):ao->R Bool:=λ ρ=>(f ρ).bind λ x=> .ok (!x)
variable {p q:ao->R Bool}
theorem Ia (ha:DT X a p):DW X (.BoolOp .And [a] pos) p:=pw_and1 ha
theorem zf (ha:DT X a p):DW X (.BoolOp .Or [a] pos) p:=pw_or1 ha
theorem Lp (ha:DT X a p) (hb:DW X (.BoolOp .And (b::rest) pos) q):DW X (.BoolOp .And (a::b::rest) pos) (ni p q):=by
 refine PW.imp (pw_and ha hb) λ σ H Q h=>?_;obtain⟨ρ,O,j,h⟩:=h;refine go j h λ d x H1 e1 s1 r1 j1 h1=>?_;subst r1;cases d with
 |true=>rw[if_pos rfl] at h1 |-;exact⟨ρ,O,j1,h1⟩
 |false=>rw[if_neg Bool.false_ne_true] at h1 |-;exact fin h1 rfl
theorem Eu (ha:DT X a p) (hb:DW X (.BoolOp .Or (b::rest) pos) q):DW X (.BoolOp .Or (a::b::rest) pos) (JH p q):=by
 refine PW.imp (pw_or ha hb) λ σ H Q h=>?_;obtain⟨ρ,O,j,h⟩:=h;refine go j h λ d x H1 e1 s1 r1 j1 h1=>?_;subst r1;cases d with
 |true=>rw[if_pos rfl] at h1 |-;exact fin h1 rfl
 |false=>rw[if_neg Bool.false_ne_true] at h1 |-;exact⟨ρ,O,j1,h1⟩
theorem DW.dt {e:Expr} (h:DW X e p):DT X e p:=h _
theorem ju (ha:DT X a p):DT X (.UnaryOp .Not a pos) (kI p):=by
 refine PT.imp (pt_not ha) λ σ H Q h=>?_;obtain⟨ρ,O,j,h⟩:=h;refine go j h λ d x H1 e1 s1 r1 j1 h1=>?_;subst r1;exact fin h1 rfl
def JK (c:ao->R Bool) (f g:ao->R D):ao->R D:=λ ρ=>(c ρ).bind λ x=>if x=true then f ρ else g ρ
theorem aaS (hc:DT X c p) (ha:DE X a f) (hb:DE X b g):DE X (.IfExp c a b pos) (JK p f g):=by
 refine PE.imp (pe_ifExp hc ha hb) λ σ H Q h=>?_;obtain⟨ρ,O,j,h⟩:=h;refine go j h λ d x H1 e1 s1 r1 j1 h1=>?_;subst r1;cases d with
 |true=>rw[if_pos rfl] at h1 |-;exact⟨ρ,O,j1,h1⟩
 |false=>rw[if_neg Bool.false_ne_true] at h1 |-;exact⟨ρ,O,j1,h1⟩
def ak (f:ao->R D) (g:ao->R (List D)):ao->R (List D):=λ ρ=>(f ρ).bind λ x=>(g ρ).bind λ xs=> .ok (x::xs)
variable {es:List Expr} {fa:ao->R (List D)}
theorem aq:DA X [] (λ _=> .ok []):=PA.imp pa_nil λ σ H Q h=>by
 obtain⟨ρ,O,j,h⟩:=h;exact fin h .nil
theorem aj (ha:DE X a f) (hr:DA X es fa) (hs:starEach (a::es) X.env=(false,eval a X.env)::starEach es X.env:=by rfl):DA X (a::es) (ak f fa):=by
 refine PA.imp (pa_cons ha hr hs) λ σ H Q h=>?_;obtain⟨ρ,O,j,h⟩:=h;refine go j h λ d x H1 e1 s1 r1 j1 h1=>?_;exact go j1 h1 λ ds xs H2 e2 s2 r2 j2 h2=>fin h2 (.cons (r1.same s2) r2)
def cap (k:List D->D) (ds:List D):R D:=if ds.length<=1000000 then .ok (k ds) else .bad
theorem dO:1000000<=sizeLine:=by rw[sizeLine_eq];decide
def eE (fa:ao->R (List D)):ao->R D:=λ ρ=>(fa ρ).bind (cap .tup)
def nj (fa:ao->R (List D)):ao->R D:=λ ρ=>(fa ρ).bind (cap .lst)
theorem dg {x1} (h:DA X es fa):DE X (.Tuple es x1 pos) (eE fa):=by
 refine PE.imp (pe_tup h) λ σ H Q h=>?_;obtain⟨ρ,O,j,h⟩:=h;refine go j h λ ds xs H1 e1 s1 r1 j1 h1=>?_;unfold cap at h1;split at h1
 ·rename_i hl;exact⟨by rw[<-r1.length];exact z0b hl dO,λ p hp=>h1 _ _ (Same.upd hp) (Rep.pF hp r1)⟩
 ·exact h1.elim
theorem kJ (h:DA X es fa):DE X (.List es pos) (nj fa):=by
 refine PE.imp (pe_lst h) λ σ H Q h=>?_;obtain⟨ρ,O,j,h⟩:=h;refine go j h λ ds xs H1 e1 s1 r1 j1 h1=>?_;unfold cap at h1;split at h1
 ·rename_i hl;exact⟨by rw[<-r1.length];exact z0b hl dO,λ p hp=>h1 _ _ (Same.upd hp) (Rep.nD hp (j1.qR hp) r1)⟩
 ·exact h1.elim
def bF:D->D->R D
 | .tup ds,.int i=>match atI ds i with |some d=> .ok d |none=> .bad
 | .lst ds,.int i=>match atI ds i with |some d=> .ok d |none=> .bad
 |_,_=> .bad
theorem aN.atI {K:PySem.W.Frag} {O:Addr->Prop} {H:Hp} {ds:List D} {vs:List V} {i:Int} {d:D} (r:aN K O H ds vs) (e:atI ds i=some d):∃v,atI vs i=some v/\Rep K O H d v:=by
 unfold L2.atI at e |-;rw[r.length] at e;cases q:ixN vs.length i with
 |none=>rw[q] at e;cases e
 | some k=>
  rw[q] at e;obtain⟨v,h1,h2⟩:=r.get (i:=k) (d:=d) e;exact⟨v,h1,h2⟩
theorem bK (ha:DE X a f) (hb:DE X b g) (hs:PlainIx b:=by exact λ _ _=>rfl):DE X (.Subscript a b pos) (bin f g bF):=by
 refine PE.imp (pe_ix ix_seq ha hb hs) λ σ H Q h=>Es (λ ρ O σ H Q x y dx dy j0 rx ry h=>?_) h;cases dx <;> cases dy <;> first
  |exact h.elim
  |skip
 ·rename_i ds i;obtain⟨p,xs,rfl,hq,r⟩:=rx.tup;have h':good X (rD X) O (match L2.atI ds i with |some d=>R.ok d |none=>R.bad) σ H Q:=h;cases e:L2.atI ds i with
  |none=>rw[e] at h';exact h'.elim
  | some d=>
   rw[e] at h';obtain⟨v,e1,rv⟩:=r.atI e;exact .inr (.inl ⟨p,xs,i,v,rfl,ry.int,hq,e1,fin h' rv⟩)
 ·rename_i ds i;obtain⟨p,xs,rfl,hq,_,r⟩:=rx.lst;have h':good X (rD X) O (match L2.atI ds i with |some d=>R.ok d |none=>R.bad) σ H Q:=h;cases e:L2.atI ds i with
  |none=>rw[e] at h';exact h'.elim
  | some d=>
   rw[e] at h';obtain⟨v,e1,rv⟩:=r.atI e;exact .inl ⟨p,xs,i,v,rfl,ry.int,hq,e1,fin h' rv⟩
def CallD (X:Cx) (u:Value) (k:List D->R D):Prop:=∃r:List V->Hp->VK->Prop,CallR X u r/\
 ∀(ρ:ao) (O:Addr->Prop) (σ:St) (H:Hp) (Q:VK) (xs:List V) (ds:List D),In X O H ρ σ->aN X.K O H ds xs->good X (rD X) O (k ds) σ H Q->r xs H Q
def aB (k:List D->R D) (fa:ao->R (List D)):ao->R D:=λ ρ=>(fa ρ).bind k
variable {x:Str} {pp:Pos} {k:List D->R D} {id T:String}
theorem aP (hc:CallD X (.builtin id) k) (hg:Gl X x) (hm:X.mg x=none) (hv:bootBuiltins x=some (.builtin id)) (ha:DA X (a::es) fa) (hn:x≠"__name__" :=by decide) (hdb:(x ==("__debug__" :Str))=false:=by decide)
  (he:starEach (a::es) X.env=(false,eval a X.env)::starEach es X.env:=by rfl) (hpl:(backTo pos (starEach es X.env)).any (·.1)=false:=by rfl):DE X (.Call (.Name x pp) (a::es) [] pos) (aB k fa):=by
 obtain⟨r,hc,hr⟩:=hc;refine PE.imp (pe_callB hc hg hm hv ha hn hdb he hpl) λ σ H Q h=>?_;obtain⟨ρ,O,j,h⟩:=h;exact go j h λ ds xs H1 e1 s1 r1 j1 h1=>hr ρ O σ H1 Q xs ds j1 r1 h1
theorem jg (hc:CallD X (.type T) k) (hg:Gl X x) (hm:X.mg x=none) (hv:bootBuiltins x=some (.type T)) (ha:DA X (a::es) fa) (hn:x≠"__name__" :=by decide) (hdb:(x ==("__debug__" :Str))=false:=by decide)
  (he:starEach (a::es) X.env=(false,eval a X.env)::starEach es X.env:=by rfl) (hpl:(backTo pos (starEach es X.env)).any (·.1)=false:=by rfl):DE X (.Call (.Name x pp) (a::es) [] pos) (aB k fa):=by
 obtain⟨r,hc,hr⟩:=hc;refine PE.imp (pe_callTy hc hg hm hv ha hn hdb he hpl) λ σ H Q h=>?_;obtain⟨ρ,O,j,h⟩:=h;exact go j h λ ds xs H1 e1 s1 r1 j1 h1=>hr ρ O σ H1 Q xs ds j1 r1 h1
end
section
variable {X:Cx} {a b c:Expr} {f g h:ao->R D} {pos:Pos}
theorem JL {r r':R2} {Q:VK}
  (hr:∀(ρ:ao) (O:Addr->Prop) (σ:St) (H:Hp) (Q:VK) (x y:V) (dx dy:D),In X O H ρ σ->Rep X.K O H dx x->Rep X.K O H dy y->good X (rD X) O (k dx dy) σ H Q->r x y H Q)
  (hl:∀(ρ:ao) (O:Addr->Prop) (σ:St) (H:Hp) (Q:VK) (x y:V) (dx dy:D),In X O H ρ σ->Rep X.K O H dx x->Rep X.K O H dy y->good X (rD X) O (l dx dy) σ H Q->r' x y H Q)
  (q:tG X (rD X) (Ci f g h k l) σ H Q):tChain r r' (tG X (rD X) f) (tG X (rD X) g) (tG X (rD X) h) σ H Q:=by
 obtain⟨ρ,O,j,q⟩:=q;refine go j q λ dx x H1 e1 s1 r1 j1 h1=>?_;refine go j1 h1 λ dy y H2 e2 s2 r2 j2 h2=>?_;have r1':=r1.same s2;cases e3:k dx dy with
 |bad=>rw[e3] at h2;exact h2.elim
 |err n=>rw[e3] at h2;exact hr ρ O σ H2 _ x y dx dy j2 r1' r2 (by rw[e3];exact h2)
 | ok z=>
  rw[e3] at h2;refine hr ρ O σ H2 _ x y dx dy j2 r1' r2 ?_;rw[e3];intro v H3 s3 r3;have j3:=j2.same s3;cases z with
  | bl t=>
   refine⟨t,r3.bl,?_⟩;cases t with
   | true=>
    rw[if_pos rfl];exact go j3 (good.same h2 s3) λ dw w H4 e4 s4 r4 j4 h4=>hl ρ O σ H4 Q y w dy dw j4 (r2.same (s3.trans s4)) r4 h4
   | false=>
    rw[if_neg Bool.false_ne_true];exact fin (good.same h2 s3) (gM _)
  |_=>exact h2.elim
theorem xH {op op':CmpOp} (ho:jt X (compareOp op) k) (ho':jt X (compareOp op') l) (ha:DE X a f) (hb:DE X b g) (hc:DE X c h)
  (hm:lastMarks [op,op'] [b,c]=false:=by with_unfolding_all rfl):DE X (.Compare a [op,op'] [b,c] pos) (Ci f g h k l):=by
 obtain⟨r,ho,hr⟩:=ho;obtain⟨r',ho',hr'⟩:=ho';exact PE.imp (pe_chain ho ho' ha hb hc hm) λ σ H Q q=>JL hr hr' q
theorem Zf {op op':CmpOp} (ho:jt X (compareOp op) k) (ho':jt X (compareOp op') l) (ha:DE X a f) (hb:DE X b g) (hc:DE X c h)
  (hm:lastMarks [op,op'] [b,c]=false:=by with_unfolding_all rfl):DT X (.Compare a [op,op'] [b,c] pos) (bU (Ci f g h k l)):=by
 obtain⟨r,ho,hr⟩:=ho;obtain⟨r',ho',hr'⟩:=ho';exact PT.imp (pt_chain ho ho' ha hb hc hm) λ σ H Q q=>Dr (λ Q q=>JL hr hr' q) q
end
def YAt (K:PySem.W.Frag) (O:Addr->Prop) (J:It) (xs:List D) (H:Hp):Prop:=
 ∀i:Nat,(∀d,xs[i]?=some d->J.go i H/\∀x H',J.yld i H x H'->Same H H'/\Rep K O H' d x)/\(xs.length<=i->J.stop i H)
def YR (K:PySem.W.Frag) (O:Addr->Prop) (H:Hp) (J:It) (xs:List D):Prop:=∀O' H',eF K O H O' H'->YAt K O' J xs H'
abbrev rIt (X:Cx):(Addr->Prop)->Hp->List D->It->Prop:=λ O H xs J=>YR X.K O H J xs
def DI (X:Cx) (tg iter:Expr) (fi:ao->R (List D)):Prop:=PI X tg iter (tG X (rIt X) fi)
theorem PI.imp {tg e:Expr} {t t':TI} (h:PI X tg e t) (w:∀σ H Q,t' σ H Q->t σ H Q):PI X tg e t':=λ pins s σ H Q I q=>h pins s σ H Q I (w σ H Q q)
section
variable {X:Cx} {tg:Expr}
def agr (K:PySem.W.Frag) (tl:TE):TI:=λ σ H R=>tl σ H λ x H1=>∃a,x= .ref a/\(((∃xs,SqL K H1 a xs)/\R (Itl K a) H1)\/((∃xs,SqT K H1 a xs)/\R (Itt K a) H1))
theorem adk {l:Expr} {tl:TE} (hl:PE X l tl):PI X tg l (agr X.K tl):=by
 intro pins s σ H R I h;refine thn (hl pins s σ H _ I h) λ v s1 bH=>?_;obtain⟨x,H1,I1,r1,q1⟩:=bH;obtain⟨a,e,q⟩:=q1;subst e;cases r1;have fp:∀b∈[s1.heap.objs.size],FpOk X pins H1 b:=λ b hb=>by
  have e:b=s1.heap.objs.size:=by simpa using hb
  subst e;exact I1.fpOk (z0g _) (I1.hok.fresh (z0g _))
 rcases q with⟨⟨xs,hq⟩,q⟩ |⟨⟨xs,hq⟩,q⟩
 ·obtain⟨its,rv,p,hz⟩:=I1.list hq;refine wpAny_pyIter_list p.isList ?_;exact⟨s1.heap.objs.size,[s1.heap.objs.size],_,_,H1,rfl,I1.kept (t':=s1.toks) λ b o e=>z1a _ e,turn_list a _,⟨_,z1f _ rfl,rfl,rfl⟩,fp,q⟩
 ·obtain⟨its,rv,p,hz⟩:=I1.tuple hq;refine wpAny_pyIter_tuple (show s1.heap.IsTuple a its.toArray from p) ?_;exact⟨s1.heap.objs.size,[s1.heap.objs.size],_,_,H1,rfl,I1.kept (t':=s1.toks) λ b o e=>z1a _ e,turn_tuple a _,⟨_,z1f _ rfl,rfl,rfl⟩,fp,q⟩
def jP:D->R (List D)
 | .tup ds=> .ok ds
 | .lst ds=> .ok ds
 |_=> .bad
theorem YR.lst {a:Addr} (h:SqL K H a xs) (n:¬O a) (r:aN K O H ds xs):YR K O H (Itl K a) ds:=by
 intro O' H' q;have h':SqL K H' a xs:=SqL.ext q.ext n h;have r':=r.go q;intro i;refine⟨λ d e=>?_,λ e=>⟨xs,h',by rw[<-r.length];exact e⟩⟩;obtain⟨v,e1,rv⟩:=r'.get e;refine⟨⟨xs,v,h',e1⟩,λ x H2 y=>?_⟩;obtain⟨eH,y⟩:=y;subst eH;have:=y xs h';rw[e1] at this;cases this;exact⟨Same.refl _,rv⟩
theorem YR.tup {a:Addr} (h:SqT K H a xs) (r:aN K O H ds xs):YR K O H (Itt K a) ds:=by
 intro O' H' q;have h':SqT K H' a xs:=SqT.ext q.ext h;have r':=r.go q;intro i;refine⟨λ d e=>?_,λ e=>⟨xs,h',by rw[<-r.length];exact e⟩⟩;obtain⟨v,e1,rv⟩:=r'.get e;refine⟨⟨xs,v,h',e1⟩,λ x H2 y=>?_⟩;obtain⟨eH,y⟩:=y;subst eH;have:=y xs h';rw[e1] at this;cases this;exact⟨Same.refl _,rv⟩
def cU (f:ao->R D):ao->R (List D):=λ ρ=>(f ρ).bind jP
theorem cT {l:Expr} {f:ao->R D} (h:DE X l f):DI X tg l (cU f):=by
 refine PI.imp (adk h) λ σ H Q q=>?_;obtain⟨ρ,O,j,q⟩:=q;refine go j q λ d x H1 e1 s1 r1 j1 h1=>?_;cases d with
 | tup ds=>
  obtain⟨a,xs,rfl,hq,r⟩:=r1.tup;exact⟨a,rfl,.inr ⟨⟨xs,hq⟩,fin h1 (YR.tup hq r)⟩⟩
 | lst ds=>
  obtain⟨a,xs,rfl,hq,n,r⟩:=r1.lst;exact⟨a,rfl,.inl ⟨⟨xs,hq⟩,fin h1 (YR.lst hq n r)⟩⟩
 |_=>exact h1.elim
def upto (lo:Int) (n:Nat):List D:=(List.range n).map λ (i:Nat)=>D.int (lo+(i:Int))
theorem YR.rng (lo:Int) (n:Nat):YR K O H (Itr lo n) (upto lo n):=by
 intro O' H' q i;have hl:(upto lo n).length=n:=by simp[upto]
 refine⟨λ d e=>?_,λ e=>by rw[hl] at e;exact e⟩;have hi:i < n:=by rw[<-hl];exact (z1b e).1
 have e2:d=D.int (lo+(i:Int)):=by
  simp only[upto,z2b,List.getElem?_range hi] at e;exact (Option.some.inj e).symm
 subst e2;refine⟨hi,λ x H2 y=>?_⟩;obtain⟨eH,y⟩:=y;subst eH;subst y;exact⟨Same.refl _,cB _⟩
def iG:List D->R (List D)
 |[.int j]=>if -(2 ^ 62)<=j/\j < 2 ^ 62 then .ok (upto 0 j.toNat) else .bad
 |_=> .bad
def vh:List D->R (List D)
 |[.int i,.int j]=>if -(2 ^ 62)<=i/\i < 2 ^ 62/\-(2 ^ 62)<=j/\j < 2 ^ 62 then .ok (upto i (j - i).toNat) else .bad
 |_=> .bad
theorem aN.one (r:aN K O H [d] xs):∃x,xs=[x]/\Rep K O H d x:=by
 obtain⟨x,t,rfl,h1,h2⟩:=r.cons_inv;rw[h2.nil_inv];exact⟨x,rfl,h1⟩
theorem aN.two {e:D} (r:aN K O H [d,e] xs):∃x y,xs=[x,y]/\Rep K O H d x/\Rep K O H e y:=by
 obtain⟨x,t,rfl,h1,h2⟩:=r.cons_inv;obtain⟨y,rfl,h3⟩:=h2.one;exact⟨x,y,rfl,h1,h3⟩
variable {a b:Expr} {fa:ao->R (List D)} {p pos:Pos}
theorem eZ (hg:Gl X "range") (hm:X.mg "range" =none) (ha:DA X [a] fa) (hs:starEach [a] X.env=[(false,eval a X.env)]:=by rfl):DI X tg (.Call (.Name "range" p) [a] [] pos) (λ ρ=>(fa ρ).bind iG):=by
 refine PI.imp (pi_range1 hg hm ha hs) λ σ H Q q=>?_;obtain⟨ρ,O,j,q⟩:=q;refine go j q λ ds xs H1 e1 s1 r1 j1 h1=>?_;unfold iG at h1;split at h1
 ·obtain⟨x,rfl,rx⟩:=r1.one;split at h1
  ·rename_i i hi;exact⟨i,by rw[rx.int],hi.1,hi.2,fin h1 (YR.rng 0 i.toNat)⟩
  ·exact h1.elim
 ·exact h1.elim
theorem uW (hg:Gl X "range") (hm:X.mg "range" =none) (ha:DA X [a,b] fa) (hs:starEach [a,b] X.env=[(false,eval a X.env),(false,eval b X.env)]:=by rfl) (hs2:starEach [b] X.env=[(false,eval b X.env)]:=by rfl):
  DI X tg (.Call (.Name "range" p) [a,b] [] pos) (λ ρ=>(fa ρ).bind vh):=by
 refine PI.imp (pi_range2 hg hm ha hs hs2) λ σ H Q q=>?_;obtain⟨ρ,O,j,q⟩:=q;refine go j q λ ds xs H1 e1 s1 r1 j1 h1=>?_;unfold vh at h1;split at h1
 ·obtain⟨x,y,rfl,rx,ry⟩:=r1.two;split at h1
  ·rename_i i k hi;exact⟨i,k,by rw[rx.int,ry.int],hi,fin h1 (YR.rng i (k - i).toNat)⟩
  ·exact h1.elim
 ·exact h1.elim
end
inductive DGp (X:Cx) (gt:D->ao->R ao) (v:V) (σ:St) (H:Hp) (Q:St->Hp->Prop):Prop
 |mk (ρ:ao) (O:Addr->Prop) (d:D) (ρ':ao) (j:In X O H ρ σ) (r:Rep X.K O H d v) (e:gt d ρ= .ok ρ') (q:∀σ',In X O H ρ' σ'->Q σ' H):DGp X gt v σ H Q
def DG (X:Cx) (tg:Expr) (gt:D->ao->R ao):Prop:=PG X tg λ v σ H Q=>DGp X gt v σ H Q
inductive adl (X:Cx) (gt:List D->ao->R ao) (vs:List V) (σ:St) (H:Hp) (Q:St->Hp->Prop):Prop
 |mk (ρ:ao) (O:Addr->Prop) (ds:List D) (ρ':ao) (j:In X O H ρ σ) (r:aN X.K O H ds vs) (e:gt ds ρ= .ok ρ') (q:∀σ',In X O H ρ' σ'->Q σ' H):adl X gt vs σ H Q
def DGs (X:Cx) (ts:List Expr) (gt:List D->ao->R ao):Prop:=PGs X ts λ vs σ H Q=>adl X gt vs σ H Q
section
variable {X:Cx} {pos:Pos}
theorem In.set (j:In X O H ρ σ) (hi:i < X.N.length) {v:V} (r:Rep X.K O H d v):In X O H (ρ.set i (some (.val d))) (σ.set i (some v)):=by
 have h1:i < ρ.length:=by rw[j.m9];exact hi
 have h2:i < σ.length:=by rw[j.len];exact hi
 refine⟨⟨λ k e q=>?_,λ k l e e' u hkl qk ql ok ol sk sl=>?_⟩,j.al,by rw[List.length_set];exact j.len,by rw[List.length_set];exact j.m9⟩
 ·by_cases hk:k=i
  ·subst hk;rw[z2a h1] at q;cases q;exact⟨v,z2a h2,r⟩
  ·rw[z1e (Ne.symm hk)] at q;obtain⟨u,q1,q2⟩:=j.env.get k e q;exact⟨u,by rw[z1e (Ne.symm hk)];exact q1,q2⟩
 ·have hk:k≠i:=λ z=>by subst z;rw[z2a h1] at qk;cases qk;cases ok
  have hl:l≠i:=λ z=>by subst z;rw[z2a h1] at ql;cases ql;cases ol
  rw[z1e (Ne.symm hk)] at qk sk;rw[z1e (Ne.symm hl)] at ql sl;exact j.env.sep k l e e' u hkl qk ql ok ol sk sl
def aF (i:Nat) (d:D) (ρ:ao):R ao:= .ok (ρ.set i (some (.val d)))
theorem bh (i:Nat) {x:Str} (hN:X.N.Nodup) (hi:X.N[i]?=some x:=by rfl) (hx:Loc X.env.scope x:=by first |exact Or.inl rfl |exact Or.inr rfl) (hf:X.fn x=true\/X.env.scope.names.lookup x=some .local:=by first |exact .inl rfl |exact .inr rfl):DG X (.Name x pos) (aF i):=by
 intro pins s σ H v u Q I r h;obtain⟨ρ,O,d,ρ',j,rd,e,q⟩:=h;cases e;exact pg_name hN hi hx hf pins s σ H v u Q I r (q _ (j.set (z1b hi).1 rd))
def nilG:List D->ao->R ao
 |[],ρ=> .ok ρ
 |_,_=> .bad
def aX (t:D->ao->R ao) (u:List D->ao->R ao):List D->ao->R ao
 |d::ds,ρ=>(t d ρ).bind λ ρ'=>u ds ρ'
 |_,_=> .bad
theorem pG:DGs X [] nilG:=by
 intro pins s σ H vs us Q I r h;obtain⟨ρ,O,ds,ρ',j,rd,e,q⟩:=h;cases ds with
 |nil=>cases e;exact pgs_nil pins s σ H vs us Q I r ⟨rd.nil_inv,q _ j⟩
 |cons d ds=>cases e
theorem cY {e:Expr} {es:List Expr} {t:D->ao->R ao} (h1:DG X e t) (h2:DGs X es u)
  (hs:(assignEach (e::es) X.env).map (·.2)=assign e X.env::(assignEach es X.env).map (·.2):=by rfl):DGs X (e::es) (aX t u):=by
 intro pins s σ H vs us Q I r h;obtain⟨ρ,O,ds,ρ',j,rd,e,q⟩:=h;cases ds with
 |nil=>cases e
 | cons d ds=>
  obtain⟨x,xs,rfl,rx,rxs⟩:=rd.cons_inv;have e':(t d ρ).bind (λ ρ'=>u ds ρ')= .ok ρ':=e;cases q1:t d ρ with
  |bad=>rw[q1] at e';cases e'
  |err c=>rw[q1] at e';cases e'
  | ok ρ1=>
   rw[q1] at e';refine pgs_cons h1 h2 hs pins s σ H _ us Q I r ⟨x,xs,rfl,ρ,O,d,ρ1,j,rx,q1,λ σ1 j1=>?_⟩;exact⟨ρ1,O,ds,ρ',j1,rxs,e',q⟩
def cZ (u:List D->ao->R ao):D->ao->R ao
 | .tup ds,ρ=>u ds ρ
 |_,_=> .bad
def c7 (n:Nat) (u:List D->ao->R ao):List D->ao->R ao:=λ ds ρ=>if ds.length=n then u ds ρ else .bad
theorem tQ {es:List Expr} {k:Nat} (hc:X.calm=true) (h:DGs X es u)
  (hn:(assignEach es X.env).length=n:=by rfl) (hst:(assignEach es X.env).findIdx? (·.1)=none:=by rfl):DG X (.Tuple es k pos) (cZ (c7 n u)):=by
 intro pins s σ H v w Q I r q;obtain⟨ρ,O,d,ρ',j,rd,e,q⟩:=q;cases d with
 | tup ds=>
  obtain⟨a,xs,rfl,hq,rs⟩:=rd.tup;have e':(if ds.length=n then u ds ρ else .bad)= .ok ρ':=e;by_cases hl:ds.length=n
  ·rw[if_pos hl] at e';exact pg_tup hc h hn hst pins s σ H _ w Q I r ⟨a,xs,rfl,hq,by rw[<-rs.length];exact hl,ρ,O,ds,ρ',j,rs,e',q⟩
  ·rw[if_neg hl] at e';cases e'
 |_=>cases e
end
def jZ (x:Str):List Str->Nat
 |[]=>0
 |y::r=>if x=y then 0 else jZ x r+1
theorem xJ {x:Str}:∀{N:List Str},x∈N->N[jZ x N]?=some x
 |[],h=>by simp at h
 | y ::r,h=>by
  unfold jZ;by_cases e:x=y
  ·rw[if_pos e,e];rfl
  ·rw[if_neg e];rcases List.mem_cons.mp h with z |z
   ·exact absurd z e
   ·simpa using xJ z
def pull {α:Type} (N caps:List Str) (n:Nat) (l:List (Option α)):List (Option α):=List.replicate n none++caps.map λ x=>(l[jZ x N]?).join
theorem xK (N caps:List Str) (n:Nat) (l:List (Option α)):(pull N caps n l).length=n+caps.length:=by simp[pull]
theorem join_some {o:Option (Option α)} {a:α} (h:o.join=some a):o=some (some a):=by
 cases o with
 |none=>cases h
 |some o=>exact congrArg some h
theorem tR {l:List (Option α)} {a:α} (h:(pull N caps n l)[i]?=some (some a)):∃j x,i=n+j/\caps[j]?=some x/\l[jZ x N]?=some (some a):=by
 unfold pull at h;by_cases hi:i < n
 ·rw[List.getElem?_append_left (by simpa using hi),List.getElem?_replicate,if_pos hi] at h;cases h
 ·rw[List.getElem?_append_right (by simpa using hi),List.length_replicate,z2b] at h;cases e:caps[i - n]? with
  |none=>rw[e] at h;cases h
  | some x=>
   rw[e] at h;exact⟨i - n,x,by omega,e,join_some (Option.some.inj h)⟩
theorem Ib {l:List (Option α)} {j:Nat} {x:Str} (h:caps[j]?=some x):(pull N caps n l)[n+j]?=some (l[jZ x N]?).join:=by
 unfold pull;rw[List.getElem?_append_right (by simp),List.length_replicate,z2b,show n+j - n=j by omega,h];rfl
def dF (sc:Scope):List Str:=(sc.names.filter λ x=>decide (x.2= .free)).map (·.1)
def vm (outer sc:Scope) (ts N:List Str):Bool:=
 decide (sc.kind= .function) && sc.names.all (λ x=>(!decide (x.2= .local)) || decide (sc.names.lookup x.1=some .local)) && sc.names.all (λ x=>(!decide (x.2= .cell)) || decide (sc.names.lookup x.1=some .cell)) &&
  (dF sc).all (λ x=>(decide (outer.names.lookup x=some .cell) || decide (outer.names.lookup x=some .free)) && decide (x∈N) && decide (sc.names.lookup x=some .free)) && decide (ts++dF sc).Nodup
structure Bo (outer sc:Scope) (ts N:List Str):Prop where
 kind:sc.kind= .function
 loc:∀x∈sc.names,x.2= .local->sc.names.lookup x.1=some .local
 cel:∀x∈sc.names,x.2= .cell->sc.names.lookup x.1=some .cell
 out:∀x∈dF sc,outer.names.lookup x=some .cell\/outer.names.lookup x=some .free
 mem:∀x∈dF sc,x∈N
 JM:∀x∈dF sc,sc.names.lookup x=some .free
 nd:(ts++dF sc).Nodup
theorem afx {outer:Scope} (h:vm outer sc ts N=true):Bo outer sc ts N:=by
 unfold vm at h;simp only[Bool.and_eq_true,List.all_eq_true,decide_eq_true_eq,Bool.or_eq_true,Bool.not_eq_true',decide_eq_false_iff_not] at h;obtain⟨⟨⟨⟨h1,h2⟩,h3⟩,h4⟩,h5⟩:=h;exact⟨h1,λ x hx e=>(h2 x hx).resolve_left λ n=>n e,λ x hx e=>(h3 x hx).resolve_left λ n=>n e,λ x hx=>(h4 x hx).1.1,λ x hx=>(h4 x hx).1.2,λ x hx=>(h4 x hx).2,h5⟩
def iI (cs:List (Str×Addr)):List (Str×NameKind)->List (Str×Addr)->List (Str×Addr)
 |[],acc=>acc
 |(n,k)::r,acc=>if k= .free then iI cs r ((n,(cs.lookup n).getD 0)::acc) else iI cs r acc
theorem T3 {env:PySem.Env} (h:∀x∈scope.names,x.2= .free->∃c,env.cells.lookup x.1=some c):closureFor scope env=pure (iI env.cells scope.names []):=by
 unfold closureFor;have all:∀(l:List (Str×NameKind)) (acc:List (Str×Addr)),(∀x∈l,x.2= .free->∃c,env.cells.lookup x.1=some c)->
   (forIn l acc λ x r=>match x with |(name,kind)=>if (kind ==NameKind.free)=true then do let a <-cellOf env name;pure (ForInStep.yield ((name,a)::r)) else pure (ForInStep.yield r):Sem (List (Str×Addr)))=pure (iI env.cells l acc):=by
  intro l
  induction l with
  |nil=>intro acc _;rfl
  | cons x r ih=>
   intro acc hx;obtain⟨n,k⟩:=x;rw[List.forIn_cons];unfold iI;by_cases hk:k= .free
   ·obtain⟨c,hc⟩:=hx (n,k) List.mem_cons_self hk;have hc:env.cells.lookup n=some c:=hc;have e1:cellOf env n=pure c:=by unfold cellOf;rw[hc]
    subst hk;simp only[e1,hc,Option.getD_some,beq_self_eq_true,if_true,pure_bind];exact ih _ λ y hy=>hx y (z2f _ hy)
   ·have e2:(k ==NameKind.free)=false:=by simpa using hk
    simp only[e2,Bool.false_eq_true,if_false,pure_bind,hk];exact ih _ λ y hy=>hx y (z2f _ hy)
 simpa using all scope.names [] h
theorem mC (cs:List (Str×Addr)):∀(l:List (Str×NameKind)) (acc:List (Str×Addr)),iI cs l acc=iI cs l []++acc
 |[],acc=>rfl
 | (n,k)::r,acc=>by
  unfold iI;split
  ·rw[mC cs r (_::acc),mC cs r [_]];simp
  ·exact mC cs r acc
theorem tU (cs:List (Str×Addr)):∀(l:List (Str×NameKind)) {n:Str} {c:Addr},(n,c)∈iI cs l []->(n,NameKind.free)∈l/\c=(cs.lookup n).getD 0
 |[],_,_,h=>by simp[iI] at h
 | (m, k)::r,n,c,h=>by
  unfold iI at h;split at h
  ·rename_i hk;rw[mC] at h;rcases List.mem_append.mp h with h |h
   ·obtain⟨h1,h2⟩:=tU cs r h;exact⟨z2f _ h1,h2⟩
   ·have e:=List.mem_singleton.mp h;cases e;subst hk;exact⟨List.mem_cons_self,rfl⟩
  ·obtain⟨h1,h2⟩:=tU cs r h;exact⟨z2f _ h1,h2⟩
theorem Ds (cs:List (Str×Addr)):∀(l:List (Str×NameKind)) {n:Str},(n,NameKind.free)∈l->((iI cs l []).lookup n).isSome=true
 |[],_,h=>by simp at h
 | (m, k)::r,n,h=>by
  unfold iI;split
  ·rename_i hk;rw[mC,List.lookup_append];rcases List.mem_cons.mp h with e |h
   ·cases e;simp[List.lookup_cons]
   ·simp[Ds cs r h]
  ·rename_i hk;rcases List.mem_cons.mp h with e |h
   ·cases e;exact absurd rfl hk
   ·exact Ds cs r h
theorem dW:∀(l:List (Str×NameKind)) (n:Nat) (acc:List (Str×Addr)),cellsFrom n l acc=cellsFrom n l []++acc
 |[],_,_=>rfl
 | (m,k)::r,n,acc=>by
  unfold cellsFrom;split
  ·rw[dW r _ (_::acc),dW r _ [_]];simp
  ·exact dW r n acc
theorem jQ:∀(l:List (Str×NameKind)) (n:Nat) {x:Str} {c:Addr},(x,c)∈cellsFrom n l []->(x,NameKind.cell)∈l/\n<=c
 |[],_,_,_,h=>by simp[cellsFrom] at h
 | (m, k)::r,n,x,c,h=>by
  unfold cellsFrom at h;split at h
  ·rename_i hk;rw[dW] at h;rcases List.mem_append.mp h with h |h
   ·obtain⟨h1,h2⟩:=jQ r _ h;exact⟨z2f _ h1,by omega⟩
   ·have e:=List.mem_singleton.mp h;cases e;have:k= .cell:=by simpa using hk
    subst this;exact⟨List.mem_cons_self,z0g _⟩
  ·obtain⟨h1,h2⟩:=jQ r _ h;exact⟨z2f _ h1,h2⟩
section
variable {M:Model} {A:Around} {E:Value->Shared->Prop} {s:Shared}
theorem Wm {globals:Addr} {cl:List (Str×Addr)} {qual:Str} {env:PySem.Env} {Q:PySem.Env->Shared->Prop}
  (hQ:Q (newEnv scope s.heap.objs.size globals (cellsFrom (s.heap.objs.size+1) scope.names cl) qual none .none (some env) builtinsNs) {s with heap:=pushCells (s.heap.push {cls:= .type "dict",data:= .dict #[]}) scope.names}):
  wpAny M A (newFunctionEnv scope globals cl [] qual none .none (some env)) Q E s:=by
 simp only[newFunctionEnv,Option.isSome_some,if_true];refine wpAny_bind (wpAny_alloc ?_);refine wpAny_bind (wpAny_layCells _ (λ name kind cells=>by cases hkc:kind ==NameKind.cell <;> simp[hkc]) _ _ _ _ ?_);rw[show ({s with heap:=s.heap.push {cls:= .type "dict",data:= .dict #[]}}:Shared).heap.objs.size=s.heap.objs.size+1 from Heap.size_push ..];exact wpAny_bind (wpAny_pure (wpAny_pure hQ))
end
def gO (scope:Scope) (env:PySem.Env) (C:Addr):PySem.Env:=
 {scope:=relabel scope env,locals:=C,globals:=env.globals,cells:=cellsFrom (C+1) scope.names (iI env.cells scope.names []),qual:=env.qual,func:=none,code:=env.code,frame:=env.frame,builtins:=env.builtins}
def bY (X:Cx) (scope:Scope) (ts:List Str) (C:Addr) (s:Shared) (H:Hp) (ex:List Addr):Cx where
 prog:=X.prog
 w:=X.w
 K:=X.K
 mg:=X.mg
 base:=X.base
 A:=X.A
 N:=ts++dF scope
 s₀:=s
 H₀:=H
 env:=gO scope X.env C
 outer:=X.stack
 stack:=X.stack
 ex:=ex
 fn:=λ x=>decide (scope.names.lookup x=some .cell)
 calm:=X.calm
 pn:=[]
 xe:=λ _ _=>False
theorem pH {scope:Scope} {env:PySem.Env} {x:Str}:∀{names:List (Str×NameKind)},
  (names.map λ (n,k)=>if (k ==NameKind.free && env.scope.kind == .function && env.kindOf n ==some .cell) then (n,NameKind.cell) else (n,k)).lookup x =
   (names.lookup x).map λ k=>if (k ==NameKind.free && env.scope.kind == .function && env.kindOf x ==some .cell) then .cell else k
 |[]=>rfl
 | (n, k)::r=>by
  have ih:= @pH scope env x r;rw[z1h];show List.lookup x ((if (k ==NameKind.free && env.scope.kind == .function && env.kindOf n ==some .cell)=true then (n,NameKind.cell) else (n,k))::_)=_;cases hx:x ==n with
  | true=>
   have e:x=n:=by simpa using hx
   subst e;by_cases hc:(k ==NameKind.free && env.scope.kind == .function && env.kindOf x ==some .cell)=true
   ·rw[if_pos hc];simp only[List.lookup_cons,beq_self_eq_true,Option.map_some,hc,if_true]
   ·rw[if_neg hc];simp only[List.lookup_cons,beq_self_eq_true,Option.map_some,hc,if_false] <;> rfl
  | false=>
   by_cases hc:(k ==NameKind.free && env.scope.kind == .function && env.kindOf n ==some .cell)=true
   ·rw[if_pos hc];simp only[List.lookup_cons,hx];exact ih
   ·rw[if_neg hc];simp only[List.lookup_cons,hx];exact ih
theorem tV {x:Str} (h:(x,NameKind.free)∈sc.names):x∈dF sc:=List.mem_map.mpr ⟨(x,.free),List.mem_filter.mpr ⟨h,by simp⟩,rfl⟩
theorem abn {x:Str} (h:x∈dF sc):(x,NameKind.free)∈sc.names:=by
 obtain⟨⟨n,k⟩,h1,h2⟩:=List.mem_map.mp h;obtain⟨h3,h4⟩:=List.mem_filter.mp h1;have h4:k=NameKind.free:=by simpa using h4
 subst h4;have h2:n=x:=h2;subst h2;exact h3
section
variable {X:Cx} {scope:Scope} {ts:List Str} {C:Addr}
theorem kO (B:Bo X.env.scope scope ts X.N) (has:∀x,(X.env.kindOf x=some .cell\/X.env.kindOf x=some .free)->∃c,X.env.cells.lookup x=some c) {x:Str} {c:Addr} (h:(gO scope X.env C).cells.lookup x=some c):
  (scope.names.lookup x=some .cell/\@LE.le Nat _ (C+1) c)\/(x∈dF scope/\X.env.cells.lookup x=some c):=by
 have h:(cellsFrom (C+1) scope.names (iI X.env.cells scope.names [])).lookup x=some c:=h;rw[dW,List.lookup_append] at h;cases e:(cellsFrom (C+1) scope.names []).lookup x with
 | some c'=>
  rw[e] at h;have e2:c'=c:=by simpa using h
  subst e2;obtain⟨h1,h2⟩:=jQ _ _ (PySem.mem_of_lookup e);exact .inl ⟨B.cel _ h1 rfl,h2⟩
 | none=>
  rw[e] at h;have h:(iI X.env.cells scope.names []).lookup x=some c:=by simpa using h
  obtain⟨h1,h2⟩:=tU _ _ (PySem.mem_of_lookup h);have hx:=tV h1;obtain⟨c',hc'⟩:=has x (B.out x hx);rw[hc'] at h2;have h2:c=c':=h2;subst h2;exact .inr ⟨hx,hc'⟩
theorem Lq (B:Bo X.env.scope scope ts X.N) {x:Str} {c:Addr} (hx:x∈dF scope) (hc:X.env.cells.lookup x=some c) (has:∀x,(X.env.kindOf x=some .cell\/X.env.kindOf x=some .free)->∃c,X.env.cells.lookup x=some c):(gO scope X.env C).cells.lookup x=some c:=by
 have hs:=Ds X.env.cells scope.names (abn hx);obtain⟨c',e⟩:=Option.isSome_iff_exists.mp hs;have hl:∃d,(gO scope X.env C).cells.lookup x=some d:=by
  show ∃d,(cellsFrom (C+1) scope.names (iI X.env.cells scope.names [])).lookup x=some d;rw[dW,List.lookup_append,e];cases (cellsFrom (C+1) scope.names []).lookup x with
  |none=>exact⟨c',rfl⟩
  |some d=>exact⟨d,rfl⟩
 obtain⟨d,hd⟩:=hl;rcases kO B has hd with⟨h1,_⟩ |⟨_,h2⟩
 ·rw[B.JM x hx] at h1;cases h1
 ·rw[hc] at h2;cases h2;exact hd
theorem Zg (B:Bo X.env.scope scope ts X.N) {x:Str} (hx:x∈dF scope):(gO scope X.env C).kindOf x=some .cell\/(gO scope X.env C).kindOf x=some .free:=by
 show (relabel scope X.env).names.lookup x=some .cell\/(relabel scope X.env).names.lookup x=some .free;have e:(relabel scope X.env).names.lookup x=(scope.names.lookup x).map λ k=>if (k ==NameKind.free && X.env.scope.kind == .function && X.env.kindOf x ==some .cell) then .cell else k:=pH (scope:=scope);rw[e,B.JM x hx];simp only[Option.map_some];split
 ·exact .inl rfl
 ·exact .inr rfl
end
def Cj {α:Type}:R α->R α
 | .err _=> .bad
 | .ok a=> .ok a
 | .bad=> .bad
@[simp] theorem zj {α:Type} (a:α):Cj (R.ok a)= .ok a:=rfl
def j5 (k:D->R (Option D)):List D->R (List D)
 |[]=> .ok []
 |x::xs=>(Cj (k x)).bind λ o=>(j5 k xs).bind λ ds=> .ok (o.toList++ds)
def pI (gt:D->ao->R ao) (ft:ao->R Bool) (fe:ao->R D) (ρ:ao) (x:D):R (Option D):=
 (gt x ρ).bind λ ρ1=>(ft ρ1).bind λ b=>if b=true then (fe ρ1).bind λ d=> .ok (some d) else .ok none
def xM:Option Ent->Option Ent
 |some (.val d)=>some (.val d)
 |_=>none
def qu (n:Nat) (caps:List Nat) (ρ:ao):ao:=List.replicate n none++caps.map λ k=>((ρ.map xM)[k]?).join
def bA (n:Nat) (caps:List Nat) (fi:ao->R (List D)) (gt:D->ao->R ao) (ft:ao->R Bool) (fe:ao->R D):ao->R D:=
 λ ρ=>(fi ρ).bind λ xs=>(j5 (pI gt ft fe (qu n caps ρ)) xs).bind (cap .lst)
def kW (n:Nat) (gt:D->ao->R ao):Prop:=∀d ρ ρ',gt d ρ= .ok ρ'->∀i,n<=i->ρ'[i]?=ρ[i]?
def Bp (n:Nat) (gt:List D->ao->R ao):Prop:=∀d ρ ρ',gt d ρ= .ok ρ'->∀i,n<=i->ρ'[i]?=ρ[i]?
theorem aR (h:i < n):kW n (aF i):=λ d ρ ρ' e j hj=>by
 cases e;rw[z1e (by omega)]
theorem kY:Bp n nilG:=λ d ρ ρ' e j hj=>by
 cases d with
 |nil=>cases e;rfl
 |cons _ _=>cases e
theorem cI {t:D->ao->R ao} (h1:kW n t) (h2:Bp n u):Bp n (aX t u):=λ d ρ ρ' e j hj=>by
 cases d with
 |nil=>cases e
 | cons d ds=>
  have e':(t d ρ).bind (λ ρ'=>u ds ρ')= .ok ρ':=e;cases q:t d ρ with
  |ok ρ1=>rw[q] at e';rw[h2 ds ρ1 ρ' e' j hj,h1 d ρ ρ1 q j hj]
  |err c=>rw[q] at e';cases e'
  |bad=>rw[q] at e';cases e'
theorem kZ {m:Nat} (h:Bp n u):kW n (cZ (c7 m u)):=λ d ρ ρ' e j hj=>by
 cases d with
 | tup ds=>
  have e':(if ds.length=m then u ds ρ else .bad)= .ok ρ':=e;by_cases hl:ds.length=m
  ·rw[if_pos hl] at e';exact h ds ρ ρ' e' j hj
  ·rw[if_neg hl] at e';cases e'
 |_=>cases e
def Ck (Y:Cx) (ifs:List Expr) (ft:ao->R Bool):Prop:=∀(pins:List (Addr×Obj)) (s:Shared) (σ:St) (H:Hp) (Q:Bool->Hp->Prop),Inv Y pins σ H s->tG Y rB ft σ H Q->
 wpAny (model Y.prog Y.w) Y.A (forIn ifs true λ c r=>if r=true then do let ok <-isTrue c Y.env (eval c Y.env);pure (ForInStep.yield ok) else pure (ForInStep.yield r)) (TP Y pins σ Q) Y.xe s
theorem bM:Ck Y [] (λ _=> .ok true):=λ pins s σ H Q I h=>by
 obtain⟨ρ,O,j,h⟩:=h;exact wpAny_tests_nil ⟨H,I,fin h rfl⟩
theorem abo {c:Expr} {p:ao->R Bool} (hc:DT Y c p):Ck Y [c] p:=λ pins s σ H Q I h=>wpAny_tests_one (hc pins s σ H Q I h)
theorem Wn {k:D->R (Option D)} {x:D} {xs:List D} {all:List D} (h:j5 k (x::xs)= .ok all):∃o rest,k x= .ok o/\j5 k xs= .ok rest/\all=o.toList++rest:=by
 have h:(Cj (k x)).bind (λ o=>(j5 k xs).bind λ ds=> .ok (o.toList++ds))= .ok all:=h;cases e:k x with
 |bad=>rw[e] at h;cases h
 |err c=>rw[e] at h;cases h
 | ok o=>
  rw[e] at h;cases e2:j5 k xs with
  |bad=>rw[e2] at h;cases h
  |err c=>rw[e2] at h;cases h
  | ok rest=>
   rw[e2] at h;cases h;exact⟨o,rest,rfl,rfl,rfl⟩
theorem Ew {k:D->R (Option D)}:∀{xs:List D} {c:Str},j5 k xs≠.err c
 |[],c=>λ h=>by cases h
 | x ::xs,c=>λ h=>by
  have h:(Cj (k x)).bind (λ o=>(j5 k xs).bind λ ds=> .ok (o.toList++ds))= .err c:=h;cases e:k x with
  |bad=>rw[e] at h;cases h
  |err c=>rw[e] at h;cases h
  | ok o=>
   rw[e] at h;cases e2:j5 k xs with
   |bad=>rw[e2] at h;cases h
   |err c'=>exact Ew e2
   |ok rest=>rw[e2] at h;cases h
section
variable {X:Cx}
theorem T4 {o:Option Ent} {e:Ent} (h:xM o=some e):o=some e/\e.Rv=true:=by
 cases o with
 |none=>cases h
 | some e'=>
  cases e' with
  |val d=>cases h;exact⟨rfl,rfl⟩
  |lst _=>cases h
  |za _=>cases h
  |obj _=>cases h
theorem xO {e:Ent} (h:(ρ.map xM)[i]?=some (some e)):ρ[i]?=some (some e)/\e.Rv=true:=by
 rw[z2b] at h;cases q:ρ[i]? with
 |none=>rw[q] at h;cases h
 | some o=>
  rw[q] at h;obtain⟨h1,h2⟩:=T4 (Option.some.inj h);rw[h1];exact⟨rfl,h2⟩
theorem In.vals (j:In X O H ρ σ):In X O H (ρ.map xM) σ:=
 ⟨⟨λ i e h=>j.env.get i e (xO h).1,λ i k e e' v hik hi hk=>j.env.sep i k e e' v hik (xO hi).1 (xO hk).1⟩,j.al,j.len,by rw[z1g];exact j.m9⟩
theorem T5 {ks:List Nat} (h:caps.map (λ x=>jZ x N)=ks):pull N caps n (ρ.map xM)=qu n ks ρ:=by
 unfold pull qu;rw[<-h,List.map_map];rfl
theorem abp {pins:List (Addr×Obj)} {s:Shared} {fp:List Addr} (I:Inv X pins σ H s) (B:Bo X.env.scope scope ts X.N)
  (hf:∀b∈fp,FpOk X pins H b) (ho:∀b∈fp,b < s.heap.objs.size) {h4:Heap} {C:Nat} (hC:C=s.heap.objs.size+1)
  (e4:h4=pushCells ((s.heap.push {cls:= .type "list",dict:=none,data:= .seq ([]:List Value).toArray}).push {cls:= .type "dict",data:= .dict #[]}) scope.names):
  Inv (bY X scope ts C s H fp) [] (pull X.N (dF scope) ts.length σ) (upd H s.heap.objs.size (.lst [])) {s with heap:=h4}:=by
 have hD:H s.heap.objs.size=none:=I.hok.fresh (z0g _);have aaT:∀b o,(s.heap.push {cls:= .type "list",dict:=none,data:= .seq ([]:List Value).toArray}).get? b=some o->h4.get? b=some o:=λ b o e=>by
  rw[e4];exact pushCells_keeps _ _ b o (z1a _ e)
 have keep:∀b o,s.heap.get? b=some o->h4.get? b=some o:=λ b o e=>aaT b o (z1a _ e);have sz3:(s.heap.push {cls:= .type "list",dict:=none,data:= .seq ([]:List Value).toArray}).objs.size=s.heap.objs.size+1:=Heap.size_push ..;have hns:h4.Ns C λ _=>none:=by
  rw[e4,hC,<-sz3];exact (Heap.Ns.new _ (.type "dict")).keeps (pushCells_keeps _ _)
 have ok:=cellsFrom_ok scope.names ((s.heap.push {cls:= .type "list",dict:=none,data:= .seq ([]:List Value).toArray}).push {cls:= .type "dict",data:= .dict #[]}) (C+1) [] ⟨λ _ _ hm=>(nomatch hm),List.Pairwise.nil⟩ (by rw[Heap.size_push,sz3,hC];exact z0g _);rw[Heap.size_push,sz3,<-hC,<-e4] at ok;have abq:∀x c,(gO scope X.env C).cells.lookup x=some c->scope.names.lookup x=some .cell->h4.IsCell c none:=λ x c h hk=>by
  have h:(cellsFrom (C+1) scope.names (iI X.env.cells scope.names [])).lookup x=some c:=h;rw[dW,List.lookup_append] at h;cases e:(cellsFrom (C+1) scope.names []).lookup x with
  | some c'=>
   rw[e] at h;have e2:c'=c:=by simpa using h
   subst e2;exact (ok.empty x c' (PySem.mem_of_lookup e)).1
  | none=>
   rw[e] at h;have h:(iI X.env.cells scope.names []).lookup x=some c:=by simpa using h
   have:=B.JM x (tV (tU _ _ (PySem.mem_of_lookup h)).1);rw[hk] at this;cases this
 have T6:∀x (c:Nat),X.env.cells.lookup x=some c->c < s.heap.objs.size:=λ x c e=>by
  obtain⟨v,q⟩:=I.cell x c e;exact q.lt
 have adn:∀x c,(gO scope X.env C).cells.lookup x=some c->∃v,h4.IsCell c v:=λ x c h=>by
  rcases kO B I.ok.has h with⟨h1,_⟩ |⟨_,h2⟩
  ·exact⟨_,abq x c h h1⟩
  ·obtain⟨v,q⟩:=I.cell x c h2;exact⟨v,q.keeps keep⟩
 refine⟨⟨I.ok.mod,B.kind,I.ok.glob,I.ok.blt,by show @LE.le Nat _ s.heap.objs.size C;omega,?inj,?has,?cab,I.ok.hd,I.ok.frames,.inl rfl,?exf,I.bs,z0b I.ok.bsz I.sz,?noex,?exfs,I.stack,I.stkFree⟩,
  rfl,I.bare,Un.laid keep (z0g _) hD,⟨_,hns,?loc⟩,adn,?free,?freeC,λ p hp=>absurd (show p∈([]:List (Addr×Obj)) from hp) (by simp),I.hok.laid keep (z0g _) ?new,?len⟩
 case inj=>
  intro x y c h1 h2;have h1:(gO scope X.env C).cells.lookup x=some c:=h1;have h2:(gO scope X.env C).cells.lookup y=some c:=h2;rcases kO B I.ok.has h1 with⟨a1,a2⟩ |⟨a1,a2⟩ <;> rcases kO B I.ok.has h2 with⟨b1,b2⟩ |⟨b1,b2⟩
  ·-- both its own
   have look:∀z,(gO scope X.env C).cells.lookup z=some c->scope.names.lookup z=some .cell->(z,c)∈cellsFrom (C+1) scope.names []:=λ z h hk=>by
    have h:(cellsFrom (C+1) scope.names (iI X.env.cells scope.names [])).lookup z=some c:=h;rw[dW,List.lookup_append] at h;cases e:(cellsFrom (C+1) scope.names []).lookup z with
    | some c'=>
     rw[e] at h;have e2:c'=c:=by simpa using h
     subst e2;exact PySem.mem_of_lookup e
    | none=>
     rw[e] at h;have h:(iI X.env.cells scope.names []).lookup z=some c:=by simpa using h
     have:=B.JM z (tV (tU _ _ (PySem.mem_of_lookup h)).1);rw[hk] at this;cases this
   exact name_of_addr ok.apart (look x h1 a1) (look y h2 b1)
  ·have:=T6 y c b2;omega
  ·have:=T6 x c a2;omega
  ·exact I.ok.inj x y c a2 b2
 case has=>
  intro x hx;have hx:(relabel scope X.env).names.lookup x=some .cell\/(relabel scope X.env).names.lookup x=some .free:=hx;have hx:(scope.names.map λ (n,k)=>if (k ==NameKind.free && X.env.scope.kind == .function && X.env.kindOf n ==some .cell) then (n,NameKind.cell) else (n,k)).lookup x=some .cell\/(scope.names.map λ (n,k)=>if (k ==NameKind.free && X.env.scope.kind == .function && X.env.kindOf n ==some .cell) then (n,NameKind.cell) else (n,k)).lookup x=some .free:=hx;rw[pH (scope:=scope)] at hx;cases e:scope.names.lookup x with
  |none=>rw[e] at hx;rcases hx with z |z <;> cases z
  | some k=>
   rw[e] at hx;by_cases hk:k= .free
   ·subst hk;have hm:=tV (PySem.mem_of_lookup e);obtain⟨c,hc⟩:=I.ok.has x (B.out x hm);exact⟨c,Lq B hm hc I.ok.has⟩
   ·have hk':(k ==NameKind.free)=false:=by simpa using hk
    simp only[Option.map_some,hk',Bool.false_and,Bool.false_eq_true,if_false] at hx;have hc:k= .cell:=by
     rcases hx with z |z
     ·exact Option.some.inj z
     ·exact absurd (Option.some.inj z) hk
    subst hc;have q:=PySem.W.cellsFrom_some scope.names (C+1) (iI X.env.cells scope.names []) (.inl e);exact Option.isSome_iff_exists.mp q
 case cab=>
  intro x c hfn h;have h:(gO scope X.env C).cells.lookup x=some c:=h;have hfn:scope.names.lookup x=some .cell:=of_decide_eq_true hfn;rcases kO B I.ok.has h with⟨_,a2⟩ |⟨a1,_⟩
  ·show @LE.le Nat _ s.heap.objs.size c;omega
  ·rw[B.JM x a1] at hfn;cases hfn
 case exf=>
  intro b hb;have hb:b∈fp:=hb;have hl: @LT.lt Nat _ b s.heap.objs.size:=ho b hb;refine⟨by show @Ne Nat b C;omega,λ x c h=>?_⟩;rcases kO B I.ok.has h with⟨_,a2⟩ |⟨_,a2⟩
  ·show @Ne Nat c b;omega
  ·exact (hf b hb).2.2.2.2.1 x c a2
 case noex=>
  intro b o e hb;have hb:b∈fp:=hb;rcases (hf b hb).2.2.2.1 with z |z
  ·exact I.ok.noex b o e z
  ·exact absurd (z0d (z2c e) (z0b I.ok.bsz z)) (Nat.lt_irrefl _)
 case exfs=>
  intro b hb hz;have hb:b∈fp:=hb;have hz:b∈frs X.stack:=hz;rcases List.mem_cons.mp (I.stkSub b hz) with z |z
  ·exact (hf b hb).2.1 z
  ·exact (hf b hb).2.2.1 z
 case loc=>
  intro i x v h1 h2 h3;have h1:(ts++dF scope)[i]?=some x:=h1;obtain⟨k,y,e1,e2,e3⟩:=tR h2;have hy:x=y:=by
   rw[e1,List.getElem?_append_right (by omega),show ts.length+k - ts.length=k by omega,e2] at h1;exact (Option.some.inj h1).symm
  subst hy;have hm:x∈dF scope:=List.mem_of_getElem? e2;obtain⟨m,_,hl⟩:=I.loc;have vis:Vis X.env.scope x:=by
   rcases B.out x hm with z |z
   ·exact .inr (.inl z)
   ·exact .inr (.inr z)
  obtain⟨u,ru,lk⟩:=hl (jZ x X.N) x v (xJ (B.mem x hm)) e3 vis;refine⟨u,ru,.inr ⟨Zg B hm,?_⟩⟩;rcases lk with⟨z,_⟩ |⟨_,c,hc,q⟩
  ·have z:X.env.scope.names.lookup x=some .local:=z;rcases B.out x hm with z' |z' <;> rw[z] at z' <;> cases z'
  ·exact⟨c,Lq B hm hc I.ok.has,q.keeps keep⟩
 case free=>
  show upd H s.heap.objs.size (.lst []) C=none;rw[upd_ne (show @Ne Nat C s.heap.objs.size by omega)];exact I.hok.fresh (show @LE.le Nat _ s.heap.objs.size C by omega)
 case freeC=>
  intro x c h;rcases kO B I.ok.has h with⟨_,a2⟩ |⟨_,a2⟩
  ·rw[upd_ne (show @Ne Nat c s.heap.objs.size by omega)];exact I.hok.fresh (show @LE.le Nat _ s.heap.objs.size c by omega)
  ·have:=T6 x c a2;rw[upd_ne (show @Ne Nat c s.heap.objs.size by omega)];exact I.freeC x c a2
 case new=>
  exact⟨Nat.zero_le _,[],0,.nil,aaT _ _ (z1f _ rfl)⟩
 case len=>
  show (pull X.N (dF scope) ts.length σ).length=(ts++dF scope).length;rw[xK,z1d]
theorem ado {s:Shared} {fp:List Addr} {C:Addr} (B:Bo X.env.scope scope ts X.N) (j:In X O H ρ σ):In (bY X scope ts C s H fp) O H (pull X.N (dF scope) ts.length ρ) (pull X.N (dF scope) ts.length σ):=by
 refine⟨⟨λ i e h=>?_,λ i k e e' v hik hi hk oi ok si sk=>?_⟩,j.al,?_,?_⟩
 ·obtain⟨m,x,rfl,e1,e2⟩:=tR h;obtain⟨v,e3,r⟩:=j.env.get _ e e2;exact⟨v,by rw[Ib e1,e3];rfl,r⟩
 ·obtain⟨m,x,rfl,e1,e2⟩:=tR hi;obtain⟨m',x',rfl,e1',e2'⟩:=tR hk;have hx:x≠x':=λ z=>by
   subst z;have nd:=(List.nodup_append.mp B.nd).2.1;exact hik (by rw[nodup_ix nd e1 e1'])
  have hm:=B.mem x (List.mem_of_getElem? e1);have hm':=B.mem x' (List.mem_of_getElem? e1');have hne:jZ x X.N≠jZ x' X.N:=λ z=>by
   have q1:=xJ hm;have q2:=xJ hm';rw[z,q2] at q1;exact hx (Option.some.inj q1).symm
  rw[Ib e1] at si;rw[Ib e1'] at sk;exact j.env.sep _ _ e e' v hne e2 e2' oi ok (join_some (Option.some.inj si)) (join_some (Option.some.inj sk))
 ·show (pull X.N (dF scope) ts.length σ).length=(ts++dF scope).length;rw[xK,z1d]
 ·show (pull X.N (dF scope) ts.length ρ).length=(ts++dF scope).length;rw[xK,z1d]
end
theorem gW:1000000 < sizeLine:=by rw[sizeLine_eq];decide
section
variable {X:Cx}
theorem In.back {ρ1:ao} (j:In Y O H ρ1 σ) (h0:∀i,i < n->ρ[i]?=some none) (h1:∀i,n<=i->ρ1[i]?=ρ[i]?) (hl:ρ.length=Y.N.length):In Y O H ρ σ:=by
 have sub:∀(i:Nat) e,ρ[i]?=some (some e)->ρ1[i]?=some (some e):=λ i e h=>by
  by_cases hi:i < n
  ·rw[h0 i hi] at h;cases h
  ·rw[h1 i (by omega)];exact h
 exact⟨⟨λ i e h=>j.env.get i e (sub i e h),λ i k e e' v hik hi hk=>j.env.sep i k e e' v hik (sub i e hi) (sub k e' hk)⟩,j.al,j.len,hl⟩
theorem Wo {l:List (Option α)} (h:i < n):(pull N caps n l)[i]?=some none:=by
 unfold pull;rw[List.getElem?_append_left (by simpa using h),List.getElem?_replicate,if_pos h]
theorem In.go {O':Addr->Prop} {H':Hp} (j:In Y O H ρ σ) (hv:∀(i:Nat) e,ρ[i]?=some (some e)->e.Rv=true) (r:eF Y.K O H O' H') (al:∀a,O' a->∃o,H' a=some o):In Y O' H' ρ σ:=by
 refine⟨⟨λ i e h=>?_,λ i k e e' v _ hi _ oi=>?_⟩,al,j.len,j.m9⟩
 ·obtain⟨v,h1,h2⟩:=j.env.get i e h;refine⟨v,h1,?_⟩;cases e with
  |val d=>exact Rep.go r h2
  |lst _=>cases hv i _ h
  |za _=>cases hv i _ h
  |obj _=>cases hv i _ h
 ·rw[abm (hv i e hi)] at oi;cases oi
theorem JN:∀(i:Nat) e,(pull N caps n (ρ.map xM))[i]?=some (some e)->e.Rv=true:=λ i e h=>by
 obtain⟨_,_,_,_,q⟩:=tR h;exact (xO q).2
end
inductive So where
 |bad |nx (ρ:ao) |rt (d:D) |bk (ρ:ao) |ct (ρ:ao) |ex (c:Str) (ρ:ao)
structure At (X:Cx) (H0:Hp) (O0 O:Addr->Prop) (H:Hp) (ρ:ao) (σ:St):Prop where
 same:Same H0 H
 dJ:eF X.K O0 H0 O H
 sub:∀a,O0 a->O a
 inn:In X O H ρ σ
 mine:∀(i:Nat) e a,ρ[i]?=some (some e)->e.own=true->σ[i]?=some (some (.ref a))->H0 a=none/\¬O0 a
def rN (X:Cx) (H0:Hp) (O0 O:Addr->Prop) (H:Hp) (E:Ends) (o:So):Prop:=match o with
 | .nx ρ'=>∀σ' H' O',At X H0 O0 O' H' ρ' σ'->eF X.K O H O' H'->E.nx σ' H'
 | .bk ρ'=>∀σ' H' O',At X H0 O0 O' H' ρ' σ'->eF X.K O H O' H'->E.bk σ' H'
 | .ct ρ'=>∀σ' H' O',At X H0 O0 O' H' ρ' σ'->eF X.K O H O' H'->E.ct σ' H'
 | .rt d=>∀v H',Same H0 H'->Rep X.K O0 H' d v->E.rt v H'
 | .ex c ρ'=>∀σ' H' O',At X H0 O0 O' H' ρ' σ'->Cg X c σ' H'
 | .bad=>False
theorem rN.go {H1:Hp} {O1:Addr->Prop} {E:Ends} {o:So} (h:rN X H0 O0 O H E o) (r:eF X.K O H O1 H1):rN X H0 O0 O1 H1 E o:=by
 cases o with
 |bad=>exact h
 |rt d=>exact h
 |bk ρ2=>exact λ σ2 H2 O2 j2 r2=>h σ2 H2 O2 j2 (r.trans r2)
 |ct ρ2=>exact λ σ2 H2 O2 j2 r2=>h σ2 H2 O2 j2 (r.trans r2)
 |nx ρ2=>exact λ σ2 H2 O2 j2 r2=>h σ2 H2 O2 j2 (r.trans r2)
 |ex c ρ2=>exact h
def tS (X:Cx) (g:ao->So):TS:=λ E σ H=>∃H0 O0 O ρ,At X H0 O0 O H ρ σ/\rN X H0 O0 O H E (g ρ)
def DS (X:Cx) (st:Stmt) (g:ao->So):Prop:=PS X st (tS X g)
def lY (X:Cx) (st:List Stmt) (g:ao->So):Prop:=PSs X st (tS X g)
theorem PS.imp {e:Stmt} {t t':TS} (h:PS X e t) (w:∀σ H Q,t' Q σ H->t Q σ H):PS X e t':=λ pins s σ H Q I q=>h pins s σ H Q I (w σ H Q q)
theorem PSs.imp {e:List Stmt} {t t':TS} (h:PSs X e t) (w:∀σ H Q,t' Q σ H->t Q σ H):PSs X e t':=λ pins s σ H Q I q=>h pins s σ H Q I (w σ H Q q)
section
variable {X:Cx} {H0 H H1:Hp} {O0 O:Addr->Prop} {ρ:ao} {σ:St}
theorem At.grow (j:At X H0 O0 O H ρ σ) (s:Same H H1):At X H0 O0 O H1 ρ σ:=⟨j.same.trans s,j.dJ.trans (Same.dJ s),j.sub,j.inn.same s,j.mine⟩
theorem At.set (j:At X H0 O0 O H ρ σ) (hi:i < X.N.length) {v:V} (r:Rep X.K O H d v):At X H0 O0 O H (ρ.set i (some (.val d))) (σ.set i (some v)):=by
 refine⟨j.same,j.dJ,j.sub,j.inn.set hi r,λ k e a h ho hs=>?_⟩;have h1:i < ρ.length:=by rw[j.inn.m9];exact hi
 by_cases hk:k=i
 ·subst hk;rw[z2a h1] at h;cases h;cases ho
 ·rw[z1e (Ne.symm hk)] at h hs;exact j.mine k e a h ho hs
def Ey:Option Ent->Option Ent
 |some (.lst ds)=>some (.val (.lst ds))
 |o=>o
def cG (ρ:ao):ao:=ρ.map Ey
def Ez (ρ:ao) (σ:St) (O:Addr->Prop):Addr->Prop:=λ a=>O a/\∀(i:Nat) ds,ρ[i]?=some (some (.lst ds))->σ[i]?≠some (some (.ref a))
theorem Dt {e:Ent} (h:(cG ρ)[i]?=some (some e)):(ρ[i]?=some (some e)/\∀ds,e≠.lst ds)\/∃ds,ρ[i]?=some (some (.lst ds))/\e= .val (.lst ds):=by
 unfold cG at h;rw[z2b] at h;cases q:ρ[i]? with
 |none=>rw[q] at h;cases h
 | some o=>
  rw[q] at h;have h:Ey o=some e:=Option.some.inj h;cases o with
  |none=>cases h
  | some e'=>
   cases e' with
   |val d=>cases h;exact .inl ⟨rfl,λ _ z=>by cases z⟩
   |lst ds=>cases h;exact .inr ⟨ds,rfl,rfl⟩
   |za kvs=>cases h;exact .inl ⟨rfl,λ _ z=>by cases z⟩
   |obj t=>cases h;exact .inl ⟨rfl,λ _ z=>by cases z⟩
theorem In.cG (j:In X O H ρ σ):In X (Ez ρ σ O) H (Pu.cG ρ) σ:=by
 refine⟨⟨λ i e h=>?_,λ i k e e' v hik hi hk oi ok si sk=>?_⟩,λ a z=>j.al a z.1,j.len,by unfold Pu.cG;rw[z1g];exact j.m9⟩
 ·rcases Dt h with⟨h1,h2⟩ |⟨ds,h1,rfl⟩
  ·obtain⟨v,h3,h4⟩:=j.env.get i e h1;refine⟨v,h3,?_⟩;cases e with
   |val d=>exact Rep.fewer (λ a z=>z.1) h4
   |lst ds=>exact absurd rfl (h2 ds)
   |obj t=>exact h4
   | za kvs=>
    obtain⟨a,ys,e1,o1,e2,k1,r1⟩:=h4;refine⟨a,ys,e1,⟨o1,λ k ds hk hs=>?_⟩,e2,k1,r1.fewer λ a z=>z.1⟩;by_cases hik:i=k
    ·subst hik;rw[h1] at hk;cases hk
    ·exact j.env.sep i k _ _ v hik h1 hk rfl rfl h3 (by rw[e1];exact hs)
  ·obtain⟨v,h3,a,xs,e1,o1,e2,r1⟩:=j.env.get i _ h1;exact⟨v,h3,by rw[e1];exact gG (SqL.of e2) (λ z=>z.2 i ds h1 (by rw[<-e1];exact h3)) (r1.fewer λ a z=>z.1)⟩
 ·have un:∀{m:Nat} {e:Ent},(Pu.cG ρ)[m]?=some (some e)->e.own=true->ρ[m]?=some (some e):=λ {m e} h ho=>by
   rcases Dt h with⟨h1,_⟩ |⟨ds,_,rfl⟩
   ·exact h1
   ·cases ho
  exact j.env.sep i k e e' v hik (un hi oi) (un hk ok) oi ok si sk
theorem At.adp (j:At X H0 O0 O H ρ σ):∀a,O0 a->Ez ρ σ O a:=λ a z=>⟨j.sub a z,λ i ds h hs=>(j.mine i _ a h rfl hs).2 z⟩
end
section
variable {X:Cx} {st:Stmt} {rest:List Stmt} {g k:ao->So} {f:ao->R D} {p:ao->R Bool} {e:Expr} {pos:Pos}
def aO (g k:ao->So):ao->So:=λ ρ=>match g ρ with
 | .nx ρ'=>k ρ'
 |o=>o
theorem cO:lY X [] .nx:=PSs.imp pss_nil λ σ H E h=>by
 obtain⟨H0,O0,O,ρ,j,h⟩:=h;exact h σ H O j .refl
theorem aL (h:DS X st g):lY X [st] g:=pss_one h
theorem aH (h1:DS X st g) (h2:lY X rest k):lY X (st::rest) (aO g k):=by
 refine PSs.imp (pss_cons h1 h2) λ σ H E h=>?_;obtain⟨H0,O0,O,ρ,j,h⟩:=h;unfold aO at h;refine⟨H0,O0,O,ρ,j,?_⟩;cases e1:g ρ with
 |bad=>rw[e1] at h;exact h
 |rt d=>rw[e1] at h;exact h
 |bk ρ'=>rw[e1] at h;exact h
 |ct ρ'=>rw[e1] at h;exact h
 |ex c ρ'=>rw[e1] at h;exact h
 | nx ρ'=>
  rw[e1] at h;have h:rN X H0 O0 O H E (k ρ'):=h;exact λ σ' H' O' j' r'=>⟨H0,O0,O',ρ',j',h.go r'⟩
def fj (r:R D) (ρ:ao) (k:D->So):So:=match r with
 | .ok d=>k d
 | .err c=> .ex c ρ
 | .bad=> .bad
def retS (f:ao->R D):ao->So:=λ ρ=>fj (f (cG ρ)) ρ .rt
theorem bx (he:DE X e f):DS X (.Return (some e) pos) (retS f):=by
 refine PS.imp (ps_ret he) λ σ H E h=>?_;obtain⟨H0,O0,O,ρ,j,h⟩:=h;refine⟨cG ρ,Ez ρ σ O,j.inn.cG,?_⟩;unfold retS fj at h;cases e1:f (cG ρ) with
 |bad=>rw[e1] at h;exact h
 |err c=>rw[e1] at h;exact h σ H O j
 |ok d=>rw[e1] at h;exact λ v H' s r=>h v H' (j.same.trans s) (Rep.fewer j.adp r)
def lO (f:ao->R D):ao->So:=λ ρ=>fj (f (cG ρ)) ρ λ _=> .nx ρ
theorem lQ (he:DE X e f) (hs:swapsWith e none pos.line X.env=pure false:=by rfl):DS X (.Expr e pos) (lO f):=by
 refine PS.imp (ps_expr he hs) λ σ H E h=>?_;obtain⟨H0,O0,O,ρ,j,h⟩:=h;refine⟨cG ρ,Ez ρ σ O,j.inn.cG,?_⟩;unfold lO fj at h;cases e1:f (cG ρ) with
 |bad=>rw[e1] at h;exact h
 |err c=>rw[e1] at h;exact h σ H O j
 |ok d=>rw[e1] at h;exact λ v H' s r=>h σ H' O (j.grow s) (Same.dJ s)
def bB (f:ao->R D) (gt:D->ao->R ao):ao->So:=λ ρ=>fj (f ρ) ρ λ d=>match gt d ρ with
 | .ok ρ'=> .nx ρ'
 |_=> .bad
theorem bO (i:Nat) {x:Str} {pos':Pos} (hN:X.N.Nodup) (he:DE X e f) (hi:X.N[i]?=some x:=by rfl) (hx:Loc X.env.scope x:=by first |exact Or.inl rfl |exact Or.inr rfl) (hs:swapsWith e (some (.Name x pos')) pos.line X.env=pure false:=by rfl)
  (hf:X.fn x=true\/X.env.scope.names.lookup x=some .local:=by first |exact .inl rfl |exact .inr rfl):DS X (.Assign [.Name x pos'] e pos) (bB f (aF i)):=by
 refine PS.imp (ps_set hN hi hx he hs hf) λ σ H E h=>?_;obtain⟨H0,O0,O,ρ,j,h⟩:=h;refine⟨ρ,O,j.inn,?_⟩;unfold bB fj at h;cases e1:f ρ with
 |bad=>rw[e1] at h;exact h
 |err c=>rw[e1] at h;exact h σ H O j
 |ok d=>rw[e1] at h;exact λ v H' s r=>h _ H' O ((j.grow s).set (z1b hi).1 r) (Same.dJ s)
theorem wg (i k:Nat) {x y:Str} {py pt:Pos} {kt} (hc:X.calm=true) (hN:X.N.Nodup) (he:DE X e f) (hi:X.N[i]?=some x:=by rfl) (hk:X.N[k]?=some y:=by rfl)
  (hx:Loc X.env.scope x:=by first |exact Or.inl rfl |exact Or.inr rfl) (hy:Loc X.env.scope y:=by first |exact Or.inl rfl |exact Or.inr rfl)
  (hfx:X.fn x=true\/X.env.scope.names.lookup x=some .local:=by first |exact .inl rfl |exact .inr rfl) (EY:X.fn y=true\/X.env.scope.names.lookup y=some .local:=by first |exact .inl rfl |exact .inr rfl)
  (hs:swapsWithSole [.Tuple [.Name x px,.Name y py] kt pt] e pos.line X.env=pure false:=by rfl) (hw:swappedStores [.Tuple [.Name x px,.Name y py] kt pt] e X.env=pure none:=by rfl):
  DS X (.Assign [.Tuple [.Name x px,.Name y py] kt pt] e pos) (bB f (cZ (c7 2 (aX (aF i) (aX (aF k) nilG))))):=by
 refine PS.imp (ps_asg he (pg_tup hc (pgs_cons (pg_name hN hi hx hfx) (pgs_cons (pg_name hN hk hy EY) pgs_nil))) hs hw) λ σ H E h=>?_;obtain⟨H0,O0,O,ρ,j,h⟩:=h;refine⟨ρ,O,j.inn,?_⟩;unfold bB fj at h;cases e1:f ρ with
 |bad=>rw[e1] at h;exact h
 |err c=>rw[e1] at h;exact h σ H O j
 | ok d=>
  rw[e1] at h;intro v H' s r;cases d with
  | tup ds=>
   match ds,h,r with
   |[],h,_=>exact h.elim
   |[_],h,_=>exact h.elim
   |_::_::_::_,h,_=>exact (show False by simpa[cZ,c7,rN] using h).elim
   | [d1,d2],h,r=>
    obtain⟨a,xs,rfl,hq,rs⟩:=r.tup;obtain⟨v1,v2,rfl,r1,r2⟩:=rs.two;refine⟨a,[v1,v2],rfl,hq,rfl,v1,[v2],rfl,v2,[],rfl,rfl,?_⟩;exact h _ H' O (((j.grow s).set (z1b hi).1 r1).set (z1b hk).1 r2) (Same.dJ s)
  |_=>exact h.elim
def fB (p:ao->R Bool) (g k:ao->So):ao->So:=λ ρ=>match p (cG ρ) with
 | .ok true=>g ρ
 | .ok false=>k ρ
 | .err c=> .ex c ρ
 | .bad=> .bad
theorem Rx {g:ao->So} {E:Ends} {H1:Hp} (j:At X H0 O0 O H ρ σ) (s:Same H H1) (h:rN X H0 O0 O H E (g ρ)):tS X g E σ H1:=
 ⟨H0,O0,O,ρ,j.grow s,h.go (Same.dJ s)⟩
theorem dG {c:Expr} {a b:List Stmt} (hc:DT X c p) (ha:lY X a g) (hb:lY X b k):DS X (.If c a b pos) (fB p g k):=by
 refine PS.imp (ps_if hc ha hb) λ σ H E h=>?_;obtain⟨H0,O0,O,ρ,j,h⟩:=h;refine⟨cG ρ,Ez ρ σ O,j.inn.cG,?_⟩;unfold fB at h;cases e1:p (cG ρ) with
 |bad=>rw[e1] at h;exact h
 |err c=>rw[e1] at h;exact h σ H O j
 | ok t=>
  rw[e1] at h;intro b' H' s e;subst e;cases t with
  |true=>rw[if_pos rfl];exact Rx j s h
  |false=>rw[if_neg Bool.false_ne_true];exact Rx j s h
theorem tW:DS X st (λ _=> .bad):=λ pins s σ H E I h=>by
 obtain⟨_,_,_,_,_,h⟩:=h;exact h.elim
def forL (gt:D->ao->R ao) (b:ao->So):List D->ao->So
 |[],ρ=> .nx ρ
 | x ::xs,ρ=>match gt x ρ with
  | .ok ρ1=>match b ρ1 with
   | .nx ρ2=>forL gt b xs ρ2
   | .ct ρ2=>forL gt b xs ρ2
   | .bk ρ2=> .nx ρ2
   |o=>o
  |_=> .bad
def j7 (fi:ao->R (List D)) (gt:D->ao->R ao) (b:ao->So):ao->So:=λ ρ=>match fi ρ with
 | .ok xs=>forL gt b xs ρ
 | .err c=> .ex c ρ
 | .bad=> .bad
inductive adq (X:Cx) (gt:D->ao->R ao) (v:V) (σ:St) (H:Hp) (Q:St->Hp->Prop):Prop
 |mk (H0:Hp) (O0 O:Addr->Prop) (ρ:ao) (d:D) (ρ':ao) (j:At X H0 O0 O H ρ σ) (r:Rep X.K O H d v) (e:gt d ρ= .ok ρ') (q:∀σ',At X H0 O0 O H ρ' σ'->Q σ' H):adq X gt v σ H Q
def DGA (X:Cx) (tg:Expr) (gt:D->ao->R ao):Prop:=PG X tg λ v σ H Q=>adq X gt v σ H Q
theorem lg (i:Nat) {x:Str} (hN:X.N.Nodup) (hi:X.N[i]?=some x:=by rfl) (hx:Loc X.env.scope x:=by first |exact Or.inl rfl |exact Or.inr rfl) (hf:X.fn x=true\/X.env.scope.names.lookup x=some .local:=by first |exact .inl rfl |exact .inr rfl):DGA X (.Name x pos) (aF i):=by
 intro pins s σ H v u Q I r h;obtain⟨H0,O0,O,ρ,d,ρ',j,rd,e,q⟩:=h;cases e;exact pg_name hN hi hx hf pins s σ H v u Q I r (q _ (j.set (z1b hi).1 rd))
theorem wj (i k:Nat) {x y:Str} {py:Pos} {kt} (hc:X.calm=true) (hN:X.N.Nodup) (hi:X.N[i]?=some x:=by rfl) (hk:X.N[k]?=some y:=by rfl)
  (hx:Loc X.env.scope x:=by first |exact Or.inl rfl |exact Or.inr rfl) (hy:Loc X.env.scope y:=by first |exact Or.inl rfl |exact Or.inr rfl)
  (hfx:X.fn x=true\/X.env.scope.names.lookup x=some .local:=by first |exact .inl rfl |exact .inr rfl) (EY:X.fn y=true\/X.env.scope.names.lookup y=some .local:=by first |exact .inl rfl |exact .inr rfl):
  DGA X (.Tuple [.Name x px,.Name y py] kt pos) (cZ (c7 2 (aX (aF i) (aX (aF k) nilG)))):=by
 intro pins s σ H v u Q I r h;obtain⟨H0,O0,O,ρ,d,ρ',j,rd,e,q⟩:=h;cases d with
 | tup ds=>
  match ds,e,rd with
  |[],e,_=>cases e
  |[_],e,_=>cases e
  |_::_::_::_,e,_=>simp[cZ,c7] at e
  | [d1,d2],e,rd=>
   obtain⟨a,xs,rfl,hq,rs⟩:=rd.tup;obtain⟨v1,v2,rfl,r1,r2⟩:=rs.two;cases e;refine pg_tup hc (pgs_cons (pg_name hN hi hx hfx) (pgs_cons (pg_name hN hk hy EY) pgs_nil)) rfl rfl pins s σ H _ u Q I r ⟨a,[v1,v2],rfl,hq,rfl,v1,[v2],rfl,v2,[],rfl,rfl,?_⟩;exact q _ ((j.set (z1b hi).1 r1).set (z1b hk).1 r2)
 |_=>cases e
theorem iW {tg iter:Expr} {body:List Stmt} {fi:ao->R (List D)} {gt:D->ao->R ao} {b:ao->So} (hp:PassesOwn (model X.prog X.w) X.A X.env X.xe) (hc:X.calm=true) (hi:DI X tg iter fi) (hg:DGA X tg gt) (hb:lY X body b)
  (hs:∀x,foldedSetIterable iter X.env x=pure x:=by intro _;rfl):DS X (.For tg iter body [] pos) (j7 fi gt b):=by
 refine PS.imp (ps_for hp hc hi hg hb hs) λ σ H E h=>?_;obtain⟨H0,O0,O,ρ,j,h⟩:=h;refine⟨ρ,O,j.inn,?_⟩;unfold j7 at h;cases e1:fi ρ with
 |bad=>rw[e1] at h;exact h
 |err c=>rw[e1] at h;exact h σ H O j
 | ok xs =>
  rw[e1] at h;have h:rN X H0 O0 O H E (forL gt b xs ρ):=h;intro J H1 s1 yr;have j1:=j.grow s1;have q1:eF X.K O H O H1:=Same.dJ s1;refine⟨λ i m σ' H'=>∃O' ρ',At X H0 O0 O' H' ρ' σ'/\eF X.K O H1 O' H'/\i<=xs.length/\m=xs.length - i/\forL gt b (xs.drop i) ρ'=forL gt b xs ρ,⟨_,O,ρ,j1,.refl,Nat.zero_le _,rfl,by simp⟩,?_⟩
  rintro i m σ' H' ⟨O',ρ',j',r',hil,rfl,hf⟩
  have Wq:=yr O' H' r' i;by_cases hlt:i < xs.length
  ·have ed:xs.drop i=xs[i]::xs.drop (i+1):=List.drop_eq_getElem_cons hlt;obtain⟨jgo,jy⟩:=Wq.1 xs[i] (by simp[hlt]);refine .inr ⟨jgo,λ σ2 H2=>∃O2 ρ2,At X H0 O0 O2 H2 ρ2 σ2/\eF X.K O H1 O2 H2/\forL gt b (xs.drop (i+1)) ρ2=forL gt b xs ρ,?_,λ x H2 y=>?_⟩
   ·rintro σ2 H2 ⟨O2,ρ2,j2,r2,hf2⟩
    exact⟨xs.length - (i+1),by omega,O2,ρ2,j2,r2,by omega,rfl,hf2⟩
   ·obtain⟨sm,rep⟩:=jy x H2 y;rw[ed] at hf;have hf:(match gt xs[i] ρ' with
     | .ok ρ1=>match b ρ1 with
      | .nx ρ2=>forL gt b (xs.drop (i+1)) ρ2
      | .ct ρ2=>forL gt b (xs.drop (i+1)) ρ2
      | .bk ρ2=> .nx ρ2
      |o=>o
     |_=> .bad)=forL gt b xs ρ:=hf
    cases e2:gt xs[i] ρ' with
    |bad=>rw[e2] at hf;rw[<-hf] at h;exact h.elim
    |err c=>rw[e2] at hf;rw[<-hf] at h;exact h.elim
    | ok ρ1=>
     rw[e2] at hf;refine⟨H0,O0,O',ρ',xs[i],ρ1,j'.grow sm,rep,e2,λ σ3 j3=>?_⟩;refine⟨H0,O0,O',ρ1,j3,?_⟩;have r3:eF X.K O H1 O' H2:=r'.trans (Same.dJ sm);have hf:(match b ρ1 with
      | .nx ρ2=>forL gt b (xs.drop (i+1)) ρ2
      | .ct ρ2=>forL gt b (xs.drop (i+1)) ρ2
      | .bk ρ2=> .nx ρ2
      |o=>o)=forL gt b xs ρ:=hf
     cases e3:b ρ1 with
     |bad=>rw[e3] at hf;rw[<-hf] at h;exact h
     |rt d=>rw[e3] at hf;rw[<-hf] at h;exact h
     |ex c ρ2=>rw[e3] at hf;rw[<-hf] at h;exact h
     |bk ρ2=>rw[e3] at hf;rw[<-hf] at h;exact λ σ4 H4 O4 j4 r4=>h σ4 H4 O4 j4 (q1.trans (r3.trans r4))
     |nx ρ2=>rw[e3] at hf;exact λ σ4 H4 O4 j4 r4=>⟨O4,ρ2,j4,r3.trans r4,hf⟩
     |ct ρ2=>rw[e3] at hf;exact λ σ4 H4 O4 j4 r4=>⟨O4,ρ2,j4,r3.trans r4,hf⟩
  ·have ei:i=xs.length:=by omega
   subst ei;have hf:forL gt b (xs.drop xs.length) ρ'=forL gt b xs ρ:=hf;rw[List.drop_length] at hf;rw[<-hf] at h;exact .inl ⟨Wq.2 (z0g _),h σ' H' O' j' (q1.trans r')⟩
def gH (p:ao->R Bool) (b:ao->So):Nat->ao->So
 |0,_=> .bad
 | n +1,ρ=>match p (cG ρ) with
  | .ok true=>match b ρ with
   | .nx ρ'=>gH p b n ρ'
   | .ct ρ'=>gH p b n ρ'
   | .bk ρ'=> .nx ρ'
   |o=>o
  | .ok false=> .nx ρ
  | .err c=> .ex c ρ
  | .bad=> .bad
theorem Du (n:Nat) {c:Expr} {body:List Stmt} {b:ao->So} (hp:PassesOwn (model X.prog X.w) X.A X.env X.xe) (hc:DT X c p) (hb:lY X body b):DS X (.While c body [] pos) (gH p b n):=by
 refine PS.imp (ps_while hp hc hb) λ σ H E h=>?_;obtain⟨H0,O0,O,ρ,j,h⟩:=h;have h:rN X H0 O0 O H E (gH p b n ρ):=h;refine⟨λ m σ' H'=>∃O' ρ',At X H0 O0 O' H' ρ' σ'/\eF X.K O H O' H'/\gH p b m ρ'=gH p b n ρ,⟨n,O,ρ,j,.refl,rfl⟩,?_⟩
 rintro m σ' H' ⟨O',ρ',j',r',hf⟩
 refine⟨cG ρ',Ez ρ' σ' O',j'.inn.cG,?_⟩;cases m with
 |zero=>rw[<-hf] at h;exact h.elim
 | succ m =>
  have hf:(match p (cG ρ') with
   | .ok true=>match b ρ' with
    | .nx ρ'=>gH p b m ρ'
    | .ct ρ'=>gH p b m ρ'
    | .bk ρ'=> .nx ρ'
    |o=>o
   | .ok false=> .nx ρ'
   | .err c=> .ex c ρ'
   | .bad=> .bad)=gH p b n ρ:=hf
  cases e1:p (cG ρ') with
  |bad=>rw[e1] at hf;rw[<-hf] at h;exact h
  |err c=>rw[e1] at hf;rw[<-hf] at h;exact h σ' H' O' j'
  | ok t =>
   rw[e1] at hf;intro t' H1 s1 e;subst e;have j1:=j'.grow s1;have r1:eF X.K O H O' H1:=r'.trans (Same.dJ s1);cases t with
   | false=>
    rw[if_neg Bool.false_ne_true];rw[<-hf] at h;exact h σ' H1 O' j1 r1
   | true=>
    rw[if_pos rfl];refine⟨λ σ2 H2=>∃O2 ρ2,At X H0 O0 O2 H2 ρ2 σ2/\eF X.K O H O2 H2/\gH p b m ρ2=gH p b n ρ,?_,H0,O0,O',ρ',j1,?_⟩
    ·rintro σ2 H2 ⟨O2,ρ2,j2,r2,hf2⟩
     exact⟨m,by omega,O2,ρ2,j2,r2,hf2⟩
    ·have hf:(match b ρ' with
      | .nx ρ'=>gH p b m ρ'
      | .ct ρ'=>gH p b m ρ'
      | .bk ρ'=> .nx ρ'
      |o=>o)=gH p b n ρ:=hf
     cases e3:b ρ' with
     |bad=>rw[e3] at hf;rw[<-hf] at h;exact h
     |rt d=>rw[e3] at hf;rw[<-hf] at h;exact h
     |ex c ρ2=>rw[e3] at hf;rw[<-hf] at h;exact h
     |bk ρ2=>rw[e3] at hf;rw[<-hf] at h;exact λ σ4 H4 O4 j4 r4=>h σ4 H4 O4 j4 (r1.trans r4)
     |nx ρ2=>rw[e3] at hf;exact λ σ4 H4 O4 j4 r4=>⟨O4,ρ2,j4,r1.trans r4,hf⟩
     |ct ρ2=>rw[e3] at hf;exact λ σ4 H4 O4 j4 r4=>⟨O4,ρ2,j4,r1.trans r4,hf⟩
end
section
variable {X:Cx} {a b e:Expr} {es:List Expr} {f g:ao->R D} {fa:ao->R (List D)} {pos:Pos}
def afy (K:PySem.W.Frag) (t:TA):TE:=λ σ H Q=>t σ H λ xs H1=>xs.length<=sizeLine/\∀p,H1 p=none->K.lookup p=none->Q (.ref p) (upd H1 p (.lst xs))
theorem Inv.Zh {pins:List (Addr×Obj)} {s:Shared} (I:Inv X pins σ H s):X.K.lookup s.heap.objs.size=none:=by
 cases q:X.K.lookup s.heap.objs.size with
 |none=>rfl
 |some o=>exact absurd (z2c (I.kIn _ _ q)) (Nat.lt_irrefl _)
theorem Ry {t:TA} (h:PA X es t):PE X (.List es pos) (afy X.K t):=by
 intro pins s σ H Q I hq;refine wpAny_List_spliced (thn (h pos pins s σ H _ I hq) λ us s1 ⟨xs,H1,I1,r,z,q⟩=>⟨by rw[<-r.length];exact z,?_⟩);have hf:H1 s1.heap.objs.size=none:=I1.hok.fresh (z0g _);refine⟨.ref s1.heap.objs.size,upd H1 s1.heap.objs.size (.lst xs),I1.laid (t':=s1.toks) (λ b u e=>z1a _ e) (z0g _) ?_,rfl,q _ hf (Inv.Zh I1)⟩;exact⟨z,us,0,r,z1f _ rfl⟩
def newL (fa:ao->R (List D)) (i:Nat):ao->So:=λ ρ=>match fa ρ with
 | .ok ds=>if ds.length<=1000000 then .nx (ρ.set i (some (.lst ds))) else .bad
 | .err c=> .ex c ρ
 | .bad=> .bad
theorem At.own (j:At X H0 O0 O H ρ σ) (hi:i < X.N.length) {o:HO} {en:Ent} (hp:H p=none) (hk:X.K.lookup p=none) (ho:en.own=true)
  (hr:qQ X.K (λ a=>O a\/a=p) (upd H p o) en (.ref p)):
  At X H0 O0 (λ a=>O a\/a=p) (upd H p o) (ρ.set i (some en)) (σ.set i (some (.ref p)))/\eF X.K O H (λ a=>O a\/a=p) (upd H p o):=by
 have s1:Same H (upd H p o):=Same.upd hp;have r1:eF X.K O H (λ a=>O a\/a=p) (upd H p o):=⟨(Same.dJ (K:=X.K) (O:=O) s1).ext,λ a z=>z.elim .inl λ e=> .inr (by rw[e];exact⟨hp,hk⟩),(Same.dJ (K:=X.K) (O:=O) s1).dom⟩;have h1:i < ρ.length:=by rw[j.inn.m9];exact hi
 have h2:i < σ.length:=by rw[j.inn.len];exact hi
 have nOp:¬O p:=j.inn.qR hp;have old:∀{e:Ent} {v:V},qQ X.K O H e v->qQ X.K (λ a=>O a\/a=p) (upd H p o) e v/\(e.own=true->v≠.ref p):=λ {e v} h=>by
  cases e with
  |val d=>exact⟨Rep.go r1 h,λ z=>by cases z⟩
  | lst ds=>
   obtain⟨a,xs,e1,o1,e2,r⟩:=h;exact⟨⟨a,xs,e1,.inl o1,s1 _ _ e2,r.go r1⟩,λ _ z=>by rw[e1] at z;cases z;exact nOp o1⟩
  |obj t=>exact⟨tD.same s1 h,λ z=>by cases z⟩
  | za kvs=>
   obtain⟨a,xs,e1,o1,e2,k,r⟩:=h;exact⟨⟨a,xs,e1,.inl o1,s1 _ _ e2,k,r.go r1⟩,λ _ z=>by rw[e1] at z;cases z;exact nOp o1⟩
 refine⟨⟨j.same.trans s1,j.dJ.trans r1,λ a z=> .inl (j.sub a z),⟨⟨λ k e h=>?_,λ k l e e' v hkl hk' hl ok ol sk sl=>?_⟩,λ a z=>?_,by rw[List.length_set];exact j.inn.len,by rw[List.length_set];exact j.inn.m9⟩,λ k e a h hoo hs=>?_⟩,r1⟩
 ·by_cases hki:k=i
  ·subst hki;rw[z2a h1] at h;cases h;exact⟨.ref p,z2a h2,hr⟩
  ·rw[z1e (Ne.symm hki)] at h;obtain⟨v,q1,q2⟩:=j.inn.env.get k e h;exact⟨v,by rw[z1e (Ne.symm hki)];exact q1,(old q2).1⟩
 ·by_cases hki:k=i
  ·subst hki;rw[z2a h2] at sk;cases sk;rw[z1e hkl] at hl sl;obtain⟨v,q1,q2⟩:=j.inn.env.get l e' hl;rw[q1] at sl;cases sl;exact (old q2).2 ol rfl
  ·rw[z1e (Ne.symm hki)] at hk' sk;by_cases hli:l=i
   ·subst hli;rw[z2a h2] at sl;cases sl;obtain⟨v,q1,q2⟩:=j.inn.env.get k e hk';rw[q1] at sk;cases sk;exact (old q2).2 ok rfl
   ·rw[z1e (Ne.symm hli)] at hl sl;exact j.inn.env.sep k l e e' v hkl hk' hl ok ol sk sl
 ·rcases z with z |z
  ·obtain⟨u,q⟩:=j.inn.al a z;exact⟨u,s1 _ _ q⟩
  ·rw[z];exact⟨o,upd_same⟩
 ·by_cases hki:k=i
  ·subst hki;rw[z2a h2] at hs;cases hs;exact⟨j.same.free hp,λ z=>nOp (j.sub _ z)⟩
  ·rw[z1e (Ne.symm hki)] at h hs;exact j.mine k e a h hoo hs
theorem pJ (i:Nat) {x:Str} {pos' p2:Pos} (hN:X.N.Nodup) (ha:DA X es fa) (hi:X.N[i]?=some x:=by rfl) (hx:Loc X.env.scope x:=by first |exact Or.inl rfl |exact Or.inr rfl) (hs:swapsWith (.List es p2) (some (.Name x pos')) pos.line X.env=pure false:=by rfl)
  (hf:X.fn x=true\/X.env.scope.names.lookup x=some .local:=by first |exact .inl rfl |exact .inr rfl):DS X (.Assign [.Name x pos'] (.List es p2) pos) (newL fa i):=by
 refine PS.imp (ps_set hN hi hx (Ry ha) hs hf) λ σ H E h=>?_;obtain⟨H0,O0,O,ρ,j,h⟩:=h;refine⟨ρ,O,j.inn,?_⟩;unfold newL at h;cases e1:fa ρ with
 |bad=>rw[e1] at h;exact h
 |err c=>rw[e1] at h;exact h σ H O j
 | ok ds=>
  rw[e1] at h;intro vs H1 s1 r1;by_cases hl:ds.length<=1000000
  ·simp only[if_pos hl] at h;refine⟨by rw[<-r1.length];exact z0b hl dO,λ p hp hk=>?_⟩;obtain⟨j2,r2⟩:=(j.grow s1).own (z1b hi).1 (o:= .lst vs) (en:= .lst ds) hp hk rfl ⟨p,vs,rfl,.inr rfl,upd_same,r1.go ⟨(Same.dJ (K:=X.K) (O:=O) (Same.upd hp)).ext,λ a z=>z.elim .inl λ e=> .inr (by rw[e];exact⟨hp,hk⟩),(Same.dJ (K:=X.K) (O:=O) (Same.upd hp)).dom⟩⟩;exact h _ _ _ j2 ((Same.dJ s1).trans r2)
  ·simp only[if_neg hl] at h;exact h.elim
theorem At.chg (j:At X H0 O0 O H ρ σ) {e0 en:Ent} {u o:HO} (hi:ρ[i]?=some (some e0)) (h0:e0.own=true) (hp:σ[i]?=some (some (.ref p))) (hO:O p) (hu:H p=some u) (hm:Mut (some u)) (ho:en.own=true)
  (hr:eF X.K O H O (upd H p o)->qQ X.K O (upd H p o) en (.ref p)):At X H0 O0 O (upd H p o) (ρ.set i (some en)) σ/\eF X.K O H O (upd H p o):=by
 have nt:∀b xs,Rd H b (.tup xs)->b≠p:=λ b xs h z=>by
  subst z;rcases h with h |⟨_,h⟩ <;> rw[hu] at h <;> cases h <;> exact hm
 have r1:eF X.K O H O (upd H p o):=by
  refine⟨⟨λ b xs h=>?_,λ b xs n h=>?_⟩,λ a z=> .inl z,λ a z=>?_⟩
  ·have nb:=nt b xs h;rcases h with h |⟨q,h⟩
   ·exact .inl (by rw[upd_ne nb];exact h)
   ·exact .inr ⟨q,by rw[upd_ne nb];exact h⟩
  ·have nb:b≠p:=λ z=>n (by rw[z];exact hO);rcases h with h |⟨q,h⟩
   ·exact .inl (by rw[upd_ne nb];exact h)
   ·exact .inr ⟨q,by rw[upd_ne nb];exact h⟩
  ·by_cases ea:a=p
   ·rw[ea,upd_same] at z;cases z
   ·rw[upd_ne ea] at z;exact z
 have h1:i < ρ.length:=(z1b hi).1;obtain⟨hH0,hO0⟩:=j.mine i e0 p hi h0 hp;refine⟨⟨λ b q z=>?_,j.dJ.trans r1,j.sub,⟨⟨λ k e h=>?_,λ k l e e' v hkl hk' hl ok ol sk sl=>?_⟩,λ a z=>?_,j.inn.len,by rw[List.length_set];exact j.inn.m9⟩,λ k e a h hoo hs=>?_⟩,r1⟩
 ·rw[upd_ne (ne_of_none z hH0)];exact j.same _ _ z
 ·by_cases hki:k=i
  ·subst hki;rw[z2a h1] at h;cases h;exact⟨_,hp,hr r1⟩
  ·rw [z1e (Ne.symm hki)] at h;obtain⟨v,q1,q2⟩:=j.inn.env.get k e h;refine⟨v,q1,?_⟩;have nv:e.own=true->v≠.ref p:=λ z w=>by
    subst w;exact j.inn.env.sep k i e e0 _ hki h hi z h0 q1 hp
   cases e with
   |val d=>exact Rep.go r1 q2
   | obj t=>exact tD.fz (λ b o' u hb=>by
     have nb:b≠p:=λ z=>by rw[z,hu] at hb;cases hb;exact hm
     rw[upd_ne nb];exact hb) q2
   | lst ds=>
    obtain⟨a,xs,e1,o1,e2,r⟩:=q2;have na:a≠p:=λ z=>nv rfl (by rw[e1,z]);exact⟨a,xs,e1,o1,by rw[upd_ne na];exact e2,r.go r1⟩
   | za kvs=>
    obtain⟨a,xs,e1,o1,e2,kk,r⟩:=q2;have na:a≠p:=λ z=>nv rfl (by rw[e1,z]);exact⟨a,xs,e1,o1,by rw[upd_ne na];exact e2,kk,r.go r1⟩
 ·have un:∀{m:Nat} {x:Ent},(ρ.set i (some en))[m]?=some (some x)->x.own=true->∃y,ρ[m]?=some (some y)/\y.own=true:=λ {m x} h ho'=>by
   by_cases hmi:m=i
   ·rw[hmi];exact⟨e0,hi,h0⟩
   ·rw[z1e (Ne.symm hmi)] at h;exact⟨x,h,ho'⟩
  obtain⟨y,hy,oy⟩:=un hk' ok;obtain⟨y',hy',oy'⟩:=un hl ol;exact j.inn.env.sep k l y y' v hkl hy hy' oy oy' sk sl
 ·by_cases ea:a=p
  ·rw[ea];exact⟨o,upd_same⟩
  ·obtain⟨w,q⟩:=j.inn.al a z;exact⟨w,by rw[upd_ne ea];exact q⟩
 ·by_cases hki:k=i
  ·subst hki;rw[hp] at hs;cases hs;exact⟨hH0,hO0⟩
  ·rw[z1e (Ne.symm hki)] at h;exact j.mine k e a h hoo hs
def pK (i:Nat) (f:ao->R D):ao->So:=λ ρ=>fj (Cj (f ρ)) ρ λ d=>match ρ[i]? with
 |some (some (.lst ds))=>if ds.length < 1000000 then .nx (ρ.set i (some (.lst (ds++[d])))) else .bad
 |_=> .bad
theorem wk (i:Nat) {x:Str} {apos cpos:Pos} (he:DE X e f) (hN:X.N[i]?=some x:=by rfl) (hv:Vis X.env.scope x:=by first |exact Or.inl rfl |exact Or.inr (Or.inl rfl) |exact Or.inr (Or.inr rfl))
  (hd:(x ==("__debug__" :Str))=false:=by decide) (hcd:(x ==("__classdict__" :Str))=false:=by decide)
  (hbase:attributeBase (.Name x px) "append" X.env (eval (.Name x px) X.env)=eval (.Name x px) X.env:=by rfl)
  (hfew:((backTo cpos (starEach [e] X.env)).all (λ x=> !x.1) && (backToKw cpos (keywordEach [] X.env)).all (λ x=>x.1.isSome)
   && decide ([e].length+([]:List Keyword).length+(if ([]:List Keyword).isEmpty then 0 else 1) < 30))=true:=by rfl)
  (hline:(apos.endLine ==cpos.line)=true:=by rfl) (hs1:starEach [e] X.env=(false,eval e X.env)::starEach [] X.env:=by rfl) (hplain:(backTo cpos (starEach [] X.env)).any (·.1)=false:=by rfl)
  (hs:swapsWith (.Call (.Attribute (.Name x px) "append" apos) [e] [] cpos) none pos.line X.env=pure false:=by rfl):
  DS X (.Expr (.Call (.Attribute (.Name x px) "append" apos) [e] [] cpos) pos) (pK i f):=by
 refine PS.imp (ps_expr (pe_bm PySem.F.plainAttrs_list PySem.F.slot_list_append PySem.F.type_list_append mt_append (pe_var hN hv hd hcd) (pa_cons he pa_nil hs1) hbase hfew hline hs1 hplain) hs) λ σ H E h=>?_;obtain⟨H0,O0,O,ρ,j,h⟩:=h;unfold pK fj at h;cases e1:f ρ with
 |bad=>rw[e1] at h;exact h.elim
 |err c=>rw[e1] at h;exact h.elim
 | ok d =>
  rw[e1] at h;cases e2:ρ[i]? with
  |none=>simp only[e2] at h;exact h.elim
  | some oe=>
   cases oe with
   |none=>simp only[e2] at h;exact h.elim
   | some en=>
    cases en with
    |val _=>simp only[e2] at h;exact h.elim
    |za _=>simp only[e2] at h;exact h.elim
    |obj _=>simp only[e2] at h;exact h.elim
    | lst ds=>
     simp only[e2] at h;by_cases hl:ds.length < 1000000
     ·simp only[if_pos hl] at h;obtain⟨v,hv1,a,xs,rfl,hO,hH,rs⟩:=j.inn.env.get i _ e2;refine⟨.ref a,hv1,.inl ⟨rfl,xs,SqL.of hH⟩,?_⟩;refine⟨ρ,O,j.inn,?_⟩;rw[e1];intro w H1 s1 rw1;have j1:=j.grow s1;obtain⟨_,hv2,a2,xs2,e3,hO2,hH2,yO⟩:=j1.inn.env.get i _ e2;rw[hv1] at hv2;cases hv2;cases e3;have hlen:=yO.length;refine⟨a,xs2,w,rfl,rfl,hH2,by have:=gW;omega,?_⟩;obtain⟨j2,r2⟩:=j1.chg (o:= .lst (xs2++[w])) (en:= .lst (ds++[d])) e2 rfl hv1 hO2 hH2 trivial rfl λ r=>⟨a,xs2++[w],rfl,hO2,upd_same,(yO.append (.cons rw1 .nil)).go r⟩;exact h _ _ _ j2 ((Same.dJ s1).trans r2)
     ·simp only[if_neg hl] at h;exact h.elim
end
inductive SpD (K:PySem.W.Frag) (n:Nat) (F:List D->R D) (vs:List V) (H:Hp) (Q:VK):Prop
 | mk (O:Addr->Prop) (ds:List D) (r:aN K O H ds vs) (hl:ds.length=n) (al:∀a,O a->∃o,H a=some o) (h:match F ds with
  | .ok d=>∀v H',Same H H'->Rep K O H' d v->Q v H'
  |_=>False):SpD K n F vs H Q
def Fb (K:PySem.W.Frag) (n:Nat) (F:List D->R D):Sp:=λ vs H Q _=>SpD K n F vs H Q
def cj (n:Nat) (g:ao->So) (ds:List D):R D:=match g (ds.map (λ d=>some (.val d))++List.replicate n none) with
 | .rt d=> .ok d
 | .nx _=> .ok .non
 | .ex c _=> .err c
 |_=> .bad
section
variable {P:Program} {w:World} {K:PySem.W.Frag} {mg:Str->Option Value} {base:Heap}
theorem sJ {K:PySem.W.Frag} {vs:List V} (r:aN K O H ds vs) (m:Nat) (i:Nat) (e:Ent) (h:(ds.map (λ d=>some (Ent.val d))++List.replicate m none)[i]?=some (some e)):∃v,(vs.map some++List.replicate m none)[i]?=some (some v)/\qQ K O H e v/\e.own=false:=by
 by_cases hi:i < ds.length
 ·rw[List.getElem?_append_left (by simpa using hi),z2b] at h;cases q:ds[i]? with
  |none=>rw[q] at h;cases h
  | some d=>
   rw[q] at h;cases h;obtain⟨v,e1,rv⟩:=r.get q;exact⟨v,by rw[List.getElem?_append_left (by rw[z1g,<-r.length];exact hi),z2b,e1];rfl,rv,rfl⟩
 ·rw[List.getElem?_append_right (by simpa using hi),List.getElem?_replicate] at h;split at h <;> cases h
theorem fnD {x qual:Str} {st:Stmt} {f:Addr} {fd:FuncData} {ps:List Str} {k m:Nat} {g:ao->So} {F:List D->R D} (Fn:Fun K x qual st f fd) (S:FnScope N ps (defScope st)) (hn:ps.length=n) (hm:N.length=n+m)
  (hb:∀(cdv:Value) (A:Around) (outer:List PySem.Env) (s:Shared) (H:Hp) (E:XK),Room k (A.deeper (envOfC qual (defScope st) s.heap.objs.size f cdv))->lY (cxOf CX0 P w K mg base N qual (defScope st) f cdv A outer s H E).nox (defBody st) g)
  (hF:∀ds d,ds.length=n->F ds= .ok d->cj m g ds= .ok d):FnOk P w K mg base CX0 (k+1) f fd ps (Fb K n F):=by
 refine Fn.ok S (λ vs H Q E h=>?_) (λ cdv A outer s H vs Q E hr h=>?_)
 ·obtain⟨O,ds,r,hl,_⟩:=h;rw[hn,<-hl,r.length]
 ·obtain⟨O,ds,r,hl,al,h⟩:=h;refine⟨_,hb cdv A outer s H E hr,H,O,O,ds.map (λ d=>some (.val d))++List.replicate m none,?_,?_⟩
  ·have hst:L2.start N vs=vs.map some++List.replicate m none:=by
    unfold L2.start;rw[show N.length - vs.length=m by rw[<-r.length];omega]
   refine⟨Same.refl _,.refl,λ _ z=>z,⟨⟨λ i e q=>?_,λ i k e e' v _ hi _ oi=>?_⟩,al,?_,?_⟩,λ i e a q ho=>?_⟩
   ·obtain⟨v,h1,h2,_⟩:=sJ r m i e q;exact⟨v,by rw[hst];exact h1,h2⟩
   ·obtain⟨_,_,_,h3⟩:=sJ r m i e hi;rw[h3] at oi;cases oi
   ·show (L2.start N vs).length=N.length;rw[hst,z1d,z1g,List.length_replicate,<-r.length];omega
   ·show (ds.map (λ d=>some (Ent.val d))++List.replicate m none).length=N.length;rw[z1d,z1g,List.length_replicate];omega
   ·obtain⟨_,_,_,h3⟩:=sJ r m i e q;rw[h3] at ho;cases ho
  ·cases e:F ds with
   |bad=>rw[e] at h;exact h.elim
   |err c=>rw[e] at h;exact h.elim
   | ok d=>
    rw[e] at h;have q:=hF ds d hl e;unfold cj at q;cases e2:g (ds.map (λ d=>some (.val d))++List.replicate m none) with
    | rt d'=>
     rw[e2] at q;cases q;exact λ v H' s' r'=>h v H' s' r'
    | nx ρ'=>
     rw[e2] at q;cases q;exact λ σ' H' O' j' _=>h .non H' j'.same sI
    |bk _=>rw[e2] at q;cases q
    |ct _=>rw[e2] at q;cases q
    |ex _ _=>rw[e2] at q;cases q
    |bad=>rw[e2] at q;cases q
end
section
variable {X:Cx} {k n:Nat} {f:Addr} {fd:FuncData} {ps:List Str} {F:List D->R D} {x:Str} {p pos:Pos} {e:Expr} {es:List Expr} {fa:ao->R (List D)}
def aQ (F:List D->R D) (n:Nat) (ds:List D):R D:=if ds.length=n then Cj (F ds) else .bad
theorem abr (G:FnOk X.prog X.w X.K X.mg X.base CX0 k f fd ps (Fb X.K n F)) (hr:Room k X.A) (hg:Gl X x) (hm:X.mg x=some (.ref f)) (hk:PySem.W.keepIn X.K (.ref f)=true) (hb:Binds X.K fd ps [])
  (ha:DA X (e::es) fa) (hdb:(x ==("__debug__" :Str))=false:=by decide) (he:starEach (e::es) X.env=(false,eval e X.env)::starEach es X.env:=by rfl) (hpl:(backTo pos (starEach es X.env)).any (·.1)=false:=by rfl):
  DE X (.Call (.Name x p) (e::es) [] pos) (aB (aQ F n) fa):=by
 refine PE.imp (pe_call (dvs:=[]) G hr hg hm hk hb .nil pass0 ha hdb he hpl) λ σ H Q h=>?_;obtain⟨ρ,O,j,h⟩:=h;refine go j h λ ds vs H1 e1 s1 r1 j1 h1=>?_;unfold aQ at h1;by_cases hl:ds.length=n
 ·rw[if_pos hl] at h1;rw[List.append_nil];refine⟨O,ds,r1,hl,j1.al,?_⟩;cases q:F ds with
  |ok d=>rw[q] at h1;exact h1
  |err c=>rw[q] at h1;exact h1
  |bad=>rw[q] at h1;exact h1
 ·rw[if_neg hl] at h1;exact h1.elim
end
section
variable {X:Cx}
def bZ:List D->R D
 |[.tup ds]=> .ok (.int ds.length)
 |[.lst ds]=> .ok (.int ds.length)
 |_=> .bad
theorem cF:CallD X (.builtin "len") bZ:=by
 refine⟨_,call_len_seq,λ ρ O σ H Q xs ds j r h=>?_⟩;unfold bZ at h;split at h
 ·obtain⟨x,rfl,rx⟩:=r.one;obtain⟨a,ys,rfl,hq,rs⟩:=rx.tup;exact⟨a,ys,rfl,.inr hq,by rw[<-rs.length];exact fin h (cB _)⟩
 ·obtain⟨x,rfl,rx⟩:=r.one;obtain⟨a,ys,rfl,hq,_,rs⟩:=rx.lst;exact⟨a,ys,rfl,.inl hq,by rw[<-rs.length];exact fin h (cB _)⟩
 ·exact h.elim
def nq:List D->R D
 |[.tup ds]=> .ok (.tup ds)
 |[.lst ds]=> .ok (.tup ds)
 |_=> .bad
theorem jh:CallD X (.type "tuple") nq:=by
 refine⟨_,call_tuple_of,λ ρ O σ H Q xs ds j r h=>?_⟩;unfold nq at h;split at h
 ·obtain⟨x,rfl,rx⟩:=r.one;obtain⟨a,ys,rfl,hq,rs⟩:=rx.tup;exact⟨a,ys,rfl,.inr ⟨hq,fin h (iV hq rs)⟩⟩
 ·obtain⟨x,rfl,rx⟩:=r.one;obtain⟨a,ys,rfl,hq,_,rs⟩:=rx.lst;exact⟨a,ys,rfl,.inl ⟨hq,λ l hl=>h _ _ (Same.upd hl) (Rep.pF hl rs)⟩⟩
 ·exact h.elim
def boolsOf:List D->Option (List Bool)
 |[]=>some []
 | .bl b::r=>(boolsOf r).map (b:: ·)
 |_=>none
def intsOf:List D->Option (List Int)
 |[]=>some []
 | .int i::r=>(intsOf r).map (i:: ·)
 |_=>none
theorem Rz {K:PySem.W.Frag} {O:Addr->Prop} {H:Hp}:∀{ds:List D} {bs:List Bool} {vs:List V},boolsOf ds=some bs->aN K O H ds vs->vs=bs.map V.bl
 |[],bs,vs,e,r=>by cases e;exact r.nil_inv
 | d ::ds,bs,vs,e,r=>by
  cases d with
  | bl b=>
   have e:(boolsOf ds).map (b:: ·)=some bs:=e;cases q:boolsOf ds with
   |none=>rw[q] at e;cases e
   | some l=>
    rw[q] at e;cases e;obtain⟨x,t,rfl,rx,rt⟩:=r.cons_inv;rw[rx.bl,Rz q rt];rfl
  |_=>cases e
theorem Lr {K:PySem.W.Frag} {O:Addr->Prop} {H:Hp}:∀{ds:List D} {bs:List Int} {vs:List V},intsOf ds=some bs->aN K O H ds vs->vs=bs.map V.int
 |[],bs,vs,e,r=>by cases e;exact r.nil_inv
 | d ::ds,bs,vs,e,r=>by
  cases d with
  | int b=>
   have e:(intsOf ds).map (b:: ·)=some bs:=e;cases q:intsOf ds with
   |none=>rw[q] at e;cases e
   | some l=>
    rw[q] at e;cases e;obtain⟨x,t,rfl,rx,rt⟩:=r.cons_inv;rw[rx.int,Lr q rt];rfl
  |_=>cases e
theorem Ls:∀{bs:List Bool} {us:List Value},Vals (bs.map V.bl) us->LSm.BoolsAre us bs
 |[],_,.nil=> .nil
 |b::bs,_,.cons r t=>by cases r;exact .cons b (Ls t)
theorem Wr (hc:X.calm=true):CallR X (.builtin "all") (λ xs H Q=>∃p,∃bs:List Bool,xs=[.ref p]/\SqL X.K H p (bs.map V.bl)/\Q (.bl (bs.all id)) H):=by
 intro pins s σ H xs us Q I r h;obtain⟨p,bs,rfl,hq,q⟩:=h;obtain⟨u,rfl,rx⟩:=vals1 r;cases rx;obtain⟨its,r',pl,hz⟩:=I.list hq;have hb:=Ls r';have hl:=pl.isList;have hlt:p < s.heap.objs.size:=by obtain⟨_,e,_⟩:=hl;exact z2c e
 refine call_all_walk (wpAny_pyIter_list hl ?_);refine⟨s.heap.objs.size,[s.heap.objs.size,p],[s.heap.objs.size],its.toArray.size,_,_,λ i=>(bs[i]?).getD true,rfl,Walks.list (A:=X.A.in1) (I.ok.hd hc) _ p (Nat.ne_of_lt hlt) its.toArray,
  ⟨⟨_,z1f _ rfl,rfl,rfl⟩,hl.push _⟩,λ i v s' Q' E' hP hQ=>?_,λ h' tk hk=>?_⟩
 ·obtain⟨b,e,rfl⟩:=hb.get i v (by simpa using hP);simp only[e,Option.getD_some] at hQ;exact wpAny_truthy_bool hQ
 ·have e:((List.range its.toArray.size).all λ i=>(bs[i]?).getD true)=bs.all id:=by
   rw[z1c,hb.length];exact LSm.range_all bs
  rw[e];exact⟨.bl _,H,I.kept (LSm.kept_iter hk),rfl,q⟩
def qT:List D->R D
 | [.lst ds]=>match boolsOf ds with
  |some bs=> .ok (.bl (bs.all id))
  |none=> .bad
 |_=> .bad
theorem tX (hc:X.calm=true):CallD X (.builtin "all") qT:=by
 refine⟨_,Wr hc,λ ρ O σ H Q xs ds j r h=>?_⟩;unfold qT at h;split at h
 ·rename_i ds;obtain⟨x,rfl,rx⟩:=r.one;obtain⟨a,ys,rfl,hq,_,rs⟩:=rx.lst;cases e:boolsOf ds with
  |none=>rw[e] at h;exact h.elim
  | some bs=>
   rw[e] at h;have ey:=Rz e rs;subst ey;exact⟨a,bs,rfl,hq,fin h (gM _)⟩
 ·exact h.elim
theorem Ws (hc:X.calm=true):CallR X (.builtin "sum") (λ xs H Q=>∃p,∃ns:List Int,xs=[.ref p]/\(SqL X.K H p (ns.map V.int)\/SqT X.K H p (ns.map V.int))/\Q (.int ns.sum) H):=by
 intro pins s σ H xs us Q I r h;obtain⟨p,ns,rfl,hq,q⟩:=h;obtain⟨u,rfl,rx⟩:=vals1 r;cases rx;have key:∀(its:List Value),Vals (ns.map V.int) its->∃zs:Array (Int×Tok),its.toArray=intItems zs/\preSum (numAt zs) zs.size=ns.sum:=λ its r'=>by
  have hi:=intsAre_of r';obtain⟨zs,hx⟩:=hi.allInts.items;refine⟨zs,hx,?_⟩;have e1:ns=zs.toList.map (·.1):=by
   rw[<-nums_intItems,<-hx];exact (show numsOf its.toArray.toList=ns from hi.numsOf).symm
  rw[preSum_eq,List.take_of_length_le (by simp),e1]
 rcases hq with hq |hq
 ·obtain⟨its,r',pl,hz⟩:=I.list hq;obtain⟨zs,e1,e2⟩:=key its r';refine sum_intListG (I.ok.hd hc) (e1▸pl.isList) λ h' tk t' hk=>?_;rw[e2];exact⟨.int _,H,I.kept hk,⟨t',rfl⟩,q⟩
 ·obtain⟨its,r',pl,hz⟩:=I.tuple hq;obtain⟨zs,e1,e2⟩:=key its r';refine PySem.W.ktm_sumG (I.ok.hd hc) (show s.heap.IsTuple p (intItems zs) from e1▸pl) λ h' tk t' hk=>?_;rw[e2];exact⟨.int _,H,I.kept hk,⟨t',rfl⟩,q⟩
def pL:List D->R D
 | [.lst ds]=>match intsOf ds with
  |some bs=> .ok (.int bs.sum)
  |none=> .bad
 | [.tup ds]=>match intsOf ds with
  |some bs=> .ok (.int bs.sum)
  |none=> .bad
 |_=> .bad
theorem Fd (hc:X.calm=true):CallD X (.builtin "sum") pL:=by
 refine⟨_,Ws hc,λ ρ O σ H Q xs ds j r h=>?_⟩;unfold pL at h;split at h
 ·rename_i ds;obtain⟨x,rfl,rx⟩:=r.one;obtain⟨a,ys,rfl,hq,_,rs⟩:=rx.lst;cases e:intsOf ds with
  |none=>rw[e] at h;exact h.elim
  | some bs=>
   rw[e] at h;have ey:=Lr e rs;subst ey;exact⟨a,bs,rfl,.inl hq,fin h (cB _)⟩
 ·rename_i ds;obtain⟨x,rfl,rx⟩:=r.one;obtain⟨a,ys,rfl,hq,rs⟩:=rx.tup;cases e:intsOf ds with
  |none=>rw[e] at h;exact h.elim
  | some bs=>
   rw[e] at h;have ey:=Lr e rs;subst ey;exact⟨a,bs,rfl,.inr hq,fin h (cB _)⟩
 ·exact h.elim
def lq:D->String
 | .non=> "NoneType"
 | .bl _=> "bool"
 | .int _=> "int"
 | .str _=> "str"
 | .tup _=> "tuple"
 | .lst _=> "list"
theorem Wt (T:String) (ans:String->Bool) (hk:∀d:D,PySem.W.kitOne X.K (.type (lq d)) (.type T)=some (ans (lq d))):
  CallR X (.builtin "isinstance") (λ xs H Q=>∃x O d,xs=[x,.ty T]/\Rep X.K O H d x/\Q (.bl (ans (lq d))) H):=by
 intro pins s σ H xs us Q I r h;obtain⟨x,O,d,rfl,rd,q⟩:=h;obtain⟨u,u2,rfl,rx,r2⟩:=vals2 r;cases r2;have e:=hk d;have fin':∀tk,EP X pins σ Q (.bool (ans (lq d))) {s with toks:=tk}:=λ tk=>⟨.bl _,H,I.tok _,rfl,q⟩;cases d with
 | non=>
  cases rd.non;cases (show u=Value.none from rx);exact PySem.W.kia_one PySem.W.kitx_none I.kIn True.intro e (λ z=>nomatch z) fin'
 | bl b=>
  cases rd.bl;cases (show u=Value.bool b from rx);exact PySem.W.kia_one PySem.W.kitx_bool I.kIn True.intro e (λ z=>nomatch z) fin'
 | int i=>
  cases rd.int;obtain⟨t,z⟩:=(show ∃t,u=Value.int i t from rx);cases z;exact PySem.W.kia_one PySem.W.kitx_int I.kIn True.intro e (λ z=>nomatch z) fin'
 | str y=>
  cases rd.str;obtain⟨t,z⟩:=(show ∃t,u=Value.str y t from rx);cases z;exact PySem.W.kia_one PySem.W.kitx_str I.kIn True.intro e (λ z=>nomatch z) fin'
 | tup ds=>
  obtain⟨a,ys,rfl,hq,_⟩:=rd.tup;cases (show u=Value.ref a from rx);obtain⟨its,_,pl,_⟩:=I.tuple hq;obtain⟨o,h1,h2,_⟩:=pl;exact PySem.W.kia_one PySem.W.kitx_tuple I.kIn ⟨o,h1,h2⟩ e (λ z=>nomatch z) fin'
 | lst ds=>
  obtain⟨a,ys,rfl,hq,_,_⟩:=rd.lst;cases (show u=Value.ref a from rx);obtain⟨its,_,pl,_⟩:=I.list hq;obtain⟨o,n,h1,h2,_⟩:=pl;exact PySem.W.kia_one PySem.W.kitx_list I.kIn ⟨o,h1,h2⟩ e (λ z=>nomatch z) fin'
def xP (ans:String->Bool) (f:ao->R D):ao->R D:=λ ρ=>(f ρ).bind λ d=> .ok (.bl (ans (lq d)))
theorem sO {T:String} {ans:String->Bool} {x y:Str} {e:Expr} {f:ao->R D} {p p2 pos:Pos} (hk:∀d:D,PySem.W.kitOne X.K (.type (lq d)) (.type T)=some (ans (lq d))) (he:DE X e f)
  (hg:Gl X x) (hm:X.mg x=none) (hv:bootBuiltins x=some (.builtin "isinstance")) (hgy:Gl X y) (hmy:X.mg y=none) (hvy:bootBuiltins y=some (.type T)) (hn:x≠"__name__" :=by decide) (hdb:(x ==("__debug__" :Str))=false:=by decide)
  (hny:y≠"__name__" :=by decide) (Wu:(y ==("__debug__" :Str))=false:=by decide)
  (hs:starEach [e,.Name y p2] X.env=(false,eval e X.env)::starEach [.Name y p2] X.env:=by rfl) (hs2:starEach [.Name y p2] X.env=(false,eval (.Name y p2) X.env)::starEach [] X.env:=by rfl) (hpl:(backTo pos (starEach [.Name y p2] X.env)).any (·.1)=false:=by rfl):
  DE X (.Call (.Name x p) [e,.Name y p2] [] pos) (xP ans f):=by
 refine PE.imp (pe_callB (Wt T ans hk) hg hm hv (pa_cons he (pa_cons (pe_bltn (v:= .ty T) hgy hmy hvy rfl hny Wu) pa_nil hs2) hs) hn hdb hs hpl) λ σ H Q h=>?_;obtain⟨ρ,O,j,h⟩:=h;refine go j h λ d v H1 e1 s1 r1 j1 h1=>?_;exact⟨v,O,d,rfl,r1,fin h1 (gM _)⟩
end
mutual
def fY:D->D->Bool
 | .non,.non=>true
 | .bl a,.bl b=>a ==b
 | .bl a,.int b=>(if a then 1 else 0) ==b
 | .int a,.bl b=>a ==(if b then 1 else 0)
 | .int a,.int b=>a ==b
 | .str a,.str b=>a ==b
 | .tup a,.tup b=>qU a b
 | .lst a,.lst b=>qU a b
 |_,_=>false
def qU:List D->List D->Bool
 |[],[]=>true
 |x::xs,y::ys=>fY x y && qU xs ys
 |_,_=>false
end
mutual
def dep:D->Nat
 | .tup a=>deps a+1
 | .lst a=>deps a+1
 |_=>0
def deps:List D->Nat
 |[]=>0
 |x::xs=>max (dep x) (deps xs)
end
theorem pN:∀{ds:List D} {d:D},d∈ds->dep d<=deps ds
 |[],_,h=>by simp at h
 | x::xs,d,h=>by
  rw[deps];rcases List.mem_cons.mp h with e |h
  ·subst e;exact Nat.le_max_left _ _
  ·exact z0b (pN h) (Nat.le_max_right _ _)
theorem mD (a b:Bool):fY (.bl a) (.bl b)=(a ==b):=rfl
theorem mF (a:Bool) (b:Int):fY (.bl a) (.int b)=((if a then 1 else 0) ==b):=rfl
theorem mH (a:Int) (b:Bool):fY (.int a) (.bl b)=(a ==(if b then 1 else 0)):=rfl
theorem mJ (a b:Int):fY (.int a) (.int b)=(a ==b):=rfl
theorem mK (a b:Str):fY (.str a) (.str b)=(a ==b):=rfl
theorem iJ (a b:List D):fY (.tup a) (.tup b)=qU a b:=rfl
theorem eG (a b:List D):fY (.lst a) (.lst b)=qU a b:=rfl
mutual
theorem Dv:∀d:D,fY d d=true
 | .non=>rfl
 | .bl a=>by simp[mD,mF,mH,mJ,mK,iJ,eG]
 | .int a=>by simp[mD,mF,mH,mJ,mK,iJ,eG]
 | .str a=>by simp[mD,mF,mH,mJ,mK,iJ,eG]
 | .tup a=>by rw[iJ];exact qG a
 | .lst a=>by rw[eG];exact qG a
theorem qG:∀d:List D,qU d d=true
 |[]=>rfl
 |x::xs=>by rw[qU,Dv x,qG xs];rfl
end
theorem tY:∀{xs ys:List D},xs.length≠ys.length->qU xs ys=false
 |[],[],h=>absurd rfl h
 |[],_::_,_=>rfl
 |_::_,[],_=>rfl
 | x::xs,y::ys,h=>by
  rw[qU,tY (xs:=xs) (ys:=ys) (λ e=>h (by simp[e])),Bool.and_false]
theorem tZ:∀{xs ys:List D},xs.length=ys.length->qU xs ys=(List.range xs.length).all λ i=>fY (xs.getD i .non) (ys.getD i .non)
 |[],[],_=>rfl
 |[],_::_,h=>by simp at h
 |_::_,[],h=>by simp at h
 | x::xs,y::ys,h=>by
  rw[qU,tZ (xs:=xs) (ys:=ys) (by simpa using h),List.length_cons,List.range_succ_eq_map,List.all_cons,List.all_map];rfl
end Pu
namespace Pu
open PySem PySem.Spec L2
open PyProof.Rows hiding St
open PySem.SeqAt
variable {A:Around} {d:D} {u u':Value}
inductive LkT (X:Cx) (O:Addr->Prop) (H:Hp) (s:Shared) (ds:List D) (u:Value):Prop
 |mk (a:Addr) (xs:List V) (its:List Value) (e:u=Value.ref a) (q:SqT X.K H a xs) (v:Vals xs its) (p:s.heap.IsTuple a its.toArray) (r:aN X.K O H ds xs):LkT X O H s ds u
inductive LkL (X:Cx) (O:Addr->Prop) (H:Hp) (s:Shared) (ds:List D) (u:Value):Prop
 |mk (a:Addr) (xs:List V) (its:List Value) (e:u=Value.ref a) (q:SqL X.K H a xs) (v:Vals xs its) (p:s.heap.IsList a its.toArray) (r:aN X.K O H ds xs):LkL X O H s ds u
def Lk (X:Cx) (O:Addr->Prop) (H:Hp) (s:Shared):D->Value->Prop
 | .non,u=>u=Value.none
 | .bl b,u=>u=Value.bool b
 | .int i,u=>∃t,u=Value.int i t
 | .str x,u=>∃t,u=Value.str x t
 | .tup ds,u=>LkT X O H s ds u
 | .lst ds,u=>LkL X O H s ds u
section
variable {X:Cx} {pins:List (Addr×Obj)} {σ:St} {H:Hp} {s:Shared} {O O':Addr->Prop}
theorem uX (I:Inv X pins σ H s) {v:V} (r:Rep X.K O H d v) (q:RelV v u):Lk X O H s d u:=by
 cases d with
 |non=>cases r.non;exact q
 |bl b=>cases r.bl;exact q
 |int i=>cases r.int;exact q
 |str x=>cases r.str;exact q
 | tup ds=>
  obtain⟨a,xs,rfl,hq,rs⟩:=r.tup;cases (show u=Value.ref a from q);obtain⟨its,rv,p,_⟩:=I.tuple hq;exact⟨a,xs,its,rfl,hq,rv,p,rs⟩
 | lst ds=>
  obtain⟨a,xs,rfl,hq,_,rs⟩:=r.lst;cases (show u=Value.ref a from q);obtain⟨its,rv,p,_⟩:=I.list hq;exact⟨a,xs,its,rfl,hq,rv,p.isList,rs⟩
theorem isTuple_list {a:Addr} {p q:Array Value} (h1:s.heap.IsTuple a p) (h2:s.heap.IsList a q):False:=ne_of_list_tuple h2 h1 rfl
mutual
theorem Rep.inj (I:Inv X pins σ H s):∀(d e:D) (v:V),Rep X.K O H d v->Rep X.K O' H e v->d=e
 | .non,e,v,r,q=>by
  cases r.non;cases e with
  |non=>rfl
  |bl _=>cases q.bl
  |int _=>cases q.int
  |str _=>cases q.str
  |tup _=>obtain⟨_,_,z,_⟩:=q.tup;cases z
  |lst _=>obtain⟨_,_,z,_⟩:=q.lst;cases z
 | .bl b,e,v,r,q=>by
  cases r.bl;cases e with
  |non=>cases q.non
  |bl _=>cases q.bl;rfl
  |int _=>cases q.int
  |str _=>cases q.str
  |tup _=>obtain⟨_,_,z,_⟩:=q.tup;cases z
  |lst _=>obtain⟨_,_,z,_⟩:=q.lst;cases z
 | .int b,e,v,r,q=>by
  cases r.int;cases e with
  |non=>cases q.non
  |bl _=>cases q.bl
  |int _=>cases q.int;rfl
  |str _=>cases q.str
  |tup _=>obtain⟨_,_,z,_⟩:=q.tup;cases z
  |lst _=>obtain⟨_,_,z,_⟩:=q.lst;cases z
 | .str b,e,v,r,q=>by
  cases r.str;cases e with
  |non=>cases q.non
  |bl _=>cases q.bl
  |int _=>cases q.int
  |str _=>cases q.str;rfl
  |tup _=>obtain⟨_,_,z,_⟩:=q.tup;cases z
  |lst _=>obtain⟨_,_,z,_⟩:=q.lst;cases z
 | .tup ds,e,v,r,q=>by
  obtain⟨a,xs,rfl,hq,rs⟩:=r.tup;cases e with
  |non=>cases q.non
  |bl _=>cases q.bl
  |int _=>cases q.int
  |str _=>cases q.str
  | tup es=>
   obtain⟨b,ys,z,hq',rs'⟩:=q.tup;cases z;cases I.tuple_inj hq hq';rw[aN.inj I ds es xs rs rs']
  | lst es=>
   obtain⟨b,ys,z,hq',_,rs'⟩:=q.lst;cases z;obtain⟨_,_,p1,_⟩:=I.tuple hq;obtain⟨_,_,p2,_⟩:=I.list hq';exact (isTuple_list p1 p2.isList).elim
 | .lst ds,e,v,r,q=>by
  obtain⟨a,xs,rfl,hq,_,rs⟩:=r.lst;cases e with
  |non=>cases q.non
  |bl _=>cases q.bl
  |int _=>cases q.int
  |str _=>cases q.str
  | tup es=>
   obtain⟨b,ys,z,hq',rs'⟩:=q.tup;cases z;obtain⟨_,_,p1,_⟩:=I.tuple hq';obtain⟨_,_,p2,_⟩:=I.list hq;exact (isTuple_list p1 p2.isList).elim
  | lst es=>
   obtain⟨b,ys,z,hq',_,rs'⟩:=q.lst;cases z;cases I.list_inj hq hq';rw[aN.inj I ds es xs rs rs']
theorem aN.inj (I:Inv X pins σ H s):∀(ds es:List D) (vs:List V),aN X.K O H ds vs->aN X.K O' H es vs->ds=es
 | [],es,vs,r,q=>by
  rw[r.nil_inv] at q;cases es with
  |nil=>rfl
  |cons e es=>obtain⟨_,_,z,_⟩:=q.cons_inv;cases z
 | d ::ds,es,vs,r,q=>by
  obtain⟨x,t,rfl,rx,rt⟩:=r.cons_inv;cases es with
  |nil=>cases q.nil_inv
  | cons e es=>
   obtain⟨_,_,z,qx,qt⟩:=q.cons_inv;cases z;rw[Rep.inj I d e x rx qx,aN.inj I ds es t rt qt]
end
theorem pO {ds es:List D} {xs ys:List V} {its jts:List Value} (r1:aN X.K O H ds xs) (r2:aN X.K O' H es ys) (v1:Vals xs its) (v2:Vals ys jts)
  (ih:∀d∈ds,∀(e:D) (v w:V) (u u':Value),Rep X.K O H d v->Rep X.K O' H e w->RelV v u->RelV w u'->EqAt A s u u' (fY d e)):
  ∀j (h1:j < its.toArray.size) (h2:j < jts.toArray.size),EqAt A s its.toArray[j] jts.toArray[j] (fY (ds.getD j .non) (es.getD j .non)):=by
 intro j h1 h2;have e1:its[j]?=some its.toArray[j]:=by simp
 have e2:jts[j]?=some jts.toArray[j]:=by simp
 have l1:=v1.length;have l2:=v2.length;have k1:=r1.length;have k2:=r2.length;simp only[z1c] at h1 h2;obtain⟨v,ev,rv⟩:∃v,xs[j]?=some v/\RelV v its.toArray[j]:=by
  have hj:j < xs.length:=by omega
  obtain⟨u,eu,ru⟩:=v1.get (i:=j) (x:=xs[j]) (by simp[hj]);rw[e1] at eu;cases eu;exact⟨_,by simp[hj],ru⟩
 obtain⟨w,ew,rw'⟩:∃v,ys[j]?=some v/\RelV v jts.toArray[j]:=by
  have hj:j < ys.length:=by omega
  obtain⟨u,eu,ru⟩:=v2.get (i:=j) (x:=ys[j]) (by simp[hj]);rw[e2] at eu;cases eu;exact⟨_,by simp[hj],ru⟩
 obtain⟨d,ed,rd⟩:=r1.bL ev;obtain⟨e,ee,re⟩:=r2.bL ew;have g1:ds.getD j .non=d:=by simp[List.getD,ed]
 have g2:es.getD j .non=e:=by simp[List.getD,ee]
 rw[g1,g2];exact ih d (List.mem_of_getElem? ed) e v w _ _ rd re rv rw'
theorem Dw {ds es:List D} {n m:Nat} (hn:ds.length=n) (hm:es.length=m):((List.range (min n m)).all (λ j=>fY (ds.getD j .non) (es.getD j .non)) && n ==m)=qU ds es:=by
 by_cases h:n=m
 ·subst h;rw[Nat.min_self,beq_self_eq_true,Bool.and_true,tZ (by rw[hn,hm]),hn]
 ·rw[tY (by rw[hn,hm];exact h),show (n ==m)=false by simpa using h,Bool.and_false]
theorem Lw (I:Inv X pins σ H s) (hu:A.units < cLine) {e:D} (h1:Lk X O H s d u) (h2:Lk X O' H s e u')
  (ih:∀c∈(match d with | .tup ds=>ds | .lst ds=>ds |_=>[]),∀(e:D) (v w:V) (u u':Value),Rep X.K O H c v->Rep X.K O' H e w->RelV v u->RelV w u'->EqAt A.in1 s u u' (fY c e)):EqAt A s u u' (fY d e):=by
 cases d with
 | non=>
  cases h1;cases e with
  | non=>
   cases h2;exact EqAt.same _
  | bl b=>
   cases h2;exact EqAt.none_bool _
  | int b=>
   obtain⟨t2,rfl⟩:=h2;exact EqAt.none_int _ _
  | str b=>
   obtain⟨t2,rfl⟩:=h2;exact EqAt.none_str _ _
  | tup es=>
   obtain⟨p2,ys,jts,rfl,hq2,v2,hp2,r2⟩:=h2;exact EqAt.none_tuple hp2 hu
  | lst es=>
   obtain⟨p2,ys,jts,rfl,hq2,v2,hp2,r2⟩:=h2;exact EqAt.none_list hp2 hu
 | bl a=>
  cases h1;cases e with
  | non=>
   cases h2;exact EqAt.bool_none _
  | bl b=>
   cases h2;exact EqAt.bool_bool _ _
  | int b=>
   obtain⟨t2,rfl⟩:=h2;exact EqAt.bool_int _ _ _
  | str b=>
   obtain⟨t2,rfl⟩:=h2;exact EqAt.bool_str _ _ _
  | tup es=>
   obtain⟨p2,ys,jts,rfl,hq2,v2,hp2,r2⟩:=h2;exact EqAt.bool_tuple _ hp2 hu
  | lst es=>
   obtain⟨p2,ys,jts,rfl,hq2,v2,hp2,r2⟩:=h2;exact EqAt.bool_list _ hp2 hu
 | int a=>
  obtain⟨t1,rfl⟩:=h1;cases e with
  | non=>
   cases h2;exact EqAt.int_none _ _
  | bl b=>
   cases h2;exact EqAt.int_bool _ _ _
  | int b=>
   obtain⟨t2,rfl⟩:=h2;exact EqAt.int_int _ _ _ _
  | str b=>
   obtain⟨t2,rfl⟩:=h2;exact EqAt.int_str _ _ _ _
  | tup es=>
   obtain⟨p2,ys,jts,rfl,hq2,v2,hp2,r2⟩:=h2;exact EqAt.int_tuple _ _ hp2 hu
  | lst es=>
   obtain⟨p2,ys,jts,rfl,hq2,v2,hp2,r2⟩:=h2;exact EqAt.int_list _ _ hp2 hu
 | str a=>
  obtain⟨t1,rfl⟩:=h1;cases e with
  | non=>
   cases h2;exact EqAt.str_none _ _
  | bl b=>
   cases h2;exact EqAt.str_bool _ _ _
  | int b=>
   obtain⟨t2,rfl⟩:=h2;exact EqAt.str_int _ _ _ _
  | str b=>
   obtain⟨t2,rfl⟩:=h2;exact EqAt.str_str _ _ _ _
  | tup es=>
   obtain⟨p2,ys,jts,rfl,hq2,v2,hp2,r2⟩:=h2;exact EqAt.str_tuple _ _ hp2 hu
  | lst es=>
   obtain⟨p2,ys,jts,rfl,hq2,v2,hp2,r2⟩:=h2;exact EqAt.str_list _ _ hp2 hu
 | tup ds=>
  obtain⟨p1,xs,its,rfl,hq1,v1,hp1,r1⟩:=h1;cases e with
  | non=>
   cases h2;exact EqAt.tuple_none hp1 hu
  | bl b=>
   cases h2;exact EqAt.tuple_bool _ hp1 hu
  | int b=>
   obtain⟨t2,rfl⟩:=h2;exact EqAt.tuple_int _ _ hp1 hu
  | str b=>
   obtain⟨t2,rfl⟩:=h2;exact EqAt.tuple_str _ _ hp1 hu
  | tup es=>
   obtain⟨p2,ys,jts,rfl,hq2,v2,hp2,r2⟩:=h2;by_cases hne:p1=p2
   ·subst hne;cases I.tuple_inj hq1 hq2;rw[iJ,aN.inj I ds es xs r1 r2,qG];exact EqAt.same _
   ·have q:=EqAt.of_refs hne (RcAt.tuples hp1 hp2 hu (pO r1 r2 v1 v2 ih));simp only[z1c] at q;rw[Dw (r1.length.trans v1.length) (r2.length.trans v2.length)] at q;rw[iJ];exact q
  | lst es=>
   obtain⟨p2,ys,jts,rfl,hq2,v2,hp2,r2⟩:=h2;exact EqAt.tuple_list hp1 hp2 hu
 | lst ds=>
  obtain⟨p1,xs,its,rfl,hq1,v1,hp1,r1⟩:=h1;cases e with
  | non=>
   cases h2;exact EqAt.list_none hp1 hu
  | bl b=>
   cases h2;exact EqAt.list_bool _ hp1 hu
  | int b=>
   obtain⟨t2,rfl⟩:=h2;exact EqAt.list_int _ _ hp1 hu
  | str b=>
   obtain⟨t2,rfl⟩:=h2;exact EqAt.list_str _ _ hp1 hu
  | tup es=>
   obtain⟨p2,ys,jts,rfl,hq2,v2,hp2,r2⟩:=h2;exact EqAt.list_tuple hp1 hp2 hu
  | lst es=>
   obtain⟨p2,ys,jts,rfl,hq2,v2,hp2,r2⟩:=h2;by_cases hne:p1=p2
   ·subst hne;cases I.list_inj hq1 hq2;rw[eG,aN.inj I ds es xs r1 r2,qG];exact EqAt.same _
   ·by_cases hz:ds.length=es.length
    ·have q:=EqAt.of_refs hne (RcAt.lists hp1 hp2 (by simp only[z1c];rw[<-v1.length,<-v2.length,<-r1.length,<-r2.length];exact hz) hu (pO r1 r2 v1 v2 ih));rw[z1c,<-v1.length,<-r1.length,<-tZ hz] at q;rw[eG];exact q
    ·rw[eG,tY hz];exact EqAt.of_refs hne (RcAt.lists_lengths hp1 hp2 (by simp only[z1c];rw[<-v1.length,<-v2.length,<-r1.length,<-r2.length];simpa using hz) hu)
theorem Zi (I:Inv X pins σ H s) (hu:A.units < cLine) {e:D} (h1:Lk X O H s d u) (h2:Lk X O' H s e u')
  (ih:∀c∈(match d with | .tup ds=>ds | .lst ds=>ds |_=>[]),∀(e:D) (v w:V) (u u':Value),Rep X.K O H c v->Rep X.K O' H e w->RelV v u->RelV w u'->EqAt A.in1 s u u' (fY c e)):RcAt A s u u' (fY d e):=by
 cases d with
 | non=>
  cases h1;cases e with
  | non=>
   cases h2;exact RcAt.none_none
  | bl b=>
   cases h2;exact RcAt.none_bool _
  | int b=>
   obtain⟨t2,rfl⟩:=h2;exact RcAt.none_int _ _
  | str b=>
   obtain⟨t2,rfl⟩:=h2;exact RcAt.none_str _ _
  | tup es=>
   obtain⟨p2,ys,jts,rfl,hq2,v2,hp2,r2⟩:=h2;exact RcAt.none_tuple hp2 hu
  | lst es=>
   obtain⟨p2,ys,jts,rfl,hq2,v2,hp2,r2⟩:=h2;exact RcAt.none_list hp2 hu
 | bl a=>
  cases h1;cases e with
  | non=>
   cases h2;exact RcAt.bool_none _
  | bl b=>
   cases h2;exact RcAt.bool_bool _ _
  | int b=>
   obtain⟨t2,rfl⟩:=h2;exact RcAt.bool_int _ _ _
  | str b=>
   obtain⟨t2,rfl⟩:=h2;exact RcAt.bool_str _ _ _
  | tup es=>
   obtain⟨p2,ys,jts,rfl,hq2,v2,hp2,r2⟩:=h2;exact RcAt.bool_tuple _ hp2 hu
  | lst es=>
   obtain⟨p2,ys,jts,rfl,hq2,v2,hp2,r2⟩:=h2;exact RcAt.bool_list _ hp2 hu
 | int a=>
  obtain⟨t1,rfl⟩:=h1;cases e with
  | non=>
   cases h2;exact RcAt.int_none _ _
  | bl b=>
   cases h2;exact RcAt.int_bool _ _ _
  | int b=>
   obtain⟨t2,rfl⟩:=h2;exact RcAt.int_int _ _ _ _
  | str b=>
   obtain⟨t2,rfl⟩:=h2;exact RcAt.int_str _ _ _ _
  | tup es=>
   obtain⟨p2,ys,jts,rfl,hq2,v2,hp2,r2⟩:=h2;exact RcAt.int_tuple _ _ hp2 hu
  | lst es=>
   obtain⟨p2,ys,jts,rfl,hq2,v2,hp2,r2⟩:=h2;exact RcAt.int_list _ _ hp2 hu
 | str a=>
  obtain⟨t1,rfl⟩:=h1;cases e with
  | non=>
   cases h2;exact RcAt.str_none _ _
  | bl b=>
   cases h2;exact RcAt.str_bool _ _ _
  | int b=>
   obtain⟨t2,rfl⟩:=h2;exact RcAt.str_int _ _ _ _
  | str b=>
   obtain⟨t2,rfl⟩:=h2;exact RcAt.str_str _ _ _ _
  | tup es=>
   obtain⟨p2,ys,jts,rfl,hq2,v2,hp2,r2⟩:=h2;exact RcAt.str_tuple _ _ hp2 hu
  | lst es=>
   obtain⟨p2,ys,jts,rfl,hq2,v2,hp2,r2⟩:=h2;exact RcAt.str_list _ _ hp2 hu
 | tup ds=>
  obtain⟨p1,xs,its,rfl,hq1,v1,hp1,r1⟩:=h1;cases e with
  | non=>
   cases h2;exact RcAt.tuple_none hp1 hu
  | bl b=>
   cases h2;exact RcAt.tuple_bool _ hp1 hu
  | int b=>
   obtain⟨t2,rfl⟩:=h2;exact RcAt.tuple_int _ _ hp1 hu
  | str b=>
   obtain⟨t2,rfl⟩:=h2;exact RcAt.tuple_str _ _ hp1 hu
  | tup es=>
   obtain⟨p2,ys,jts,rfl,hq2,v2,hp2,r2⟩:=h2;have q:=RcAt.tuples hp1 hp2 hu (pO r1 r2 v1 v2 ih);simp only[z1c] at q;rw[Dw (r1.length.trans v1.length) (r2.length.trans v2.length)] at q;rw[iJ];exact q
  | lst es=>
   obtain⟨p2,ys,jts,rfl,hq2,v2,hp2,r2⟩:=h2;exact RcAt.tuple_list hp1 hp2 hu
 | lst ds=>
  obtain⟨p1,xs,its,rfl,hq1,v1,hp1,r1⟩:=h1;cases e with
  | non=>
   cases h2;exact RcAt.list_none hp1 hu
  | bl b=>
   cases h2;exact RcAt.list_bool _ hp1 hu
  | int b=>
   obtain⟨t2,rfl⟩:=h2;exact RcAt.list_int _ _ hp1 hu
  | str b=>
   obtain⟨t2,rfl⟩:=h2;exact RcAt.list_str _ _ hp1 hu
  | tup es=>
   obtain⟨p2,ys,jts,rfl,hq2,v2,hp2,r2⟩:=h2;exact RcAt.list_tuple hp1 hp2 hu
  | lst es=>
   obtain⟨p2,ys,jts,rfl,hq2,v2,hp2,r2⟩:=h2;by_cases hz:ds.length=es.length
   ·have q:=RcAt.lists hp1 hp2 (by simp only[z1c];rw[<-v1.length,<-v2.length,<-r1.length,<-r2.length];exact hz) hu (pO r1 r2 v1 v2 ih);rw[z1c,<-v1.length,<-r1.length,<-tZ hz] at q;rw[eG];exact q
   ·rw[eG,tY hz];exact RcAt.lists_lengths hp1 hp2 (by simp only[z1c];rw[<-v1.length,<-v2.length,<-r1.length,<-r2.length];simpa using hz) hu
theorem Zj (I:Inv X pins σ H s) (hu:A.units < cLine) {e:D} (h1:Lk X O H s d u) (h2:Lk X O' H s e u')
  (ih:∀c∈(match d with | .tup ds=>ds | .lst ds=>ds |_=>[]),∀(e:D) (v w:V) (u u':Value),Rep X.K O H c v->Rep X.K O' H e w->RelV v u->RelV w u'->EqAt A.in1 s u u' (fY c e)):RcNeAt A s u u' (!fY d e):=by
 cases d with
 | non=>
  cases h1;cases e with
  | non=>
   cases h2;exact RcNeAt.none_none
  | bl b=>
   cases h2;exact RcNeAt.none_bool _
  | int b=>
   obtain⟨t2,rfl⟩:=h2;exact RcNeAt.none_int _ _
  | str b=>
   obtain⟨t2,rfl⟩:=h2;exact RcNeAt.none_str _ _
  | tup es=>
   obtain⟨p2,ys,jts,rfl,hq2,v2,hp2,r2⟩:=h2;exact RcNeAt.none_tuple hp2 hu
  | lst es=>
   obtain⟨p2,ys,jts,rfl,hq2,v2,hp2,r2⟩:=h2;exact RcNeAt.none_list hp2 hu
 | bl a=>
  cases h1;cases e with
  | non=>
   cases h2;exact RcNeAt.bool_none _
  | bl b=>
   cases h2;exact RcNeAt.bool_bool _ _
  | int b=>
   obtain⟨t2,rfl⟩:=h2;exact RcNeAt.bool_int _ _ _
  | str b=>
   obtain⟨t2,rfl⟩:=h2;exact RcNeAt.bool_str _ _ _
  | tup es=>
   obtain⟨p2,ys,jts,rfl,hq2,v2,hp2,r2⟩:=h2;exact RcNeAt.bool_tuple _ hp2 hu
  | lst es=>
   obtain⟨p2,ys,jts,rfl,hq2,v2,hp2,r2⟩:=h2;exact RcNeAt.bool_list _ hp2 hu
 | int a=>
  obtain⟨t1,rfl⟩:=h1;cases e with
  | non=>
   cases h2;exact RcNeAt.int_none _ _
  | bl b=>
   cases h2;exact RcNeAt.int_bool _ _ _
  | int b=>
   obtain⟨t2,rfl⟩:=h2;exact RcNeAt.int_int _ _ _ _
  | str b=>
   obtain⟨t2,rfl⟩:=h2;exact RcNeAt.int_str _ _ _ _
  | tup es=>
   obtain⟨p2,ys,jts,rfl,hq2,v2,hp2,r2⟩:=h2;exact RcNeAt.int_tuple _ _ hp2 hu
  | lst es=>
   obtain⟨p2,ys,jts,rfl,hq2,v2,hp2,r2⟩:=h2;exact RcNeAt.int_list _ _ hp2 hu
 | str a=>
  obtain⟨t1,rfl⟩:=h1;cases e with
  | non=>
   cases h2;exact RcNeAt.str_none _ _
  | bl b=>
   cases h2;exact RcNeAt.str_bool _ _ _
  | int b=>
   obtain⟨t2,rfl⟩:=h2;exact RcNeAt.str_int _ _ _ _
  | str b=>
   obtain⟨t2,rfl⟩:=h2;exact RcNeAt.str_str _ _ _ _
  | tup es=>
   obtain⟨p2,ys,jts,rfl,hq2,v2,hp2,r2⟩:=h2;exact RcNeAt.str_tuple _ _ hp2 hu
  | lst es=>
   obtain⟨p2,ys,jts,rfl,hq2,v2,hp2,r2⟩:=h2;exact RcNeAt.str_list _ _ hp2 hu
 | tup ds=>
  obtain⟨p1,xs,its,rfl,hq1,v1,hp1,r1⟩:=h1;cases e with
  | non=>
   cases h2;exact RcNeAt.tuple_none hp1 hu
  | bl b=>
   cases h2;exact RcNeAt.tuple_bool _ hp1 hu
  | int b=>
   obtain⟨t2,rfl⟩:=h2;exact RcNeAt.tuple_int _ _ hp1 hu
  | str b=>
   obtain⟨t2,rfl⟩:=h2;exact RcNeAt.tuple_str _ _ hp1 hu
  | tup es=>
   obtain⟨p2,ys,jts,rfl,hq2,v2,hp2,r2⟩:=h2;have q:=RcNeAt.tuples hp1 hp2 hu (pO r1 r2 v1 v2 ih);simp only[z1c] at q;rw[Dw (r1.length.trans v1.length) (r2.length.trans v2.length)] at q;rw[iJ];exact q
  | lst es=>
   obtain⟨p2,ys,jts,rfl,hq2,v2,hp2,r2⟩:=h2;exact RcNeAt.tuple_list hp1 hp2 hu
 | lst ds=>
  obtain⟨p1,xs,its,rfl,hq1,v1,hp1,r1⟩:=h1;cases e with
  | non=>
   cases h2;exact RcNeAt.list_none hp1 hu
  | bl b=>
   cases h2;exact RcNeAt.list_bool _ hp1 hu
  | int b=>
   obtain⟨t2,rfl⟩:=h2;exact RcNeAt.list_int _ _ hp1 hu
  | str b=>
   obtain⟨t2,rfl⟩:=h2;exact RcNeAt.list_str _ _ hp1 hu
  | tup es=>
   obtain⟨p2,ys,jts,rfl,hq2,v2,hp2,r2⟩:=h2;exact RcNeAt.list_tuple hp1 hp2 hu
  | lst es=>
   obtain⟨p2,ys,jts,rfl,hq2,v2,hp2,r2⟩:=h2;by_cases hz:ds.length=es.length
   ·have q:=RcNeAt.lists hp1 hp2 (by simp only[z1c];rw[<-v1.length,<-v2.length,<-r1.length,<-r2.length];exact hz) hu (pO r1 r2 v1 v2 ih);rw[z1c,<-v1.length,<-r1.length,<-tZ hz] at q;rw[eG];exact q
   ·rw[eG,tY hz];exact RcNeAt.lists_lengths hp1 hp2 (by simp only[z1c];rw[<-v1.length,<-v2.length,<-r1.length,<-r2.length];simpa using hz) hu
theorem Lx (I:Inv X pins σ H s):∀(n:Nat) (A:Around) (d:D),dep d<=n->A.units+n < cLine->∀(e:D) (v w:V) (u u':Value),Rep X.K O H d v->Rep X.K O' H e w->RelV v u->RelV w u'->EqAt A s u u' (fY d e):=by
 intro n
 induction n with
 | zero=>
  intro A d hd hu e v w u u' r1 r2 q1 q2;refine Lw I (by omega) (uX I r1 q1) (uX I r2 q2) λ c hc=>?_;cases d with
  |tup ds=>rw[dep] at hd;omega
  |lst ds=>rw[dep] at hd;omega
  |_=>simp at hc
 | succ n ihn=>
  intro A d hd hu e v w u u' r1 r2 q1 q2;refine Lw I (by omega) (uX I r1 q1) (uX I r2 q2) λ c hc=>?_;have hc':dep c<=n:=by
   cases d with
   |tup ds=>rw[dep] at hd;have:=pN (ds:=ds) hc;omega
   |lst ds=>rw[dep] at hd;have:=pN (ds:=ds) hc;omega
   |_=>simp at hc
  exact ihn A.in1 c hc' (by show A.units+1+n < cLine;omega)
end
def pA (d e:D):R D:=if dep d<=40 then .ok (.bl (fY d e)) else .bad
def kh (d e:D):R D:=if dep d<=40 then .ok (.bl (!fY d e)) else .bad
section
variable {X:Cx}
theorem adt (hu:X.A.units+60 < cLine):OpR X (compareOp .Eq) (λ x y H Q=>∃O O' d e,Rep X.K O H d x/\Rep X.K O' H e y/\dep d<=40/\Q (.bl (fY d e)) H):=by
 intro pins s σ H x y v u Q I rx ry h;obtain⟨O,O',d,e,r1,r2,hd,q⟩:=h;refine Zi I (show X.A.units < cLine by omega) (uX I r1 rx) (uX I r2 ry) (λ c hc=>?_) X.prog X.w X.xe _ ⟨.bl _,H,I,rfl,q⟩;have hc':dep c<=40:=by
  cases d with
  |tup ds=>rw[dep] at hd;have:=pN (ds:=ds) hc;omega
  |lst ds=>rw[dep] at hd;have:=pN (ds:=ds) hc;omega
  |_=>simp at hc
 exact Lx I 40 X.A.in1 c hc' (by show X.A.units+1+40 < cLine;omega)
theorem adu (hu:X.A.units+60 < cLine):OpR X (compareOp .NotEq) (λ x y H Q=>∃O O' d e,Rep X.K O H d x/\Rep X.K O' H e y/\dep d<=40/\Q (.bl (!fY d e)) H):=by
 intro pins s σ H x y v u Q I rx ry h;obtain⟨O,O',d,e,r1,r2,hd,q⟩:=h;refine Zj I (show X.A.units < cLine by omega) (uX I r1 rx) (uX I r2 ry) (λ c hc=>?_) X.prog X.w X.xe _ ⟨.bl _,H,I,rfl,q⟩;have hc':dep c<=40:=by
  cases d with
  |tup ds=>rw[dep] at hd;have:=pN (ds:=ds) hc;omega
  |lst ds=>rw[dep] at hd;have:=pN (ds:=ds) hc;omega
  |_=>simp at hc
 exact Lx I 40 X.A.in1 c hc' (by show X.A.units+1+40 < cLine;omega)
theorem Bq (hu:X.A.units+60 < cLine):jt X (compareOp .Eq) pA:=by
 refine⟨_,adt hu,λ ρ O σ H Q x y dx dy j rx ry h=>?_⟩;unfold pA at h;by_cases hd:dep dx<=40
 ·rw[if_pos hd] at h;exact⟨O,O,dx,dy,rx,ry,hd,fin h (gM _)⟩
 ·rw[if_neg hd] at h;exact h.elim
theorem uY (hu:X.A.units+60 < cLine):jt X (compareOp .NotEq) kh:=by
 refine⟨_,adu hu,λ ρ O σ H Q x y dx dy j rx ry h=>?_⟩;unfold kh at h;by_cases hd:dep dx<=40
 ·rw[if_pos hd] at h;exact⟨O,O,dx,dy,rx,ry,hd,fin h (gM _)⟩
 ·rw[if_neg hd] at h;exact h.elim
end
end Pu
namespace Pu
open PySem PySem.Spec L2
open PyProof.Rows hiding St
section
variable {prog:Program} {w:World} {A:Around} {E:Value->Shared->Prop} {s:Shared}
theorem Dy {sl:Addr} {u:Tok} {n:Nat} {Q:Int×Int×Nat->Shared->Prop} (hs:s.heap.IsSliceOf sl .none .none (.int (-1) u)) (h:Q ((n:Int) - 1,-1,n) s):
  wpAny (model prog w) A (Builtin.Slice.sliceApplied (.ref sl) (pure (n:Int))) Q E s:=by
 obtain⟨os,hos,hcs,hds⟩:=id hs;unfold Builtin.Slice.sliceApplied Builtin.Slice.sliceFields;refine wpAny_bind (wpAny_bind (wpAny_field hos hds (x:= .none) rfl (wpAny_bind (wpAny_field hos hds (x:= .none) rfl (wpAny_bind (wpAny_field hos hds (x:= .int (-1) u) rfl (wpAny_pure ?_)))))));refine wpAny_bind (slicePart_int ?_);show wpAny _ _ (if ((-1:Int) ==0)=true then _ else _) _ _ s;rw[if_neg (by decide)];refine wpAny_bind (slicePart_none (wpAny_bind (slicePart_none (wpAny_bind (wpAny_pure ?_)))));show wpAny _ _ (match Builtin.Slice.sliceAdjust none none (-1) (n:Int) with |(lo,hi)=>pure (lo,(-1:Int),Builtin.Slice.slicePlaces lo hi (-1))) _ _ s;have e1:Builtin.Slice.sliceAdjust none none (-1) (n:Int)=((n:Int) - 1,-1):=by simp[Builtin.Slice.sliceAdjust]
 rw[e1];show wpAny _ _ (pure ((n:Int) - 1,(-1:Int),Builtin.Slice.slicePlaces ((n:Int) - 1) (-1) (-1))) _ _ s;have e2:Builtin.Slice.slicePlaces ((n:Int) - 1) (-1) (-1)=n:=by
  unfold Builtin.Slice.slicePlaces;rw[if_neg (by decide)];by_cases hn:n=0
  ·subst hn;rfl
  ·rw[if_pos (by omega),show (-(-1):Int)=1 by decide,Int.ediv_one];omega
 rw[e2];exact wpAny_pure h
theorem Zk (xs:Array Value):((List.range xs.size).filterMap λ (m:Nat)=>xs[((xs.size:Int) - 1+(m:Int)*(-1)).toNat]?).toArray=xs.toList.reverse.toArray:=by
 congr 1;apply List.ext_getElem?;intro i;by_cases hi:i < xs.size
 ·rw [List.getElem?_reverse (by simpa using hi)];have key:∀(l:List Nat),(∀m∈l,m < xs.size)->l.filterMap (λ (m:Nat)=>xs[((xs.size:Int) - 1+(m:Int)*(-1)).toNat]?)=l.map λ m=>xs.getD (xs.size - 1 - m) default:=by
   intro l hl
   induction l with
   |nil=>rfl
   | cons m l ih=>
    have hm:=hl m List.mem_cons_self;have e:((xs.size:Int) - 1+(m:Int)*(-1)).toNat=xs.size - 1 - m:=by omega
    have hlt:xs.size - 1 - m < xs.size:=by omega
    rw[List.filterMap_cons,e,z1h,ih λ k hk=>hl k (z2f _ hk)];simp[hlt]
  rw[key _ (λ m hm=>z2e hm),z2b,List.getElem?_range hi];have hlt:xs.size - 1 - i < xs.size:=by omega
  simp[hlt]
 ·have h1:xs.toList.reverse[i]?=none:=List.getElem?_eq_none (by simpa using hi);rw[h1];apply List.getElem?_eq_none;exact z0b (List.length_filterMap_le _ _) (by simpa using hi)
theorem Ce {t sl:Addr} {items:Array Value} {u:Tok} {Q:Value->Shared->Prop} (ht:IsTup s.heap t items) (hs:s.heap.IsSliceOf sl .none .none (.int (-1) u))
  (h:Q (.ref s.heap.objs.size) {s with heap:=s.heap.push {cls:= .type "tuple",data:= .seq items.toList.reverse.toArray}}) (hsz:items.size<=sizeLine):wpAny (model prog w) A (getItem (.ref t) (.ref sl)) Q E s:=by
 have htake:sizeOk (.seq items.toList.reverse.toArray):=by
  show items.toList.reverse.toArray.size<=sizeLine;rw[z1c,List.length_reverse,Array.length_toList];exact hsz
 obtain⟨os,hos,hcs,hds⟩:=id hs;have hTs:s.TypeIs (.ref sl) "slice" :=⟨os,hos,hcs⟩;unfold getItem
 try with_reducible refine wpAny_holding ?_
 first |refine wpAny_bind (wpAny_pure ?_) |skip
 refine wpAny_bind (wpAny_sequenceKey ht.typeIs (by decide) ?_);refine wpAny_bind (wpAny_callSpecial?_slot (name:=Str.ofString "__getitem__") ht.typeIs PyProof.Rows.slot_tuple_getitem
  (wpAny_call_entry PyProof.Rows.slot_tuple_getitem ht.typeIs entry_tuple_getitem ?_ (args_tuple_getitem _ _)))
 show wpAny _ _ (Builtin.Tuple.tupleItemsOf (.ref t) >>=_) _ _ s;refine wpAny_bind (tupleItemsOf_ ht ?_);refine wpAny_bind (wpAny_typeOf hTs ?_);rw[if_pos (by decide)];refine wpAny_bind (Dy hs ?_);show wpAny _ _ (if (((items.size:Int) - 1 ==0) && ((-1:Int) ==1) && (items.size ==items.size))=true then _ else _) _ _ s;rw[if_neg (by simp),Zk]
 first
  |exact wpAny_bind (m:=Builtin.Tuple.tupleExact _) (wpAny_newObj_type (wpAny_pure ⟨_,rfl,wpAny_pure h⟩) htake)
  |exact wpAny_bind (m:=Builtin.Tuple.tupleExact _) (wpAny_newObj_type (wpAny_bind (wpAny_pure (wpAny_pure ⟨_,rfl,wpAny_pure h⟩))) htake)
  |exact wpAny_bind (wpAny_bind (m:=Builtin.Tuple.tupleExact _) (wpAny_newObj_type (wpAny_pure (wpAny_pure ⟨_,rfl,wpAny_pure h⟩)) htake))
  |exact wpAny_bind (wpAny_bind (m:=Builtin.Tuple.tupleExact _) (wpAny_newObj_type (wpAny_pure ⟨_,rfl,wpAny_pure h⟩) htake))
end
section
variable {X:Cx} {e:Expr} {te:TE} {pos p2 p3 p4:Pos} {j:Nat} {f:ao->R D}
theorem Vals.rev {xs:List V} {us:List Value} (h:Vals xs us):Vals xs.reverse us.reverse:=by
 induction h with
 |nil=>exact .nil
 | cons r _ ih=>
  simp only[List.reverse_cons];exact ih.append (.cons r .nil)
theorem adv {kk} (he:PE X e te):PE X (.Subscript e (.Slice none none (some (.UnaryOp .USub (.Constant (.int 1) kk p3) p4)) p2) pos) (λ σ H Q=>te σ H λ x H1=>∃a xs,x= .ref a/\SqT X.K H1 a xs/\∀p,H1 p=none->Q (.ref p) (upd H1 p (.tup xs.reverse))):=by
 intro pins s σ H Q I h;refine Subscript_ (thn (he pins s σ H _ I h) λ v s1 bH=>?_);obtain⟨x,H1,I1,r1,q1⟩:=bH;obtain⟨a,xs,rfl,hq,q⟩:=q1;cases r1;refine wpAny_Slice ?_;rw[evalPart_none,evalPart_some];refine wpAny_pure (wpAny_pure ?_);refine thn (pe_un (X:=X) un_neg pe_int pins s1 σ H1 (λ y H2=>y= .int (-1)/\H2=H1) I1 ⟨1,rfl,rfl,rfl⟩) λ vs s2 bH=>?_;obtain⟨y,H2,I2,r2,ey,eH⟩:=bH;subst ey;subst eH;obtain⟨t,rfl⟩:=r2;have I4:Inv X pins σ H2 {s2 with heap:=s2.heap.push {cls:= .type "slice",data:= .fields #[.none,.none,.int (-1) t]}}:=I2.kept (t':=s2.toks) λ b ob q=>z1a _ q;obtain⟨its,rv,ht,hz⟩:=I4.tuple hq;have hlen:=rv.length;show wpAny (model X.prog X.w) X.A (subscriptTail e (.Slice none none (some (.UnaryOp .USub (.Constant (.int 1) kk p3) p4)) p2) (.ref a) (.ref s2.heap.objs.size)) (EP X pins σ Q) X.xe {s2 with heap:=s2.heap.push {cls:= .type "slice",data:= .fields #[.none,.none,.int (-1) t]}};refine tail_any (ops:=[.ref a,.ref s2.heap.objs.size]) ht.typeIs slot_tuple_getitem.lookup (Ce ht (Heap.IsSliceOf.new ..) ?_ (by rw[z1c];omega)) (by with_unfolding_all rfl);refine⟨.ref _,_,I4.laid (t':=s2.toks) (o:= .tup xs.reverse) (λ b ob q=>z1a _ q) (z0g _) ?_,rfl,q _ (I4.hok.fresh (z0g _))⟩;exact⟨by rw[List.length_reverse];exact hz,_,Vals.rev rv,IsTup.new _ _⟩
def ags:D->R D
 | .tup ds=> .ok (.tup ds.reverse)
 |_=> .bad
def T7 (f:ao->R D):ao->R D:=λ ρ=>(f ρ).bind ags
theorem adw {kk} (he:DE X e f):DE X (.Subscript e (.Slice none none (some (.UnaryOp .USub (.Constant (.int 1) kk p3) p4)) p2) pos) (T7 f):=by
 refine PE.imp (adv he) λ σ H Q h=>?_;obtain⟨ρ,O,j,h⟩:=h;refine go j h λ d v H1 e1 s1 r1 j1 h1=>?_;cases d with
 | tup ds=>
  obtain⟨a,xs,rfl,hq,rs⟩:=r1.tup;exact⟨a,xs,rfl,hq,λ p hp=>h1 _ _ (Same.upd hp) (Rep.pF hp rs.reverse)⟩
 |_=>exact h1.elim
def fL:D->D->R D
 | .int i,.int j=> .ok (.int (i+j))
 | .tup xs,.tup ys=>if 0 < xs.length/\xs.length+ys.length<=1000000 then .ok (.tup (xs++ys)) else .bad
 |_,_=> .bad
theorem jR:jt X (binaryOp .Add) fL:=by
 refine⟨_,OpR.or op_add op_catT,λ ρ O σ H Q x y dx dy j0 rx ry h=>?_⟩;cases dx <;> cases dy <;> first
  |exact h.elim
  |skip
 ·rename_i i j;exact .inl ⟨i,j,rx.int,ry.int,fin h (cB _)⟩
 ·rename_i xs ys;have h:good X (rD X) O (if 0 < xs.length/\xs.length+ys.length<=1000000 then .ok (.tup (xs++ys)) else .bad) σ H Q:=h;by_cases hc:0 < xs.length/\xs.length+ys.length<=1000000
  ·rw[if_pos hc] at h;obtain⟨a,us,rfl,ha,r1⟩:=rx.tup;obtain⟨b,ws,rfl,hb,r2⟩:=ry.tup;refine .inr ⟨a,b,us,ws,rfl,rfl,ha,hb,λ z=>?_,?_,λ z=>?_,λ z l hl=>?_⟩
   ·have h1:=r1.length;have h2:=hc.1;rw[z] at h1;rw[h1] at h2;exact Nat.lt_irrefl _ h2
   ·rw[<-r1.length,<-r2.length];exact z0b hc.2 dO
   ·subst z;have:ys=[]:=List.eq_nil_of_length_eq_zero r2.length;subst this;rw[List.append_nil] at h;exact fin h (iV ha r1)
   ·exact h _ _ (Same.upd hl) (Rep.pF hl (r1.append r2))
  ·rw[if_neg hc] at h;exact h.elim
end
section
variable {K:PySem.W.Frag} {O:Addr->Prop} {H:Hp}
end
section
variable {X:Cx} {e e1 e2:Expr} {f g:ao->R D} {pos:Pos}
end
end Pu
namespace Pu
open PySem PySem.W PyProof.Rows
variable {p:Array Nat}
def Sat {α:Type} (n:Nat) (lt:Nat->Nat->Bool):KasT α->(α->Prop)->Prop
 | .ret a,Q=>Q a
 | .ask i j k,Q=>i < n/\j < n/\Sat n lt (k (lt i j)) Q
section
variable {n:Nat} {lt:Nat->Nat->Bool}
theorem Sat.bind {α β:Type} {f:α->KasT β} {Q:β->Prop}:∀{t:KasT α},Sat n lt t (λ a=>Sat n lt (f a) Q)->Sat n lt (t.bind f) Q
 | .ret _,h=>h
 | .ask i j k,h=>⟨h.1,h.2.1,Sat.bind h.2.2⟩
theorem Sat.mono {α:Type} {Q Q':α->Prop} (w:∀a,Q a->Q' a):∀{t:KasT α},Sat n lt t Q->Sat n lt t Q'
 | .ret _,h=>w _ h
 | .ask _ _ _,h=>⟨h.1,h.2.1,Sat.mono w h.2.2⟩
theorem Sat.wp {α:Type} {cmp:Nat->Nat->(Bool->Shared->Prop)->Shared->Prop} {s:Shared} {P:α->Prop} {Q:α->Shared->Prop} (hc:∀i j C,i < n->j < n->C (lt i j) s->cmp i j C s) (hQ:∀a,P a->Q a s):
  ∀{t:KasT α},Sat n lt t P->t.kasWp cmp Q s
 | .ret _,h=>hQ _ h
 | .ask i j k,h=>hc i j _ h.1 h.2.1 (Sat.wp hc hQ h.2.2)
structure Ord (n:Nat) (lt:Nat->Nat->Bool):Prop where
 tr:∀a b c,a < n->b < n->c < n->lt a b=true->lt b c=true->lt a c=true
 tot:∀a b,a < n->b < n->a≠b->lt a b=false->lt b a=true
structure Pm (n:Nat) (p:Array Nat):Prop where
 size:p.size=n
 perm:p.toList.Perm (List.range n)
theorem Pm.bd (h:Pm n p) {i:Nat} (hi:i < n):p.getD i 0 < n:=by
 have hs:i < p.size:=by rw[h.size];exact hi
 have:p.getD i 0=p[i]:=by simp[Array.getD,hs]
 rw[this];have hm:p[i]∈p.toList:=by simp
 exact z2e (h.perm.mem_iff.mp hm)
theorem Pm.ne (h:Pm n p) {i j:Nat} (hi:i < n) (hj:j < n) (hij:i≠j):p.getD i 0≠p.getD j 0:=by
 have hs:i < p.size:=by rw[h.size];exact hi
 have hs2:j < p.size:=by rw[h.size];exact hj
 have e1:p.getD i 0=p.toList[i]'(by simpa using hs):=by simp[Array.getD,hs]
 have e2:p.getD j 0=p.toList[j]'(by simpa using hs2):=by simp[Array.getD,hs2]
 rw[e1,e2];have nd:p.toList.Nodup:=h.perm.nodup_iff.mpr List.nodup_range;intro z;exact hij ((List.getElem_inj nd).mp z)
theorem Pm.of {q:Array Nat} (h:Pm n p) (w:q.Perm p):Pm n q:=
 ⟨by rw[<-h.size];exact w.size_eq,(Array.perm_iff_toList_perm.mp w).trans h.perm⟩
def S (lt:Nat->Nat->Bool) (p:Array Nat) (k:Nat):Prop:=∀i j,i < j->j < k->lt (p.getD i 0) (p.getD j 0)=true
def De (lt:Nat->Nat->Bool) (p:Array Nat) (k:Nat):Prop:=∀i j,i < j->j < k->lt (p.getD j 0) (p.getD i 0)=true
theorem S.one:S lt p 1:=λ i j h1 h2=>by omega
theorem S.ext (o:Ord n lt) (h:Pm n p) {a:Nat} (ha:1<=a) (hn:a < n) (s:S lt p a) (e:lt (p.getD (a - 1) 0) (p.getD a 0)=true):S lt p (a+1):=λ i j h1 h2=>by
 by_cases hj:j < a
 ·exact s i j h1 hj
 ·have ej:j=a:=by omega
  subst ej;by_cases hi:i=j - 1
  ·rw[hi];exact e
  ·exact o.tr _ _ _ (h.bd (by omega)) (h.bd (by omega)) (h.bd hn) (s i (j - 1) (by omega) (by omega)) e
theorem De.ext (o:Ord n lt) (h:Pm n p) {a:Nat} (ha:1<=a) (hn:a < n) (s:De lt p a) (e:lt (p.getD a 0) (p.getD (a - 1) 0)=true):De lt p (a+1):=λ i j h1 h2=>by
 by_cases hj:j < a
 ·exact s i j h1 hj
 ·have ej:j=a:=by omega
  subst ej;by_cases hi:i=j - 1
  ·rw[hi];exact e
  ·exact o.tr _ _ _ (h.bd hn) (h.bd (by omega)) (h.bd (by omega)) e (s i (j - 1) (by omega) (by omega))
theorem Ie (o:Ord n lt) {p:Array Nat} (h:Pm n p):∀(f a:Nat),1<=a->a+f<=n->S lt p a->Sat n lt (kas_asc p f a) (λ m=>a<=m/\m<=a+f/\S lt p m/\(m < a+f->lt (p.getD m 0) (p.getD (m - 1) 0)=true))
 |0,a,h1,h2,s=>⟨z0g _,z0g _,s,λ z=>absurd z (by omega)⟩
 | f +1,a,h1,h2,s=>by
  refine⟨h.bd (by omega),h.bd (by omega),?_⟩;cases e:lt (p.getD a 0) (p.getD (a - 1) 0) with
  |true=>exact⟨z0g _,by omega,s,λ _=>e⟩
  | false=>
   have e':=o.tot _ _ (h.bd (by omega)) (h.bd (by omega)) (h.ne (i:=a) (j:=a - 1) (by omega) (by omega) (by omega)) e;show Sat n lt (kas_asc p f (a+1)) _;refine Sat.mono (λ m ⟨m1,m2,m3,m4⟩=>⟨by omega,by omega,m3,λ z=>m4 (by omega)⟩) (Ie o h f (a+1) (by omega) (by omega) (S.ext o h h1 (by omega) s e'))
theorem Ly (o:Ord n lt) {p:Array Nat} (h:Pm n p):∀(f a:Nat),1<=a->a+f<=n->De lt p a->Sat n lt (kas_desc f p a 0) (λ r=>r.1=p/\r.2.2=0/\a<=r.2.1/\r.2.1<=a+f/\De lt p r.2.1)
 |0,a,h1,h2,s=>⟨rfl,rfl,z0g _,z0g _,s⟩
 | f +1,a,h1,h2,s=>by
  refine⟨h.bd (by omega),h.bd (by omega),?_⟩;cases e:lt (p.getD a 0) (p.getD (a - 1) 0) with
  | true=>
   show Sat n lt (kas_desc f p (a+1) 0) _;exact Sat.mono (λ r ⟨m1,m2,m3,m4,m5⟩=>⟨m1,m2,by omega,by omega,m5⟩) (Ly o h f (a+1) (by omega) (by omega) (De.ext o h h1 (by omega) s e))
  | false=>
   have e':=o.tot _ _ (h.bd (by omega)) (h.bd (by omega)) (h.ne (i:=a) (j:=a - 1) (by omega) (by omega) (by omega)) e;refine⟨h.bd (by omega),h.bd (by omega),?_⟩;rw[e'];exact⟨rfl,rfl,z0g _,Nat.le_add_right _ _,s⟩
theorem Br {q:Array Nat} {i j:Nat} (h:p[i]?=q[j]?):p.getD i 0=q.getD j 0:=by
 rw[Array.getD_eq_getD_getElem?,Array.getD_eq_getD_getElem?,h]
theorem Wv (o:Ord n lt) (h:Pm n p) {m:Nat} (h1:1<=m) (h2:m<=n) (s:De lt p m):Sat n lt (kas_tail3 m n p) (λ r=>Pm n r.2/\1<=r.1/\r.1<=n/\S lt r.2 r.1):=by
 have hq:Pm n (kas_rev p 0 m):=h.of (mirror_perm _ _ _ _);have hs:S lt (kas_rev p 0 m) m:=λ i j hij hj=>by
  have g:∀k,k < m->(kas_rev p 0 m).getD k 0=p.getD (m - 1 - k) 0:=λ k hk=>by
   apply Br;show (mirror p 0 m ((m - 0) / 2))[k]?=_;rw[getElem?_mirror_all (by rw[h.size];exact h2),if_pos ⟨by omega,hk⟩];congr 1;omega
  rw[g i (by omega),g j hj];exact s (m - 1 - j) (m - 1 - i) (by omega) (by omega)
 exact Sat.bind (Sat.mono (λ k ⟨k1,k2,k3,_⟩=>⟨hq,by omega,by omega,k3⟩) (Ie o hq (n - m) m h1 (by omega) hs))
theorem Ww (o:Ord n lt) (h:Pm n p) (hn:1<=n):Sat n lt (kas_count n p) (λ r=>Pm n r.2/\1<=r.1/\r.1<=n/\S lt r.2 r.1):=by
 refine Sat.bind (Sat.mono (λ m ⟨m1,m2,m3,m4⟩=>?_) (Ie o h (n - 1) 1 (z0g _) (by omega) S.one));by_cases e:m=n
 ·rw[if_pos (by simp[e])];exact⟨h,m1,by omega,m3⟩
 ·rw[if_neg (by simp[e])];by_cases hm:m > 1
  ·rw[if_pos hm];refine⟨h.bd (by omega),h.bd (by omega),?_⟩;rw[m3 0 (m - 1) (by omega) (by omega)];exact⟨h,m1,by omega,m3⟩
  ·rw[if_neg hm];have em:m=1:=by omega
   subst em;have e0:=m4 (by omega);have d2:De lt p 2:=De.ext o h (a:=1) (z0g _) (by omega) (λ i j a1 a2=>by omega) e0;refine Sat.bind (Sat.mono (λ r ⟨r1,r2,r3,r4,r5⟩=>?_) (Ly o h (n - (1+1)) (1+1) (by omega) (by omega) d2));rw[if_neg (by omega),r1];exact Wv o h (by omega) (by omega) r5
theorem zm (o:Ord n lt) {p:Array Nat} (h:Pm n p) {k:Nat} (hk:k < n) (s:S lt p k):∀(f l r:Nat),l<=r->r<=k->r - l<=f->(∀i,i < l->lt (p.getD i 0) (p.getD k 0)=true)->(∀i,r<=i->i < k->lt (p.getD k 0) (p.getD i 0)=true)->
  Sat n lt (kas_place p k f l r) (λ m=>m<=k/\(∀i,i < m->lt (p.getD i 0) (p.getD k 0)=true)/\∀i,m<=i->i < k->lt (p.getD k 0) (p.getD i 0)=true)
 |0,l,r,h1,h2,h3,hl,hr=>⟨by omega,hl,λ i a b=>hr i (by omega) b⟩
 | f + 1,l,r,h1,h2,h3,hl,hr=>by
  unfold kas_place;by_cases hlr:l>=r
  ·rw[if_pos hlr];exact⟨by omega,hl,λ i a b=>hr i (by omega) b⟩
  ·rw[if_neg hlr];have hm:(l+r) / 2 < k:=by omega
   refine⟨h.bd hk,h.bd (by omega),?_⟩;cases e:lt (p.getD k 0) (p.getD ((l+r) / 2) 0) with
   | true=>
    refine zm o h hk s f l ((l+r) / 2) (by omega) (by omega) (by omega) hl λ i a b=>?_;by_cases hi:i=(l+r) / 2
    ·rw[hi];exact e
    ·exact o.tr _ _ _ (h.bd hk) (h.bd (by omega)) (h.bd (by omega)) e (s _ _ (by omega) b)
   | false=>
    have e':=o.tot _ _ (h.bd hk) (h.bd (by omega)) (h.ne (i:=k) (j:=(l+r) / 2) hk (by omega) (by omega)) e;refine zm o h hk s f ((l+r) / 2+1) r (by omega) h2 (by omega) (λ i a=>?_) hr;by_cases hi:i=(l+r) / 2
    ·rw[hi];exact e'
    ·exact o.tr _ _ _ (h.bd (by omega)) (h.bd (by omega)) (h.bd hk) (s i ((l+r) / 2) (by omega) hm) e'
theorem RB (o:Ord n lt):∀(f:Nat) (p:Array Nat) (k:Nat),Pm n p->S lt p k->k+f<=n->Sat n lt (kas_bin f p k) (λ q=>Pm n q/\S lt q (k+f))
 |0,p,k,h,s,_=>⟨h,s⟩
 | f + 1, p, k,h,s,hk=>by
  refine Sat.bind (Sat.mono (λ l ⟨l1,l2,l3⟩=>?_) (zm o h (by omega) s k 0 k (Nat.zero_le _) (z0g _) (by omega) (λ i a=>by omega) λ i a b=>by omega));have hq:Pm n (bubble p k (k - l)):=h.of (bubble_perm _ _ _);have g:∀i,(bubble p k (k - l)).getD i 0=if i=l then p.getD k 0 else if l < i/\i<=k then p.getD (i - 1) 0 else p.getD i 0:=λ i=>by
   have e:=getElem?_bubble (xs:=p) (src:=k) (by rw[h.size];omega) (k - l) (by omega) i;rw[show k - (k - l)=l by omega] at e;by_cases c1:i=l
   ·rw[if_pos c1] at e |-;exact Br e
   ·rw[if_neg c1] at e |-;by_cases c2:l < i/\i<=k
    ·rw[if_pos c2] at e |-;exact Br e
    ·rw[if_neg c2] at e |-;exact Br e
  have hs : S lt (bubble p k (k - l)) (k+1):=λ i j hij hj=>by
   rw[g i,g j];by_cases c1:i=l
   ·rw[if_pos c1,if_neg (by omega),if_pos ⟨by omega,by omega⟩];exact l3 (j - 1) (by omega) (by omega)
   ·rw [if_neg c1];by_cases c2:l < i/\i<=k
    ·rw[if_pos c2,if_neg (by omega),if_pos ⟨by omega,by omega⟩];exact s (i - 1) (j - 1) (by omega) (by omega)
    ·rw [if_neg c2];have hil:i < l:=by omega
     by_cases c3:j=l
     ·rw[if_pos c3];exact l2 i hil
     ·rw[if_neg c3];by_cases c4:l < j/\j<=k
      ·rw[if_pos c4];by_cases c5:i=j - 1
       ·omega
       ·exact s i (j - 1) (by omega) (by omega)
      ·rw[if_neg c4];exact s i j hij (by omega)
  have:=RB o f (bubble p k (k - l)) (k+1) hq hs (by omega);exact Sat.mono (λ q ⟨q1,q2⟩=>⟨q1,by rw[show k+(f+1)=k+1+f by omega];exact q2⟩) this
theorem Zm (o:Ord n lt) (hn:1<=n):Sat n lt (kas_sort n) (λ q=>Pm n q/\S lt q n):=by
 have h0:Pm n (List.toArray (List.range n)):=⟨by simp,by simp⟩;refine Sat.bind (Sat.mono (λ r ⟨r1,r2,r3,r4⟩=>?_) (Ww o h0 hn));by_cases hr:r.1 < n
 ·rw[if_pos hr];have e:max r.1 1=r.1:=by omega
  rw[e];refine Sat.mono (λ q ⟨q1,q2⟩=>⟨q1,?_⟩) (RB o (n - r.1) r.2 r.1 r1 r4 (by omega));rw[show r.1+(n - r.1)=n by omega] at q2;exact q2
 ·rw[if_neg hr];have e:r.1=n:=by omega
  rw[e] at r4;exact⟨r1,r4⟩
end
end Pu
namespace Pu
open PySem PySem.Spec PySem.W L2
open PyProof.Rows hiding St
variable {vs:List Value}
theorem Fe {h:Heap} {a b:Addr} {out:Array Value} {o:Obj} (hb:b≠a) (e:h.get? b=some o):(sortedHeap h a vs out).get? b=some o:=by
 unfold sortedHeap;rw[Heap.get?_update_ne _ _ _ _ hb];exact z1a _ (z1a _ (by rw[Heap.get?_update_ne _ _ _ _ hb];exact e))
theorem sortedHeap_at {h:Heap} {a:Addr} {out:Array Value} {n:Nat} (e:h.get? a=some (seqObj "list" vs.toArray n)):∃c,(sortedHeap h a vs out).get? a=some (seqObj "list" out c):=by
 unfold sortedHeap;have h1:=get?_update_seq e (λ _=>(#[]:Array Value));exact⟨_,get?_update_seq (z1a _ (z1a _ h1)) λ _=>out⟩
theorem Wx (vs:List Value) (h:vs.length < 2):(vs.toArray.zip vs.toArray).map (·.2)=List.toArray ((List.toArray (List.range vs.length)).toList.map λ i=>vs.getD i Value.none):=by
 match vs,h with
 |[],_=>simp
 |[v],_=>simp[List.range_succ]
 |_::_::_,h=>exact absurd h (by simp)
section
variable {prog:Program} {w:World} {A:Around} {E:Value->Shared->Prop} {s:Shared}
theorem abt {a:Addr} {n:Nat} {P:PySem.Fin->Shared->Prop} {lt:Nat->Nat->Bool} {kk:SortKind} (ho:s.heap.get? a=some (seqObj "list" vs.toArray n)) (h64:vs.length < 64) (od:Ord vs.length lt)
  (kind:2<=vs.length->∀h':Heap,(∀b ob,b≠a->s.heap.get? b=some ob->h'.get? b=some ob)->∀Q:SortKind->Shared->Prop,Q kk {s with heap:=h'}->wpAny (model prog w) A (keyKind' vs.toArray) Q (λ _ _=>False) {s with heap:=h'})
  (ask:∀h':Heap,(∀b ob,b≠a->s.heap.get? b=some ob->h'.get? b=some ob)->∀i j C,i < vs.length->j < vs.length->C (lt i j) {s with heap:=h'}->kas_ask prog w A kk vs i j C {s with heap:=h'})
  (h:∀q:Array Nat,Pm vs.length q->S lt q vs.length->P (.done (.ret .none)) {s with heap:=sortedHeap s.heap a vs (List.toArray (q.toList.map λ i=>vs.getD i Value.none))}):
  wpAny (model prog w) A (Builtin.«list.sort» ⟨[.ref a],[]⟩) P E s:=by
 rw[list_sort_plain];have ha:a < s.heap.objs.size:=z2c ho;refine wpAny_bind (listItems_at ho rfl ?_);refine wpAny_bind (listUpdate_at ho rfl ?_ (by rw[z1c,sizeLine_eq];omega) (Nat.zero_le _));obtain⟨e1,ho1⟩:∃e1,(s.heap.update a (Obj.mapSeq λ _=>(#[]:Array Value))).get? a=some (seqObj "list" #[] e1):=⟨_,get?_update_seq ho (λ _=> #[])⟩;refine wpAny_bind (seqEpoch_at ho1 rfl ?_);refine wpAny_bind (wpAny_newTuple ?_ (by show vs.length<=_;rw[sizeLine_eq];omega));refine wpAny_bind (wpAny_newList ?_ (Nat.zero_le _));refine wpAny_holding ?_
 generalize hh6:((s.heap.update a (Obj.mapSeq λ _=>(#[]:Array Value))).push (seqObj "tuple" vs.toArray 0)).push (seqObj "list" #[] 0)=h6
 have ho6:h6.get? a=some (seqObj "list" #[] e1):=by
  rw[<-hh6];exact z1a _ (z1a _ ho1)
 have keep:∀b ob,b≠a->s.heap.get? b=some ob->h6.get? b=some ob:=λ b ob hb e=>by
  rw[<-hh6];exact z1a _ (z1a _ (by rw[Heap.get?_update_ne _ _ _ _ hb];exact e))
 have hsh:∀out:Array Value,sortedHeap s.heap a vs out=h6.update a (Obj.mapSeq λ _=>out):=λ out=>by rw[<-hh6];rfl
 show wpAny (model prog w) A _ P E {s with heap:=h6}
 dsimp only
 have hsz:vs.toArray.size=vs.length:=by simp
 by_cases h2:vs.toArray.size < 2
 ·rw[if_pos h2,if_pos h2];refine wpAny_bind (wpAny_pure ?_);rw[StateT.run_pure];refine wpAny_bind (wpAny_pure ?_)
  dsimp only
  refine wpAny_bind (seqEpoch_at ho6 rfl ?_);refine wpAny_bind (listUpdate_at ho6 rfl ?_ (Nat.zero_le _) (by show (((pairsOf vs)).map (·.2)).size<=_;rw[Array.size_map,pairsOf_size,sizeLine_eq];omega));simp only[bne_self_eq_false,Bool.false_eq_true,if_false];have q:=h (List.toArray (List.range vs.length)) ⟨by simp,by simp⟩ (λ i j h1 h3=>by omega);rw[hsh] at q;have eo:(arrOf (SortSt.mk' general' (vs.toArray.zip vs.toArray) #[] 7 none)).map (·.2)=List.toArray ((List.toArray (List.range vs.length)).toList.map λ i=>vs.getD i Value.none):=by
   show (vs.toArray.zip vs.toArray).map (·.2)=_;exact Wx vs (by rw[<-hsz];exact h2)
  refine wpAny_pure ?_;show P _ {s with heap:=h6.update a (Obj.mapSeq λ _=>(arrOf (SortSt.mk' general' (vs.toArray.zip vs.toArray) #[] 7 none)).map (·.2))};rw[eo];exact q
 ·rw[if_neg h2,if_neg h2];have h2':2<=vs.length:=by rw[hsz] at h2;omega
  refine wpAny_bind (wpAny_mono (kind h2' h6 keep (λ κ s'=>κ=kk/\s'={s with heap:=h6}) ⟨rfl,rfl⟩) (λ κ s0 hk=>?_) λ _ _ x=>x.elim);obtain⟨rfl,rfl⟩:=hk;have wp:(kas_sort vs.length).kasWp (kas_ask prog w A κ vs) (λ p s''=>(Pm vs.length p/\S lt p vs.length)/\s''={s with heap:=h6}) {s with heap:=h6}:=
   Sat.wp (ask h6 keep) (λ p hp=>⟨hp,rfl⟩) (Zm od (by omega))
  refine wpAny_bind (wpAny_mono (kat_run (Q:=λ st' s'=>∃p:Array Nat,p.size=vs.length/\arrOf st'=p.map (kas_item (vs.toArray.zip vs.toArray))/\failedOf st'=none/\(Pm vs.length p/\S lt p vs.length)/\s'={s with heap:=h6})
   rfl h2' h64 (λ p' st' s' a1 a2 a3 a4=>⟨p',a1,a2,a3,a4⟩) wp) ?_ λ _ _ e=>e)
  rintro⟨⟨⟩,st'⟩ s' ⟨p,hp,har,hf,⟨hpm,hps⟩,rfl⟩
  dsimp only
  have hout:=kat_snds rfl har;rw[hout];refine wpAny_bind (seqEpoch_at ho6 rfl ?_);refine wpAny_bind (listUpdate_at ho6 rfl ?_ (Nat.zero_le _) (by show (List.toArray (p.toList.map λ i=>vs.getD i Value.none)).size<=_;rw[z1c,z1g,Array.length_toList,hp,sizeLine_eq];omega));rw[hf];simp only[bne_self_eq_false,Bool.false_eq_true,if_false];have q:=h p hpm hps;rw[hsh] at q;exact wpAny_pure q
end
section
variable {prog:Program} {w:World} {A:Around} {E:Value->Shared->Prop} {s:Shared}
end
section
variable {X:Cx} {pins:List (Addr×Obj)} {σ:St} {H:Hp} {s:Shared}
end
theorem RD:∀as:List Addr,Vals (as.map V.ref) (as.map Value.ref)
 |[]=> .nil
 |a::as=> .cons rfl (RD as)
section
variable {X:Cx}
end
section
variable {X:Cx}
end
end Pu
namespace Pu
open PySem PySem.Spec L2
open PyProof.Rows hiding St
section
variable {X:Cx} {a b:Expr} {es:List Expr} {f g:ao->R D} {fa:ao->R (List D)} {pos:Pos}
def Lz (i k:Nat) (f g:ao->R D):ao->So:=λ ρ=>fj (f ρ) ρ λ d=>fj (g ρ) ρ λ e=> .nx ((ρ.set i (some (.val d))).set k (some (.val e)))
theorem adx (i k:Nat) {x y:Str} {px py pt:Pos} {kt k2 pt2} (hc:X.calm=true) (hN:X.N.Nodup) (ha:DE X a f) (hb:DE X b g) (hi:X.N[i]?=some x:=by rfl) (hk:X.N[k]?=some y:=by rfl) (hik:i≠k:=by decide)
  (hx:X.env.scope.names.lookup x=some .local:=by rfl) (hy:X.env.scope.names.lookup y=some .local:=by rfl)
  (h1:starEach [a,b] X.env=(false,eval a X.env)::starEach [b] X.env:=by rfl) (h2:starEach [b] X.env=(false,eval b X.env)::starEach [] X.env:=by rfl)
  (hw:swappedStores [.Tuple [.Name x px,.Name y py] kt pt] (.Tuple [a,b] k2 pt2) X.env=pure (some [x,y]):=by rfl)
  (hs:swapsWithSole [.Tuple [.Name x px,.Name y py] kt pt] (.Tuple [a,b] k2 pt2) pos.line X.env=pure false:=by rfl):
  DS X (.Assign [.Tuple [.Name x px,.Name y py] kt pt] (.Tuple [a,b] k2 pt2) pos) (Lz i k f g):=by
 refine PS.imp (ps_par hc hN hi hk hik hx hy (pa_cons ha (pa_cons hb pa_nil h2) h1) hw hs) λ σ H E h=>?_;obtain⟨H0,O0,O,ρ,j,h⟩:=h;refine⟨ρ,O,j.inn,?_⟩;unfold Lz fj at h;cases e1:f ρ with
 |bad=>rw[e1] at h;exact h
 |err c=>rw[e1] at h;exact h σ H O j
 | ok d=>
  rw[e1] at h;intro v H1 s1 rv;have j1:=j.grow s1;refine⟨ρ,O,j1.inn,?_⟩;cases e2:g ρ with
  |bad=>simp only[e2] at h;exact h
  |err c=>simp only[e2] at h;exact Cg.same (h σ H O j) s1
  | ok e=>
   simp only[e2] at h;intro w H2 s2 rw2;refine⟨v,w,rfl,?_⟩;exact h _ H2 O (((j1.grow s2).set (z1b hi).1 (rv.same s2)).set (z1b hk).1 rw2) ((Same.dJ s1).trans (Same.dJ s2))
def LC (i k:Nat) (f:ao->R D) (fa:ao->R (List D)):ao->So:=λ ρ=>fj (f ρ) ρ λ d=>match fa ρ with
 | .ok ds=>if ds.length<=1000000 then .nx ((ρ.set i (some (.val d))).set k (some (.lst ds))) else .bad
 |_=> .bad
theorem abu (i k:Nat) {x y:Str} {px py pt p3:Pos} {kt k2 pt2} (hc:X.calm=true) (hN:X.N.Nodup) (ha:DE X a f) (hb:DA X es fa) (hi:X.N[i]?=some x:=by rfl) (hk:X.N[k]?=some y:=by rfl)
  (hx:Loc X.env.scope x:=by first |exact Or.inl rfl |exact Or.inr rfl) (hy:Loc X.env.scope y:=by first |exact Or.inl rfl |exact Or.inr rfl)
  (hfx:X.fn x=true\/X.env.scope.names.lookup x=some .local:=by first |exact .inl rfl |exact .inr rfl) (EY:X.fn y=true\/X.env.scope.names.lookup y=some .local:=by first |exact .inl rfl |exact .inr rfl)
  (h1:starEach [a,.List es p3] X.env=(false,eval a X.env)::starEach [.List es p3] X.env:=by rfl) (h2:starEach [.List es p3] X.env=(false,eval (.List es p3) X.env)::starEach [] X.env:=by rfl)
  (hs:swapsWithSole [.Tuple [.Name x px,.Name y py] kt pt] (.Tuple [a,.List es p3] k2 pt2) pos.line X.env=pure false:=by rfl) (hw:swappedStores [.Tuple [.Name x px,.Name y py] kt pt] (.Tuple [a,.List es p3] k2 pt2) X.env=pure none:=by rfl):
  DS X (.Assign [.Tuple [.Name x px,.Name y py] kt pt] (.Tuple [a,.List es p3] k2 pt2) pos) (LC i k f fa):=by
 refine PS.imp (ps_asg (pe_tup (pa_cons ha (pa_cons (Ry hb) pa_nil h2) h1)) (pg_tup hc (pgs_cons (pg_name hN hi hx hfx) (pgs_cons (pg_name hN hk hy EY) pgs_nil))) hs hw) λ σ H E h=>?_;obtain⟨H0,O0,O,ρ,j,h⟩:=h;refine⟨ρ,O,j.inn,?_⟩;unfold LC fj at h;cases e1:f ρ with
 |bad=>rw[e1] at h;exact h
 |err c=>rw[e1] at h;exact h σ H O j
 | ok d=>
  rw[e1] at h;intro v H1 s1 rv;have j1:=j.grow s1;refine⟨ρ,O,j1.inn,?_⟩;cases e2:fa ρ with
  |bad=>simp only[e2] at h;exact h
  |err c=>simp only[e2] at h;exact h.elim
  | ok ds=>
   simp only[e2] at h;by_cases hl:ds.length<=1000000
   ·simp only[if_pos hl] at h;intro vs H2 s2 rvs;refine⟨by rw[<-rvs.length];exact z0b hl dO,λ p hp hpk=>?_⟩;refine⟨by show 2<=sizeLine;decide,λ t ht=>?_⟩;refine⟨t,[v,.ref p],rfl,SqT.of upd_same,rfl,v,[.ref p],rfl,.ref p,[],rfl,rfl,?_⟩;have j2:=(j1.grow s2).set (z1b hi).1 (rv.same s2);obtain⟨j3,r3⟩:=j2.own (z1b hk).1 (o:= .lst vs) (en:= .lst ds) hp hpk rfl ⟨p,vs,rfl,.inr rfl,upd_same,rvs.go ⟨(Same.dJ (K:=X.K) (O:=O) (Same.upd hp)).ext,λ a z=>z.elim .inl λ e=> .inr (by rw[e];exact⟨hp,hpk⟩),(Same.dJ (K:=X.K) (O:=O) (Same.upd hp)).dom⟩⟩;have s4:Same (upd H2 p (.lst vs)) (upd (upd H2 p (.lst vs)) t (.tup [v,.ref p])):=Same.upd ht;exact h _ _ _ (j3.grow s4) ((((Same.dJ s1).trans (Same.dJ s2)).trans r3).trans (Same.dJ s4))
   ·simp only[if_neg hl] at h;exact h.elim
end
def Bs (s:String):Bool:=s == "int" || s == "bool"
def xQ (s:String):Bool:=s == "bool"
def gY (s:String):Bool:=s == "tuple"
def LK (s:String):Bool:=s == "list"
def aU (P:Program) (w:World) (K:PySem.W.Frag) (mg:Str->Option Value) (base:Heap) (k:Nat) (x:Str) (n:Nat) (F:List D->R D):Prop:=
 ∃f fd ps,FnOk P w K mg base CX0 k f fd ps (Fb K n F)/\mg x=some (.ref f)/\PySem.W.keepIn K (.ref f)=true/\Binds K fd ps []
theorem bw {X:Cx} {k n m:Nat} {F:List D->R D} {x:Str} {p pos:Pos} {e:Expr} {es:List Expr} {fa:ao->R (List D)} (G:aU X.prog X.w X.K X.mg X.base k x n F) (hr:Room m X.A) (hkm:k<=m) (ha:DA X (e::es) fa) (hg:Gl X x:=by rfl)
  (hdb:(x ==("__debug__" :Str))=false:=by decide) (he:starEach (e::es) X.env=(false,eval e X.env)::starEach es X.env:=by rfl) (hpl:(backTo pos (starEach es X.env)).any (·.1)=false:=by rfl):
  DE X (.Call (.Name x p) (e::es) [] pos) (aB (aQ F n) fa):=by
 obtain⟨f,fd,ps,ok,hm,hk,hb⟩:=G;exact abr ok (hr.mono hkm) hg hm hk hb ha hdb he hpl
theorem iY {A:Around} {k:Nat} (hr:Room k A):A.units+60 < cLine:=by have:=hr.un;omega
theorem bV {P:Program} {w:World} {K:PySem.W.Frag} {mg:Str->Option Value} {base:Heap} {x qual:Str} {st:Stmt} {f:Addr} {fd:FuncData} {N ps:List Str} {k n m:Nat} {g:ao->So} (Fn:Fun K x qual st f fd) (hmg:mg x=some (.ref f)) (hb:Binds K fd ps []) (S:FnScope N ps (defScope st)) (hn:ps.length=n) (hm:N.length=n+m)
  (hbody:∀(cdv:Value) (A:Around) (outer:List PySem.Env) (s:Shared) (H:Hp) (E:XK),Room k (A.deeper (envOfC qual (defScope st) s.heap.objs.size f cdv))->lY (cxOf CX0 P w K mg base N qual (defScope st) f cdv A outer s H E).nox (defBody st) g):
  aU P w K mg base (k+1) x n (cj m g):=⟨f,fd,ps,fnD Fn S hn hm hbody λ ds d _ e=>e,hmg,Fn.kp,hb⟩
theorem sp_law {K:PySem.W.Frag} {F:List D->R D} {H:Hp} {a:Addr} {ns:List Int} {E:XK} (hS:SqL K H a (ns.map V.int)) (hF:F [.lst (ns.map D.int)]= .ok (.bl true)):Fb K 1 F [.ref a] H (λ v _=>v= .bl true) E:=by
 refine⟨λ _=>False,[.lst (ns.map D.int)],.cons (gG hS (λ z=>z) ?_) .nil,rfl,λ a z=>z.elim,?_⟩
 ·have:∀l:List Int,aN K (λ _=>False) H (l.map D.int) (l.map V.int):=by
   intro l
   induction l with
   |nil=>exact .nil
   |cons i l ih=>exact .cons (cB i) ih
  exact this ns
 ·rw[hF];exact λ v H' _ r=>r.bl
end Pu
namespace Pu
open PySem PySem.Spec L2
variable {d:D} {gt:D->ao->R ao} {i j:Int} {xs:List D} {α:Type} {l:List α} {ρ:ao}
theorem RG {α:Type} {k:D->R (Option D)} {c h:α->D}:∀{l:List α},(∀a∈l,k (c a)= .ok (some (h a)))->j5 k (l.map c)= .ok (l.map h)
 |[],_=>rfl
 | a::l,q=>by
  rw[z1h,j5,q a (by simp),zj,R.bC,RG λ b hb=>q b (by simp[hb])];rfl
theorem Fg {α:Type} {c:α->Bool}:∀{l:List α},boolsOf (l.map λ a=> .bl (c a))=some (l.map c)
 |[]=>rfl
 | a::l=>by
  rw[z1h,boolsOf,Fg];rfl
theorem qH {α:Type} {c:α->Int}:∀{l:List α},intsOf (l.map λ a=> .int (c a))=some (l.map c)
 |[]=>rfl
 | a::l=>by
  rw[z1h,intsOf,qH];rfl
theorem Ih {α:Type} {c:α->D} {n:Nat}:∀{l:List α},(∀a∈l,dep (c a)<=n)->deps (l.map c)<=n
 |[],_=>by rw[List.map_nil,deps];omega
 | a::l,h=>by
  rw[z1h,deps];have:=h a (by simp);have:=Ih (l:=l) λ b hb=>h b (by simp[hb]);omega
theorem uc {e:D} (h:d=e) (hd:dep d<=40):kh d e= .ok (.bl false):=by
 subst h;rw[kh,if_pos hd,Dv];rfl
theorem Zn {e:D} (h:d=e) (hd:dep d<=40):pA d e= .ok (.bl true):=by
 subst h;rw[pA,if_pos hd,Dv]
theorem all_true:(l.map λ _=>true).all id=true:=by
 induction l with
 |nil=>rfl
 |cons a l ih=>rw[z1h,List.all_cons,ih];rfl
theorem atI_nat {xs:List α} {j:Nat} (h:j < xs.length):atI xs (j:Int)=some xs[j]:=by
 unfold atI ixN;rw[if_pos (by omega),if_pos (by omega),Int.toNat_natCast,Option.bind_some,List.getElem?_eq_getElem h]
theorem RJ {xs:List α} (h0:0<=i) (h1:i < xs.length):∃x∈xs,atI xs i=some x:=by
 obtain⟨j,rfl⟩:=Int.eq_ofNat_of_zero_le h0;have hj:j < xs.length:=by omega
 exact⟨xs[j],List.getElem_mem hj,atI_nat hj⟩
theorem bN {n:Nat} {caps:List Nat} {fi:ao->R (List D)} {ft:ao->R Bool} {fe:ao->R D} {c h:α->D} (e1:fi ρ= .ok (l.map c)) (hl:l.length<=1000000)
  (e2:∀a∈l,pI gt ft fe (qu n caps ρ) (c a)= .ok (some (h a))):bA n caps fi gt ft fe ρ= .ok (.lst (l.map h)):=by
 rw[bA,e1,R.bC,RG e2,R.bC,cap,if_pos (by rw[z1g];exact hl)]
def look:List (Int×Int)->Int->Int
 |[],_=>0
 |(k,v)::r,c=>if k=c then v else look r c
abbrev keys (ps:List (Int×Int)):List Int:=ps.map (·.1)
section
variable {ρ ρ':ao} {f g:ao->R D} {fa:ao->R (List D)} {p q:ao->R Bool} {x y d:D} {xs ds:List D} {r:R D} {k:D->D->R D} {c:List D->R D} {n:Nat} {F:List D->R D} {o:So} {s t:ao->So} {gt:D->ao->R ao} {b:Bool}
theorem aV (e:fa ρ= .ok ds) (h:c ds=r):aB c fa ρ=r:=by rw[aB,e];exact h
theorem aW (e:fa ρ= .ok ds) (h:F ds= .ok d) (hl:ds.length=n:=by rfl):aB (aQ F n) fa ρ= .ok d:=by rw[aB,e,R.bC,aQ,if_pos hl,h];rfl
theorem aD (e1:f ρ= .ok x) (e2:fa ρ= .ok xs):ak f fa ρ= .ok (x::xs):=by rw[ak,e1,R.bC,e2];rfl
theorem aA (e:f ρ= .ok x):ak f (λ _=> .ok []) ρ= .ok [x]:=aD e rfl
theorem au (e1:f ρ= .ok x) (e2:g ρ= .ok y) (h:k x y=r):bin f g k ρ=r:=by rw[bin,e1,R.bC,e2];exact h
theorem ud (e1:f ρ= .ok (.bl true)) (e2:g ρ=r):tM f g ρ=r:=by rw[tM,e1];exact e2
theorem zp {h:ao->R D} {l:D->D->R D} {z:D} (e1:f ρ= .ok x) (e2:g ρ= .ok y) (e3:k x y= .ok (.bl true)) (e4:h ρ= .ok z) (e5:l y z=r):Ci f g h k l ρ=r:=by
 rw[Ci,e1,R.bC,e2,R.bC,e3,R.bC];show (h ρ).bind _=_;rw[e4];exact e5
theorem dh (e:fa ρ= .ok ds) (h:ds.length<=1000000:=by exact Nat.le_of_ble_eq_true rfl):eE fa ρ= .ok (.tup ds):=by rw[eE,e,R.bC,cap,if_pos h]
theorem jw (e:fa ρ= .ok ds) (h:ds.length<=1000000:=by exact Nat.le_of_ble_eq_true rfl):nj fa ρ= .ok (.lst ds):=by rw[nj,e,R.bC,cap,if_pos h]
theorem ady (e:f ρ= .ok (.tup ds)):T7 f ρ= .ok (.tup ds.reverse):=by rw[T7,e];rfl
theorem iz (e:f ρ= .ok (.tup ds)):cU f ρ= .ok ds:=by rw[cU,e];rfl
theorem iB (e:f ρ= .ok (.lst ds)):cU f ρ= .ok ds:=by rw[cU,e];rfl
theorem jT {m:Nat} (e:fa ρ= .ok [.int (m:Int)]) (h:m < 2 ^ 62):(λ ρ=>(fa ρ).bind iG) ρ= .ok ((List.range m).map λ (i:Nat)=>D.int (i:Int)):=by
 show (fa ρ).bind iG=_;rw[e,R.bC,iG,if_pos ⟨by have:(0:Int)<=m:=Int.natCast_nonneg m;omega,by omega⟩];simp[upto]
theorem cu {ρ1:ao} (e1:gt x ρ= .ok ρ1) (e2:f ρ1= .ok d):pI gt (λ _=> .ok true) f ρ x= .ok (some d):=by
 rw[pI,e1,R.bC,R.bC,if_pos rfl,e2];rfl
theorem bf (e:f ρ= .ok (.bl b)):bU f ρ= .ok b:=by rw[bU,e];rfl
theorem iK (e:p ρ= .ok b):kI p ρ= .ok (!b):=by rw[kI,e];rfl
theorem zq (e1:p ρ= .ok false) (e2:q ρ= .ok b):JH p q ρ= .ok b:=by rw[JH,e1,R.bC,if_neg (by decide)];exact e2
theorem wu (e1:p ρ= .ok true) (e2:q ρ= .ok b):ni p q ρ= .ok b:=by rw[ni,e1,R.bC,if_pos rfl];exact e2
theorem Ii (e1:p ρ= .ok false):ni p q ρ= .ok false:=by rw[ni,e1,R.bC,if_neg (by decide)]
theorem oA {i:Nat} (h:xs[i]?=some d):bF (.tup xs) (.int (i:Int))= .ok d:=by
 obtain⟨hi,e⟩:=z1b h;rw[bF,atI_nat hi,e]
theorem LQ {i:Nat} (h:xs[i]?=some d):bF (.lst xs) (.int (i:Int))= .ok d:=by
 obtain⟨hi,e⟩:=z1b h;rw[bF,atI_nat hi,e]
theorem aK (e1:s ρ= .nx ρ') (e2:t ρ'=o):aO s t ρ=o:=by rw[aO,e1];exact e2
theorem bJ (e:f (cG ρ)= .ok d):retS f ρ= .rt d:=by rw[retS,e];rfl
theorem aZ (e:f ρ= .ok d) (e2:gt d ρ= .ok ρ'):bB f gt ρ= .nx ρ':=by rw[bB,e];show (match gt d ρ with | .ok ρ'=>So.nx ρ' |_=> .bad)=_;rw[e2]
theorem jV (e:f (cG ρ)= .ok d):lO f ρ= .nx ρ:=by rw[lO,e];rfl
theorem gP (e:p (cG ρ)= .ok true) (e2:s ρ=o):fB p s t ρ=o:=by rw[fB,e];exact e2
theorem cL (e:p (cG ρ)= .ok false) (e2:t ρ=o):fB p s t ρ=o:=by rw[fB,e];exact e2
theorem cC {m:Nat} (e:s (ds.map (λ d=>some (.val d))++List.replicate m none)= .rt d):cj m s ds= .ok d:=by rw[cj,e]
theorem Fi {m:Nat} (e:s (ds.map (λ d=>some (.val d))++List.replicate m none)= .nx ρ):cj m s ds= .ok .non:=by rw[cj,e]
theorem mL (h:(-(2 ^ 64) < i/\i < 2 ^ 64)\/(-(2 ^ 64) < j/\j < 2 ^ 64)):iC (.int i) (.int j)= .ok (.int (i*j)):=by
 show (if _ then _ else _)=_;rw[if_pos h]
theorem lu (h:0 < j/\j < 2 ^ 64):d9 (.int i) (.int j)= .ok (.int (i / j)):=by
 show (if _ then _ else _)=_;rw[if_pos h]
theorem mO (h:0 < j):fW (.int i) (.int j)= .ok (.int (i % j)):=by
 show (if _ then _ else _)=_;rw[if_pos h]
theorem sS:qT [.lst (l.map λ _=> .bl true)]= .ok (.bl true):=by
 have:=Fg (c:=λ _:α=>true) (l:=l);rw[qT,this];show R.ok (D.bl _)=_;rw[all_true]
theorem RK {c:α->Int}:pL [.lst (l.map λ a=> .int (c a))]= .ok (.int (l.map c).sum):=by rw[pL,qH]
theorem abv {c:α->Int}:pL [.tup (l.map λ a=> .int (c a))]= .ok (.int (l.map c).sum):=by rw[pL,qH]
end
def Ij:ao->So:=(aO (bB (bin (λ _=> .ok (.int 7)) (λ ρ=>bL ρ 1) iC) (aF 3)) (aO (fB (bU (bin (λ ρ=>bL ρ 0) (nj (λ _=> .ok [])) kh)) (aO (bB (bin (λ ρ=>bL ρ 0) (bin (λ ρ=>bL ρ 1) (aB bZ (ak (λ ρ=>bL ρ 0) (λ _=> .ok []))) fW) bF) (aF 3)) (aO (bB (bin (λ ρ=>bL ρ 1) (aB bZ (ak (λ ρ=>bL ρ 0) (λ _=> .ok []))) d9) (aF 4)) (aO (fB (ni (bU (bin (λ ρ=>bL ρ 3) (bin (λ _=> .ok (.int 10)) (λ _=> .ok (.int 18)) vg) Wh)) (bU (bin (λ ρ=>bL ρ 4) (λ _=> .ok (.int 60)) ltI))) (aO (bB (bin (λ ρ=>bL ρ 3) (bin (λ _=> .ok (.int 10)) (λ _=> .ok (.int 18)) vg) d9) (aF 5)) (aO (gH (ni (bU (bin (λ ρ=>bL ρ 5) (λ _=> .ok (.int 0)) rM)) (bU (bin (λ ρ=>bL ρ 4) (λ _=> .ok (.int 0)) rM))) (aO (bB (bin (λ ρ=>bL ρ 5) (λ _=> .ok (.int 1000000)) d9) (aF 5)) (bB (bin (λ ρ=>bL ρ 4) (λ _=> .ok (.int 1)) fV) (aF 4))) 64) (fB (bU (bin (λ ρ=>bL ρ 5) (λ _=> .ok (.int 0)) rM)) (retS (bin (bin (λ ρ=>bL ρ 5) (λ _=> .ok (.int 1000000)) fW) (λ ρ=>bL ρ 2) fW)) So.nx))) So.nx) (bB (bin (λ ρ=>bL ρ 3) (bin (λ _=> .ok (.int 6553)) (bin (λ ρ=>bL ρ 1) (aB bZ (ak (λ ρ=>bL ρ 0) (λ _=> .ok []))) d9) iC) fL) (aF 3))))) So.nx) (aO (bB (bin (bin (bin (bin (λ ρ=>bL ρ 3) (λ _=> .ok (.int 2147483563)) fW) (λ _=> .ok (.int 69069)) iC) (bin (λ _=> .ok (.int 104723)) (bin (λ ρ=>bL ρ 1) (λ _=> .ok (.int 1)) fL) iC) fL) (λ _=> .ok (.int 2147483563)) fW) (aF 3)) (aO (bB (bin (bin (bin (λ ρ=>bL ρ 3) (λ ρ=>bL ρ 3) iC) (bin (λ ρ=>bL ρ 3) (λ _=> .ok (.int 3)) d9) fL) (λ _=> .ok (.int 2147483399)) fW) (aF 3)) (retS (bin (bin (bin (bin (bin (λ ρ=>bL ρ 3) (λ ρ=>bL ρ 3) iC) (bin (λ ρ=>bL ρ 3) (λ _=> .ok (.int 7)) d9) fL) (λ _=> .ok (.int 2147483647)) fW) (λ _=> .ok (.int 11)) d9) (λ ρ=>bL ρ 2) fW))))))
def tailD:ao->So:=(aO (bB (bin (bin (bin (bin (λ ρ=>bL ρ 3) (λ _=> .ok (.int 2147483563)) fW) (λ _=> .ok (.int 69069)) iC) (bin (λ _=> .ok (.int 104723)) (bin (λ ρ=>bL ρ 1) (λ _=> .ok (.int 1)) fL) iC) fL) (λ _=> .ok (.int 2147483563)) fW) (aF 3)) (aO (bB (bin (bin (bin (λ ρ=>bL ρ 3) (λ ρ=>bL ρ 3) iC) (bin (λ ρ=>bL ρ 3) (λ _=> .ok (.int 3)) d9) fL) (λ _=> .ok (.int 2147483399)) fW) (aF 3)) (retS (bin (bin (bin (bin (bin (λ ρ=>bL ρ 3) (λ ρ=>bL ρ 3) iC) (bin (λ ρ=>bL ρ 3) (λ _=> .ok (.int 7)) d9) fL) (λ _=> .ok (.int 2147483647)) fW) (λ _=> .ok (.int 11)) d9) (λ ρ=>bL ρ 2) fW))))
def adz:ao->So:=(fB (ni (bU (bin (λ ρ=>bL ρ 3) (bin (λ _=> .ok (.int 10)) (λ _=> .ok (.int 18)) vg) Wh)) (bU (bin (λ ρ=>bL ρ 4) (λ _=> .ok (.int 60)) ltI))) (aO (bB (bin (λ ρ=>bL ρ 3) (bin (λ _=> .ok (.int 10)) (λ _=> .ok (.int 18)) vg) d9) (aF 5)) (aO (gH (ni (bU (bin (λ ρ=>bL ρ 5) (λ _=> .ok (.int 0)) rM)) (bU (bin (λ ρ=>bL ρ 4) (λ _=> .ok (.int 0)) rM))) (aO (bB (bin (λ ρ=>bL ρ 5) (λ _=> .ok (.int 1000000)) d9) (aF 5)) (bB (bin (λ ρ=>bL ρ 4) (λ _=> .ok (.int 1)) fV) (aF 4))) 64) (fB (bU (bin (λ ρ=>bL ρ 5) (λ _=> .ok (.int 0)) rM)) (retS (bin (bin (λ ρ=>bL ρ 5) (λ _=> .ok (.int 1000000)) fW) (λ ρ=>bL ρ 2) fW)) So.nx))) So.nx)
def wcD:ao->R Bool:=(ni (bU (bin (λ ρ=>bL ρ 5) (λ _=> .ok (.int 0)) rM)) (bU (bin (λ ρ=>bL ρ 4) (λ _=> .ok (.int 0)) rM)))
def wbD:ao->So:=(aO (bB (bin (λ ρ=>bL ρ 5) (λ _=> .ok (.int 1000000)) d9) (aF 5)) (bB (bin (λ ρ=>bL ρ 4) (λ _=> .ok (.int 1)) fV) (aF 4)))
section
variable {S s0 s1 s2 s3 x y:Option Ent} {k m c:Int}
theorem tail_eq (hm:0 < m):∃v,tailD [S,some (.val (.int k)),some (.val (.int m)),some (.val (.int c)),x,y]= .rt (.int v)/\0<=v/\v < m:=by
 refine⟨_,aK (aZ (au (au (au (au rfl rfl (mO (by omega))) rfl (mL (.inr ⟨by omega,by omega⟩))) (au rfl (au rfl rfl rfl) (mL (.inl ⟨by omega,by omega⟩))) rfl) rfl (mO (by omega))) rfl)
  (aK (aZ (au (au (au rfl rfl (mL (.inl ?b1))) (au rfl rfl (lu ⟨by omega,by omega⟩)) rfl) rfl (mO (by omega))) rfl)
  (bJ (au (au (au (au (au rfl rfl (mL (.inl ?b2))) (au rfl rfl (lu ⟨by omega,by omega⟩)) rfl) rfl (mO (by omega))) rfl (lu ⟨by omega,by omega⟩)) rfl (mO hm)))),Int.emod_nonneg _ (by omega),Int.emod_lt_of_pos _ hm⟩
 case b1=>
  have h1:=Int.emod_nonneg (c % 2147483563*69069+104723*(k+1)) (b:=2147483563) (by omega);have h2:=Int.emod_lt_of_pos (c % 2147483563*69069+104723*(k+1)) (b:=2147483563) (by omega);constructor <;> omega
 case b2=>
  generalize (c % 2147483563*69069+104723*(k+1)) % 2147483563=z
  have h1:=Int.emod_nonneg (z*z+z / 3) (b:=2147483399) (by omega);have h2:=Int.emod_lt_of_pos (z*z+z / 3) (b:=2147483399) (by omega);constructor <;> omega
theorem uZ:rM (.int i) (.int j)= .ok (.bl (decide (j < i))):=rfl
theorem LR:∀{n:Nat} {t r:Int},0<=t->t < n->∃t' r',gH wcD wbD n [s0,s1,s2,s3,some (.val (.int t)),some (.val (.int r))]= .nx [s0,s1,s2,s3,some (.val (.int t')),some (.val (.int r'))]
 |0,t,r,h0,h1=>by omega
 | n + 1,t,r,h0,h1=>by
  rw[gH];by_cases hr:0 < r
  ·by_cases ht:0 < t
   ·obtain⟨t',r',e⟩:=LR (n:=n) (t:=t - 1) (r:=r / 1000000) (by omega) (by omega);refine⟨t',r',?_⟩;have e1:wcD (cG [s0,s1,s2,s3,some (.val (.int t)),some (.val (.int r))])= .ok true:=wu (bf (au rfl rfl (by rw[uZ,decide_eq_true hr]))) (bf (au rfl rfl (by rw[uZ,decide_eq_true ht])));have e2:wbD [s0,s1,s2,s3,some (.val (.int t)),some (.val (.int r))]= .nx [s0,s1,s2,s3,some (.val (.int (t - 1))),some (.val (.int (r / 1000000)))]:=aK (aZ (au rfl rfl (lu ⟨by omega,by omega⟩)) rfl) (aZ (au rfl rfl rfl) rfl);simp only[e1,e2];exact e
   ·refine⟨t,r,?_⟩;have e1:wcD (cG [s0,s1,s2,s3,some (.val (.int t)),some (.val (.int r))])= .ok false:=wu (bf (au rfl rfl (by rw[uZ,decide_eq_true hr]))) (bf (au rfl rfl (by rw[uZ,decide_eq_false ht])));simp only[e1]
  ·refine⟨t,r,?_⟩;have e1:wcD (cG [s0,s1,s2,s3,some (.val (.int t)),some (.val (.int r))])= .ok false:=Ii (bf (au rfl rfl (by rw[uZ,decide_eq_false hr])));simp only[e1]
theorem Fj:vg (.int 10) (.int 18)= .ok (.int 1000000000000000000):=by
 unfold vg iD;simp only[];rw[if_pos ⟨by decide,by decide,by decide⟩];rfl
theorem adA {t:Int} (hm:0 < m) (ht:0<=t):(∃t' x',adz [S,some (.val (.int k)),some (.val (.int m)),some (.val (.int c)),some (.val (.int t)),x]= .nx [S,some (.val (.int k)),some (.val (.int m)),some (.val (.int c)),some (.val (.int t')),x'])\/
  ∃v,adz [S,some (.val (.int k)),some (.val (.int m)),some (.val (.int c)),some (.val (.int t)),x]= .rt (.int v)/\0<=v/\v < m:=by
 by_cases h1:1000000000000000000<=c
 ·by_cases h2:t < 60
  ·have e:(ni (bU (bin (λ ρ=>bL ρ 3) (bin (λ _=> .ok (.int 10)) (λ _=> .ok (.int 18)) vg) Wh)) (bU (bin (λ ρ=>bL ρ 4) (λ _=> .ok (.int 60)) ltI))) (cG [S,some (.val (.int k)),some (.val (.int m)),some (.val (.int c)),some (.val (.int t)),x])= .ok true:=
    wu (bf (au rfl (au rfl rfl Fj) (by show R.ok (D.bl (decide _))=_;rw[decide_eq_true h1]))) (bf (au rfl rfl (by show R.ok (D.bl (decide _))=_;rw[decide_eq_true h2])))
   obtain⟨t',r',ew⟩:=LR (s0:=S) (s1:=some (.val (.int k))) (s2:=some (.val (.int m))) (s3:=some (.val (.int c))) (n:=64) (t:=t) (r:=c / 1000000000000000000) ht (by omega);by_cases h3:0 < r'
   ·exact .inr ⟨_,gP e (aK (aZ (au rfl (au rfl rfl Fj) (lu ⟨by omega,by omega⟩)) rfl) (aK ew (gP (bf (au rfl rfl (by rw[uZ,decide_eq_true h3]))) (bJ (au (au rfl rfl (mO (by omega))) rfl (mO hm)))))),Int.emod_nonneg _ (by omega),Int.emod_lt_of_pos _ hm⟩
   ·exact .inl ⟨t',some (.val (.int r')),gP e (aK (aZ (au rfl (au rfl rfl Fj) (lu ⟨by omega,by omega⟩)) rfl) (aK ew (cL (bf (au rfl rfl (by rw[uZ,decide_eq_false h3]))) rfl)))⟩
  ·exact .inl ⟨t,x,cL (wu (bf (au rfl (au rfl rfl Fj) (by show R.ok (D.bl (decide _))=_;rw[decide_eq_true h1]))) (bf (au rfl rfl (by show R.ok (D.bl (decide _))=_;rw[decide_eq_false h2])))) rfl⟩
 ·exact .inl ⟨t,x,cL (Ii (bf (au rfl (au rfl rfl Fj) (by show R.ok (D.bl (decide _))=_;rw[decide_eq_false h1])))) rfl⟩
end
theorem lR {s t:ao->So} (e1:s ρ= .rt d):aO s t ρ= .rt d:=by rw[aO,e1]
theorem Fo (h:atI xs i=some d):bF (.lst xs) (.int i)= .ok d:=by rw[bF,h]
theorem Zo {ns:List Int} {k m:Int} (hl:ns.length<=1000000) (hk:0<=k) (hm:0 < m):∃v,cj 3 Ij [.lst (ns.map .int),.int k,.int m]= .ok (.int v)/\0<=v/\v < m:=by
 have hd:dep (.lst (ns.map .int))<=40:=by
  rw[dep];have:=Ih (c:=D.int) (n:=0) (l:=ns) (λ a _=>by simp[dep]);omega
 cases ns with
 | nil=>
  obtain⟨v,e,h⟩:=tail_eq (S:=some (.val (.lst []))) (k:=k) (c:=7*k) (x:=none) (y:=none) hm;exact⟨v,cC (aK (aZ (au rfl rfl (mL (.inl ⟨by omega,by omega⟩))) rfl) (aK (cL (bf (au rfl (jw rfl) (uc rfl hd))) rfl) e)),h⟩
 | cons a ns=>
  have hn:kh (.lst ((a::ns).map .int)) (.lst [])= .ok (.bl true):=by
   rw[kh,if_pos hd];rfl
  have hlen:(0:Int) < (((a::ns).map D.int).length:Int):=by rw[z1g,List.length_cons];omega
  have hlen2:(((a::ns).map D.int).length:Int) < 2 ^ 64:=by rw[z1g];omega
  obtain⟨d,hd1,hd2⟩:=RJ (xs:=(a::ns).map D.int) (i:=k % (((a::ns).map D.int).length:Int)) (Int.emod_nonneg _ (by omega)) (Int.emod_lt_of_pos _ hlen);obtain⟨c,-,rfl⟩:=List.mem_map.mp hd1;have ht:0<=k / (((a::ns).map D.int).length:Int):=Int.ediv_nonneg hk (by omega)
  generalize hL:(((a::ns).map D.int).length:Int)=L at *
  have Fp:∀(S x1 x2 x3 x4 x5:Option Ent),S=some (Ent.val (.lst ((a::ns).map D.int)))->aB bZ (ak (λ ρ=>bL ρ 0) (λ _=> .ok [])) [S,x1,x2,x3,x4,x5]= .ok (.int L):=by
   intro S x1 x2 x3 x4 x5 e;subst e;rw[<-hL];exact aV (aA rfl) rfl
  rcases adA (S:=some (.val (.lst ((a::ns).map .int)))) (k:=k) (m:=m) (c:=c) (x:=none) hm ht with⟨t',x',e⟩ |⟨v,e,h⟩
  ·obtain⟨v,e2,h⟩:=tail_eq (S:=some (.val (.lst ((a::ns).map .int)))) (k:=k) (c:=c+6553*(k / L)) (x:=some (.val (.int t'))) (y:=x') hm;exact⟨v,cC (aK (aZ (au rfl rfl (mL (.inl ⟨by omega,by omega⟩))) rfl) (aK (gP (bf (au rfl (jw rfl) hn))
    (aK (aZ (au rfl (au rfl (Fp _ _ _ _ _ _ rfl) (mO hlen)) (Fo hd2)) rfl) (aK (aZ (au rfl (Fp _ _ _ _ _ _ rfl) (lu ⟨hlen,hlen2⟩)) rfl) (aK e (aZ (au rfl (au rfl (au rfl (Fp _ _ _ _ _ _ rfl) (lu ⟨hlen,hlen2⟩)) (mL (.inl ⟨by omega,by omega⟩))) rfl) rfl))))) e2)),h⟩
  ·exact⟨v,cC (aK (aZ (au rfl rfl (mL (.inl ⟨by omega,by omega⟩))) rfl) (lR (gP (bf (au rfl (jw rfl) hn))
    (aK (aZ (au rfl (au rfl (Fp _ _ _ _ _ _ rfl) (mO hlen)) (Fo hd2)) rfl) (aK (aZ (au rfl (Fp _ _ _ _ _ _ rfl) (lu ⟨hlen,hlen2⟩)) rfl) (lR e)))))),h⟩
theorem cX {ρ1 ρ2:ao} {b:ao->So} {x:D} {o:So} (e1:gt x ρ= .ok ρ1) (e2:b ρ1= .nx ρ2) (e3:forL gt b xs ρ2=o):forL gt b (x::xs) ρ=o:=by
 rw[forL];simp only[e1,e2];exact e3
theorem iM {fi:ao->R (List D)} {b:ao->So} {o:So} (e1:fi ρ= .ok xs) (e2:forL gt b xs ρ=o):j7 fi gt b ρ=o:=by
 rw[j7,e1];exact e2
theorem abw {i k:Nat} {f:ao->R D} {fa:ao->R (List D)} {ds:List D} (e1:f ρ= .ok d) (e2:fa ρ= .ok ds) (h:ds.length<=1000000:=by exact Nat.le_of_ble_eq_true rfl):LC i k f fa ρ= .nx ((ρ.set i (some (.val d))).set k (some (.lst ds))):=by
 unfold LC;rw[e1];simp only[fj,e2];rw[if_pos h]
theorem abx {i k:Nat} {f g:ao->R D} {e:D} (e1:f ρ= .ok d) (e2:g ρ= .ok e):Lz i k f g ρ= .nx ((ρ.set i (some (.val d))).set k (some (.val e))):=by
 unfold Lz;rw[e1];simp only[fj,e2]
def dr (ns:List Int) (k m:Int):Int:=match cj 3 Ij [.lst (ns.map .int),.int k,.int m] with
 | .ok (.int v)=>v
 |_=>0
theorem Fq {ns:List Int} {k m:Int} (hl:ns.length<=1000000) (hk:0<=k) (hm:0 < m):cj 3 Ij [.lst (ns.map .int),.int k,.int m]= .ok (.int (dr ns k m))/\0<=dr ns k m/\dr ns k m < m:=by
 obtain⟨v,e,h⟩:=Zo hl hk hm;have:dr ns k m=v:=by rw[dr,e]
 rw[this];exact⟨e,h⟩
end Pu
namespace Pu
open PySem PySem.Spec L2
open PyProof.Rows hiding St
variable {l it f l1 l2 i1 i2:Addr} {params:Arguments} {xs:Array Value} {t t1 t2:Bool} {gt:D->ao->R ao} {tg iter elt:Expr} {fd:FuncData} {h h':Heap} {H:Hp} {ts:List (Addr×Str)} {clos:List (Str×Addr)} {ifs:List Expr} {body:List Stmt} {N ps:List Str} {zs vs:List V} {k n i:Nat} {pos px pos':Pos} {P:Program} {K:PySem.W.Frag} {ρ:ao} {fi:ao->R (List D)} {ft:ao->R Bool} {fe:ao->R D} {scope:Scope} {σ:St} {st:Stmt} {qual y name:Str} {mg:Str->Option Value} {α:Type} {Q:Value->Shared->Prop} {w:World}
section
variable {X:Cx}
def zu:List D->R D
 |[.int i]=> .ok (.int (if i < 0 then -i else i))
 |_=> .bad
theorem Ft:CallD X (.builtin "abs") zu:=by
 refine⟨_,call_abs,λ ρ O σ H Q xs ds j r h=>?_⟩;unfold zu at h;split at h
 ·rename_i i;obtain⟨x,rfl,rx⟩:=r.one;exact⟨i,by rw[rx.int],fin h (cB _)⟩
 ·exact h.elim
def maxD:List D->R D
 |[.int i,.int j]=> .ok (.int (if j > i then j else i))
 |_=> .bad
theorem Fv (hc:X.calm=true):CallD X (.builtin "max") maxD:=by
 refine⟨_,call_max2 hc,λ ρ O σ H Q xs ds j r h=>?_⟩;unfold maxD at h;split at h
 ·rename_i i k;obtain⟨x,y,rfl,rx,ry⟩:=r.two;exact⟨i,k,by rw[rx.int,ry.int],fin h (cB _)⟩
 ·exact h.elim
def minD:List D->R D
 |[.int i,.int j]=> .ok (.int (if j < i then j else i))
 |_=> .bad
theorem zx (hc:X.calm=true):CallD X (.builtin "min") minD:=by
 refine⟨_,call_min2 hc,λ ρ O σ H Q xs ds j r h=>?_⟩;unfold minD at h;split at h
 ·rename_i i k;obtain⟨x,y,rfl,rx,ry⟩:=r.two;exact⟨i,k,by rw[rx.int,ry.int],fin h (cB _)⟩
 ·exact h.elim
def T8:D->Bool
 | .non=>true
 |_=>false
theorem aby {O:Addr->Prop} {d:D} {v:V} (r:Rep K O H d v):decide (v= .non)=T8 d:=by
 cases d with
 |non=>rw[r.non];rfl
 |bl b=>rw[r.bl];rfl
 |int i=>rw[r.int];rfl
 |str x=>rw[r.str];rfl
 |tup ds=>obtain⟨a,xs,rfl,_⟩:=r.tup;rfl
 |lst ds=>obtain⟨a,xs,rfl,_⟩:=r.lst;rfl
def isD:D->D->R D
 |d,.non=> .ok (.bl (T8 d))
 |_,_=> .bad
theorem Lf:jt X (compareOp .Is) isD:=by
 refine⟨_,op_isN,λ ρ O σ H Q x y dx dy j0 rx ry h=>?_⟩;cases dy with
 |non=>exact⟨ry.non,by rw[aby rx];exact fin (a:=D.bl (T8 dx)) h (gM _)⟩
 |_=>cases dx <;> exact h.elim
theorem abz:OpR X (binaryOp .Add) (λ x y H Q=>∃a b ys,x= .ref a/\y= .ref b/\SqT X.K H a []/\SqT X.K H b ys/\Q (.ref b) H):=by
 intro pins s σ H x y v u Q I rx ry h;obtain⟨a,b,ys,rfl,rfl,ha,hb,q⟩:=h;cases rx;cases ry;obtain⟨its,r1,p1,_⟩:=I.tuple ha;obtain⟨its2,r2,p2,_⟩:=I.tuple hb;cases r1;obtain⟨⟨cls,dd,data,sl⟩,ho,hc,n,hd⟩:=id p1;obtain⟨⟨cls2,dd2,data2,sl2⟩,ho2,hc2,n2,hd2⟩:=id p2;simp only at hc hd hc2 hd2;subst hc hd hc2 hd2;exact concat_meets ⟨_,ho,rfl⟩ ⟨_,ho2,rfl⟩ noFill_tuple_add seq_tuple_add PySem.F.slot_tuple_add PySem.F.entry_tuple_add (PySem.F.args_tuple_add_2 _ _)
   (tuple_addW0 a b _ _ n n2 dd dd2 sl sl2 rfl) ⟨ho,ho2,⟨.ref b,H,I,rfl,q⟩⟩
def agt:D->R D
 | .int i=> .ok (.int (-i))
 |_=> .bad
def Ma (f:ao->R D):ao->R D:=λ ρ=>(f ρ).bind agt
theorem Mf {e:Expr} {f:ao->R D} (he:DE X e f):DE X (.UnaryOp .USub e pos) (Ma f):=by
 refine PE.imp (pe_un un_neg he) λ σ H Q h=>?_;obtain⟨ρ,O,j,h⟩:=h;refine go j h λ d v H1 e1 s1 r1 j1 h1=>?_;cases d with
 |int i=>exact⟨i,r1.int,fin h1 (cB _)⟩
 |_=>exact h1.elim
theorem abA:OpR X (binaryOp .Add) (λ x y H Q=>∃a b xs ys,x= .ref a/\y= .ref b/\SqL X.K H a xs/\SqL X.K H b ys/\xs.length+ys.length<=sizeLine/\∀p,H p=none->Q (.ref p) (upd H p (.lst (xs++ys)))):=by
 intro pins s σ H x y v u Q I rx ry h;obtain⟨a,b,xs,ys,rfl,rfl,ha,hb,hz,q⟩:=h;cases rx;cases ry;obtain⟨its,r1,p1,_⟩:=I.list ha;obtain⟨its2,r2,p2,_⟩:=I.list hb;obtain⟨⟨cls,dd,data,sl⟩,n,ho,hc,hdd,hd⟩:=id p1;obtain⟨⟨cls2,dd2,data2,sl2⟩,n2,ho2,hc2,agu,hd2⟩:=id p2;simp only at hc hd hc2 hd2;subst hc hd hc2 hd2;refine concat_meets ⟨_,ho,rfl⟩ ⟨_,ho2,rfl⟩ noFill_list_add seq_list_add PySem.F.slot_list_add PySem.F.entry_list_add (PySem.F.args_list_add_2 _ _)
   (list_addW a b _ _ n n2 dd dd2 sl sl2 (by rw[z1c,z1c,<-r1.length,<-r2.length];exact hz)) ⟨ho,ho2,?_⟩
 have ea:its.toArray++its2.toArray=(its++its2).toArray:=by simp
 rw[ea];exact⟨.ref _,_,I.lnew (t':=s.toks) (r1.append r2) (by rw[z1d];omega),rfl,q _ I.fresh⟩
def cH:D->D->R D
 | .int i,.int j=> .ok (.int (i+j))
 | .tup xs,.tup ys=>if xs.length+ys.length<=1000000 then .ok (.tup (xs++ys)) else .bad
 | .lst xs,.lst ys=>if xs.length+ys.length<=1000000 then .ok (.lst (xs++ys)) else .bad
 |_,_=> .bad
theorem cg:jt X (binaryOp .Add) cH:=by
 refine⟨_,OpR.or op_add (OpR.or op_catT (OpR.or abz abA)),λ ρ O σ H Q x y dx dy j0 rx ry h=>?_⟩;cases dx <;> cases dy <;> first
  |exact h.elim
  |skip
 ·rename_i i j;exact .inl ⟨i,j,rx.int,ry.int,fin h (cB _)⟩
 ·rename_i xs ys;have h:good X (rD X) O (if xs.length+ys.length<=1000000 then .ok (.tup (xs++ys)) else .bad) σ H Q:=h;by_cases hc:xs.length+ys.length<=1000000
  ·rw [if_pos hc] at h;obtain⟨a,us,rfl,ha,r1⟩:=rx.tup;obtain⟨b,ws,rfl,hb,r2⟩:=ry.tup;by_cases hx:us=[]
   ·subst hx;have:xs=[]:=List.eq_nil_of_length_eq_zero r1.length;subst this;exact .inr (.inr (.inl ⟨a,b,ws,rfl,rfl,ha,hb,fin h (iV hb r2)⟩))
   ·refine .inr (.inl ⟨a,b,us,ws,rfl,rfl,ha,hb,hx,?_,λ z=>?_,λ z l hl=>?_⟩)
    ·rw[<-r1.length,<-r2.length];exact z0b hc dO
    ·subst z;have:ys=[]:=List.eq_nil_of_length_eq_zero r2.length;subst this;rw[List.append_nil] at h;exact fin h (iV ha r1)
    ·exact h _ _ (Same.upd hl) (Rep.pF hl (r1.append r2))
  ·rw[if_neg hc] at h;exact h.elim
 ·rename_i xs ys;have h:good X (rD X) O (if xs.length+ys.length<=1000000 then .ok (.lst (xs++ys)) else .bad) σ H Q:=h;by_cases hc:xs.length+ys.length<=1000000
  ·rw[if_pos hc] at h;obtain⟨a,us,rfl,ha,_,r1⟩:=rx.lst;obtain⟨b,ws,rfl,hb,_,r2⟩:=ry.lst;refine .inr (.inr (.inr ⟨a,b,us,ws,rfl,rfl,ha,hb,?_,λ l hl=>?_⟩))
   ·rw[<-r1.length,<-r2.length];exact z0b hc dO
   ·exact h _ _ (Same.upd hl) (Rep.nD hl (j0.qR hl) (r1.append r2))
  ·rw[if_neg hc] at h;exact h.elim
end
section
variable {prog:Program} {w:World} {A:Around} {E:Value->Shared->Prop} {s:Shared}
open HT in
theorem yZ {t sl:Addr} {items:Array Value} {vl vu:Value} {lo hi:Option Int} (ht:IsTup s.heap t items) (hs:s.heap.IsSliceOf sl vl vu .none) (pl:IsPart vl lo) (pu:IsPart vu hi)
  (hw:sIx items.size 0 lo=0/\sIx items.size items.size hi=items.size) (h:Q (.ref t) s):wpAny (model prog w) A (getItem (.ref t) (.ref sl)) Q E s:=by
 obtain⟨os,hos,hcs,hds⟩:=id hs;have hTs:s.TypeIs (.ref sl) "slice" :=⟨os,hos,hcs⟩;unfold getItem
 try with_reducible refine wpAny_holding ?_
 first |refine wpAny_bind (wpAny_pure ?_) |skip
 refine wpAny_bind (wpAny_sequenceKey ht.typeIs (by decide) ?_);refine wpAny_bind (wpAny_callSpecial?_slot (name:=Str.ofString "__getitem__") ht.typeIs PyProof.Rows.slot_tuple_getitem
  (wpAny_call_entry PyProof.Rows.slot_tuple_getitem ht.typeIs entry_tuple_getitem ?_ (args_tuple_getitem _ _)))
 show wpAny _ _ (Builtin.Tuple.tupleItemsOf (.ref t) >>=_) _ _ s;refine wpAny_bind (tupleItemsOf_ ht ?_);refine wpAny_bind (wpAny_typeOf hTs ?_);rw[if_pos (by decide)];refine wpAny_bind (sliceApplied_gen hs pl pu ?_);show wpAny _ _ (if (((sIx items.size 0 lo:Nat):Int) ==0 && (1:Int) ==1 && (sIx items.size items.size hi - sIx items.size 0 lo) ==items.size)=true then _ else _) _ _ s;rw[if_pos (by rw[hw.1,hw.2];simp)];refine wpAny_bind (m:=Builtin.Tuple.tupleIsExact _) (wpAny_bind (wpAny_typeOf ht.typeIs (wpAny_pure ?_)));rw[if_pos (beq_self_eq_true _)]
 first
  |exact wpAny_bind (wpAny_pure (wpAny_pure ⟨_,rfl,wpAny_pure h⟩))
  |exact wpAny_bind (wpAny_rule (wpAny_pure ⟨_,rfl,wpAny_pure h⟩))
end
section
variable {X:Cx} {e e1:Expr} {lo hi:Option Expr} {f f1:ao->R D} {fl fu:ao->R (Option Int)} {pos p2:Pos}
def agw (K:PySem.W.Frag):V->Option Int->Option Int->Hp->VK->Prop:=λ x lo hi H Q=>∃a xs,x= .ref a/\SqT K H a xs/\
 (HT.sIx xs.length 0 lo=0/\HT.sIx xs.length xs.length hi=xs.length)/\Q (.ref a) H
theorem abB:SlR X (agw X.K):=by
 intro pins s σ H x v vl vu lo hi sl Q I rx hs pl pu h;obtain⟨a,xs,rfl,hx,hw,q⟩:=h;cases rx;obtain⟨its,r,ht,hz⟩:=I.tuple hx;have hlen:its.toArray.size=xs.length:=by rw[z1c];exact r.length.symm
 exact⟨"tuple",_,PyProof.Rows.slot_tuple_getitem.lookup,ht.typeIs,yZ ht hs pl pu (by rw[hlen];exact hw) ⟨.ref a,H,I,rfl,q⟩⟩
abbrev agx:(Addr->Prop)->Hp->Option Int->Option Int->Prop:=λ _ _ a b=>a=b
def RL (X:Cx) (lo:Option Expr) (fo:ao->R (Option Int)):Prop:=PO X lo (tG X agx fo)
theorem PO.imp {t t':TO} (h:PO X lo t) (w:∀σ H Q,t' σ H Q->t σ H Q):PO X lo t':=λ pins s σ H Q I q=>h pins s σ H Q I (w σ H Q q)
theorem uf:RL X none (λ _=> .ok none):=by
 refine PO.imp po_none λ σ H Q h=>?_;obtain⟨ρ,O,j,h⟩:=h;exact fin h rfl
def JQ:D->R (Option Int)
 | .int i=> .ok (some i)
 |_=> .bad
theorem ug (h:DE X e1 f1):RL X (some e1) (λ ρ=>(f1 ρ).bind JQ):=by
 refine PO.imp (po_some h) λ σ H Q h=>?_;obtain⟨ρ,O,j,h⟩:=h;refine go j h λ d v H1 e1 s1 r1 j1 h1=>?_;cases d with
 |int i=>exact⟨i,r1.int,fin h1 rfl⟩
 |_=>exact h1.elim
def j9 (ds:List D) (lo hi:Option Int):List D:=(ds.drop (HT.sIx ds.length 0 lo)).take (HT.sIx ds.length ds.length hi - HT.sIx ds.length 0 lo)
def Mg (d:D) (lo hi:Option Int):R D:=match d with
 | .tup ds=> .ok (.tup (j9 ds lo hi))
 |_=> .bad
def oE (f:ao->R D) (fl fu:ao->R (Option Int)):ao->R D:=λ ρ=>(f ρ).bind λ d=>(fl ρ).bind λ l=>(fu ρ).bind λ u=>Mg d l u
theorem Mh (he:DE X e f) (hl:RL X lo fl) (hu:RL X hi fu):DE X (.Subscript e (.Slice lo hi none p2) pos) (oE f fl fu):=by
 refine PE.imp (pe_slice (SlR.or sl_tup abB) he hl hu) λ σ H Q h=>?_;obtain⟨ρ,O,j,h⟩:=h;refine go j h λ d v H1 e1 s1 r1 j1 h1=>?_;refine go j1 h1 λ l l' H2 e2 s2 r2 j2 h2=>?_;refine go j2 h2 λ u u' H3 e3 s3 r3 j3 h3=>?_;have r2:l=l':=r2;have r3:u=u':=r3;subst r2 r3;cases d with
 | tup ds=>
  have r1':=(r1.same s2).same s3;obtain⟨a,xs,rfl,hq,rs⟩:=r1'.tup;have hlen:=rs.length;by_cases hw:HT.sIx xs.length 0 l=0/\HT.sIx xs.length xs.length u=xs.length
  ·refine .inr ⟨a,xs,rfl,hq,hw,?_⟩;have e:j9 ds l u=ds:=by
    unfold j9;rw[hlen,hw.1,hw.2,List.drop_zero,Nat.sub_zero,<-hlen,List.take_length]
   have h3:good X (rD X) O (.ok (.tup (j9 ds l u))) σ H3 Q:=h3;rw[e] at h3;exact fin h3 (iV hq rs)
  ·refine .inl ⟨a,xs,rfl,hq,hw,λ p hp=>?_⟩;refine h3 _ _ (Same.upd hp) (Rep.pF hp ?_);unfold j9 cutV;rw[hlen];exact (rs.drop _).take _
 |_=>exact h3.elim
end
def pickK {α:Type} (z:α) (sel:List (Sum Nat α)) (ws:List α):List α:=sel.map λ
 | .inl i=>ws.getD i z
 | .inr c=>c
inductive Sel:List (Sum Nat Value)->List (Sum Nat V)->List (Sum Nat D)->Prop
 |nil:Sel [] [] []
 |at (i:Nat) {a b c}:Sel a b c->Sel (.inl i::a) (.inl i::b) (.inl i::c)
 |non {a b c}:Sel a b c->Sel (.inr .none::a) (.inr .non::b) (.inr .non::c)
 |str (x:Str) (t:Tok) {a b c}:Sel a b c->Sel (.inr (.str x t)::a) (.inr (.str x)::b) (.inr (.str x)::c)
 |int (x:Int) (t:Tok) {a b c}:Sel a b c->Sel (.inr (.int x t)::a) (.inr (.int x)::b) (.inr (.int x)::c)
 |bl (x:Bool) {a b c}:Sel a b c->Sel (.inr (.bool x)::a) (.inr (.bl x)::b) (.inr (.bl x)::c)
theorem Wz {ws:List Value} (r:Vals zs ws) (i:Nat):RelV (zs.getD i .non) (ws.getD i .none):=by
 induction r generalizing i with
 |nil=>exact rfl
 | cons h _ ih=>
  cases i with
  |zero=>exact h
  |succ i=>exact ih i
theorem Sel.vals {a b c} (s:Sel a b c) {ws:List Value} (r:Vals zs ws):Vals (pickK .non b zs) (pickK .none a ws):=by
 induction s with
 |nil=>exact .nil
 | «at» i _ ih=>exact .cons (Wz r i) ih
 |non _ ih=>exact .cons rfl ih
 |str x t _ ih=>exact .cons ⟨t,rfl⟩ ih
 |int x t _ ih=>exact .cons ⟨t,rfl⟩ ih
 |bl x _ ih=>exact .cons rfl ih
section
variable {K:PySem.W.Frag} {O:Addr->Prop} {H:Hp}
theorem JR:∀{ds:List D} {zs:List V},aN K O H ds zs->∀i:Nat,Rep K O H (ds.getD i .non) (zs.getD i .non)
 |[],zs,r,i=>by rw[r.nil_inv];exact sI
 | d::ds,zs,r,i=>by
  obtain⟨x,t,rfl,h1,h2⟩:=r.cons_inv;cases i with
  |zero=>exact h1
  |succ i=>exact JR h2 i
theorem Sel.reps {a b c} (s:Sel a b c) {ds:List D} (r:aN K O H ds zs):aN K O H (pickK .non c ds) (pickK .non b zs):=by
 induction s with
 |nil=>exact .nil
 | «at» i _ ih=>exact .cons (JR r i) ih
 |non _ ih=>exact .cons sI ih
 |str x t _ ih=>exact .cons (HW x) ih
 |int x t _ ih=>exact .cons (cB x) ih
 |bl x _ ih=>exact .cons (gM x) ih
end
section
variable {X:Cx} {k n:Nat} {f:Addr} {fd:FuncData} {ps ks:List Str} {F:List D->R D} {x:Str} {p pos kpos:Pos} {e:Expr} {es:List Expr} {kws:List Keyword} {fa fk:ao->R (List D)} {fe:ao->R D} {nm:Option Str}
def DK (X:Cx) (kws:List Keyword) (fk:ao->R (List D)):Prop:=PK X kws (tG X (Rw X) fk)
theorem PK.imp {t t':TA} (h:PK X kws t) (w:∀σ H Q,t' σ H Q->t σ H Q):PK X kws t':=λ pos pins s σ H Q I q=>h pos pins s σ H Q I (w σ H Q q)
theorem adB:DK X [] (λ _=> .ok []):=by
 refine PK.imp pk_nil λ σ H Q h=>?_;obtain⟨ρ,O,j,h⟩:=h;exact fin h .nil
theorem abC (he:DE X e fe) (hr:DK X kws fk):DK X (⟨nm,e,kpos⟩::kws) (ak fe fk):=by
 refine PK.imp (pk_cons he hr) λ σ H Q h=>?_;obtain⟨ρ,O,j,h⟩:=h;refine go j h λ d v H1 e1 s1 r1 j1 h1=>?_;refine go j1 h1 λ ds vs H2 e2 s2 r2 j2 h2=>?_;exact fin h2 (.cons (r1.same s2) r2)
theorem zy {z:α} {sel:List (Sum Nat α)} {ws:List α}:(pickK z sel ws).length=sel.length:=by unfold pickK;rw[z1g]
def KB (K:PySem.W.Frag) (fd:FuncData) (ps ks:List Str) (sel:List (Sum Nat Value)):Prop:=∀(s:Shared) (us ws:List Value),K.In s.heap->us.length+sel.length=ps.length->ws.length=ks.length->BindsTo s fd ⟨us,ks.zip ws⟩ (ps.zip (us++pickK .none sel ws))
def lV (F:List D->R D) (n m:Nat) (sel:List (Sum Nat D)) (fa fk:ao->R (List D)):ao->R D:=λ ρ=>(fa ρ).bind λ ds=>(fk ρ).bind λ zs=>if zs.length=m then aQ F n (ds++pickK .non sel zs) else .bad
end
section
variable {X:Cx} {k n:Nat} {f:Addr} {fd:FuncData} {ps:List Str} {F:List D->R D} {x:Str} {p pos:Pos} {e:Expr} {es:List Expr} {fa:ao->R (List D)}
theorem Zq {sa sb sc} (S:Sel sa sb sc) (G:FnOk X.prog X.w X.K X.mg X.base CX0 k f fd ps (Fb X.K n F)) (hr:Room k X.A) (hg:Gl X x) (hm:X.mg x=some (.ref f)) (hk:PySem.W.keepIn X.K (.ref f)=true) (hb:KB X.K fd ps [] sa)
  (ha:DA X (e::es) fa) (hdb:(x ==("__debug__" :Str))=false:=by decide) (he:starEach (e::es) X.env=(false,eval e X.env)::starEach es X.env:=by rfl) (hpl:(backTo pos (starEach es X.env)).any (·.1)=false:=by rfl):
  DE X (.Call (.Name x p) (e::es) [] pos) (lV F n 0 sc fa (λ _=> .ok [])):=by
 refine PE.imp (pe_call (ds:=pickK .none sa []) (dvs:=pickK .non sb []) G hr hg hm hk (λ s us i hl=>hb s us [] i (by rw[z1d,zy] at hl;exact hl) rfl) (S.vals .nil) pass0 ha hdb he hpl) λ σ H Q h=>?_;obtain⟨ρ,O,j,h⟩:=h;refine go j h λ ds vs H1 e1 s1 r1 j1 h1=>?_;have h1:good X (rD X) O (aQ F n (ds++pickK .non sc [])) σ H1 Q:=h1;unfold aQ at h1;by_cases hl:(ds++pickK .non sc []).length=n
 ·rw[if_pos hl] at h1;refine⟨O,_,r1.append (S.reps .nil),hl,j1.al,?_⟩;cases q:F (ds++pickK .non sc []) with
  |ok d=>rw[q] at h1;exact h1
  |err c=>rw[q] at h1;exact h1
  |bad=>rw[q] at h1;exact h1
 ·rw[if_neg hl] at h1;exact h1.elim
end
theorem len0 {l:List α} (h:l.length=0):l=[]:=List.eq_nil_of_length_eq_zero h
theorem zA {l:List α} (h:l.length=n+1):∃a m,l=a::m/\m.length=n:=by
 cases l with
 |nil=>simp at h
 |cons a m=>exact⟨a,m,rfl,by simpa using h⟩
def FnE (P:Program) (w:World) (K:PySem.W.Frag) (mg:Str->Option Value) (base:Heap) (k:Nat) (x:Str) (n:Nat) (F:List D->R D) (fd:FuncData) (ps:List Str):Prop:=
 ∃f,FnOk P w K mg base CX0 k f fd ps (Fb K n F)/\mg x=some (.ref f)/\PySem.W.keepIn K (.ref f)=true
section
variable {X:Cx} {k m n:Nat} {fd:FuncData} {ps ks:List Str} {F:List D->R D} {x:Str} {p pos:Pos} {e:Expr} {es:List Expr} {kws:List Keyword} {fa fk:ao->R (List D)}
theorem Bt {sa sb sc} (S:Sel sa sb sc) (G:FnE X.prog X.w X.K X.mg X.base k x n F fd ps) (hr:Room m X.A) (hkm:k<=m) (hb:KB X.K fd ps [] sa)
  (ha:DA X (e::es) fa) (hg:Gl X x:=by rfl) (hdb:(x ==("__debug__" :Str))=false:=by decide) (he:starEach (e::es) X.env=(false,eval e X.env)::starEach es X.env:=by rfl) (hpl:(backTo pos (starEach es X.env)).any (·.1)=false:=by rfl):
  DE X (.Call (.Name x p) (e::es) [] pos) (lV F n 0 sc fa (λ _=> .ok [])):=by
 obtain⟨f,ok,hm,hk⟩:=G;exact Zq S ok (hr.mono hkm) hg hm hk hb ha hdb he hpl
end
theorem adC {base:Heap} {x:Str} {m:Nat} {g:ao->So} (Fn:Fun K x qual st f fd) (hmg:mg x=some (.ref f)) (S:FnScope N ps (defScope st)) (hn:ps.length=n) (hm:N.length=n+m)
  (hbody:∀(cdv:Value) (A:Around) (outer:List PySem.Env) (s:Shared) (H:Hp) (E:XK),Room k (A.deeper (envOfC qual (defScope st) s.heap.objs.size f cdv))->lY (cxOf CX0 P w K mg base N qual (defScope st) f cdv A outer s H E).nox (defBody st) g):
  FnE P w K mg base (k+1) x n (cj m g) fd ps:=⟨f,fnD Fn S hn hm hbody λ ds d _ e=>e,hmg,Fn.kp⟩
section
variable {K:PySem.W.Frag} {kV doc pm cdv ct:Value} {an:Option Addr} {body:List Stmt} {scope:Scope} {d:Addr} {t:Tok} {q:Pos}
def WD (q:Pos):Arguments:={posonlyargs:=[],args:=[⟨"p",none,q⟩],vararg:=none,kwonlyargs:=[⟨"manner",none,q⟩,⟨"marks",none,q⟩],kw_defaults:=[some (.Constant (.str "worth") 0 q),some (.Constant .none 0 q)],kwarg:=none,defaults:=[]}
example:KB K (PySem.W.fnOf "f" "f" (WD q) body scope .none kV doc pm an cdv ct) ["p","manner","marks"] ["marks","manner"] [.inl 1,.inl 0]:=by
 intro s us ws i hl hw;have hl1:us.length=1:=by simpa using hl
 clear hl
 obtain⟨u,us',rfl,hl2⟩:=zA hl1
 clear hl1
 cases len0 hl2;obtain⟨w1,ws1,rfl,hw1⟩:=zA hw
 clear hw
 obtain⟨w2,ws2,rfl,hw2⟩:=zA hw1
 clear hw1
 cases len0 hw2;exact .of_eq rfl
end
section
variable {X:Cx}
end
section
variable {K:PySem.W.Frag} {O O':Addr->Prop} {H:Hp}
end
section
variable {X:Cx} {e:Expr} {f:ao->R D} {pos:Pos}
end
section
variable {prog:Program} {w:World} {A:Around} {E:Value->Shared->Prop} {s:Shared} {t:Addr}
end
section
variable {X:Cx}
end
theorem Dz:fillsNumberSlot (.type "tuple") "mul" =pure false:=
 PySem.fillsNumberSlot_seq (id:= "tuple.__mul__") (r:=some (.builtin "tuple.__rmul__")) F.slot_tuple_mul.lookup (by decide +kernel) F.slot_tuple_rmul.lookup (by decide +kernel)
theorem Mi:seqRepeat? (.type "tuple")=pure (some (.builtin "tuple.__mul__")):=by
 unfold seqRepeat?;rw[PySem.seqSlot_of (T:= "tuple") (name:= "__mul__") (id:= "tuple.__mul__") F.slot_tuple_mul.lookup (by decide +kernel),PySem.seqSlot_of (T:= "tuple") (name:= "__rmul__") (id:= "tuple.__rmul__") F.slot_tuple_rmul.lookup (by decide +kernel)];rfl
theorem Ik (a:Int) (t:Tok) (l:Addr) (items:Array Value) (n:Nat) (dd:Option Addr) (sl:Array (Option Value)):
  Meets (Builtin.«int.__rmul__» ⟨[.int a t,.ref l],[]⟩) (λ _ R s=>s.heap.get? l=some {cls:= .type "tuple",dict:=dd,data:= .seq items n,slots:=sl}/\R (.ok (.ret Value.notImplemented)) s):=
 .of_wp λ prog w A R s h=>by obtain⟨hp,g,d,tk,os⟩:=s;obtain⟨hl,h⟩:=h;wp_walk;exact⟨_,rfl,h⟩
theorem T9 (l:Addr) (items:Array Value) (n:Nat) (dd:Option Addr) (sl:Array (Option Value)) (t:Tok):
  Meets (Builtin.«tuple.__mul__» ⟨[.ref l,.int 1 t],[]⟩) (λ _ R s=>s.heap.get? l=some {cls:= .type "tuple",dict:=dd,data:= .seq items n,slots:=sl}/\R (.ok (.ret (.ref l))) {s with heap:=s.heap,toks:=s.toks}):=
 .of_wp λ prog w A R s h=>by obtain⟨hp,g,d,tk,os⟩:=s;obtain⟨hl,h⟩:=h;have f1:=AutoSeq1.idx_int;have hc0:(items.isEmpty || (1:Int) ==1)=true:=(by simp);unfold Builtin.«tuple.__mul__»;wp_walk using wpAny_loadPart' hl;exact⟨_,rfl,h⟩
theorem Ua (l:Addr) (items:Array Value) (n:Nat) (dd:Option Addr) (sl:Array (Option Value)) (k:Int) (t:Tok) (hf:¬(decide (k < -(2 ^ 63)) || decide (k>=2 ^ 63))=true) (hc0:¬(items.isEmpty || k ==1)=true) (hc1:¬(decide (k<=0) || items.isEmpty)=true)
  (hc2:¬(items.size:Int)*k > (2 ^ 63 - 1) / 8) (hc3:¬Builtin.Tuple.tupleTooMany ((items.size:Int)*k)=true) (hsz:sizeOk (.seq (List.foldl (λ x1 x2=>x1++x2) #[] (List.replicate k.toNat items)))):
  Meets (Builtin.«tuple.__mul__» ⟨[.ref l,.int k t],[]⟩) (λ _ R s=>s.heap.get? l=some {cls:= .type "tuple",dict:=dd,data:= .seq items n,slots:=sl}/\R (.ok (.ret (.ref s.heap.objs.size))) {s with heap:=s.heap.push {cls:=Value.type "tuple",data:=Data.seq (List.foldl (λ x1 x2=>x1++x2) #[] (List.replicate k.toNat items))},toks:=s.toks}):=
 .of_wp λ prog w A R s h=>by
  obtain⟨hp,g,d,tk,os⟩:=s;obtain⟨hl,h⟩:=h;have f1:=AutoSeq1.idx_int;unfold Builtin.«tuple.__mul__»
  wp_walk using wpAny_loadPart' hl
  refine wpAny_ite_false (by simpa using hf) ?_
  wp_walk using wpAny_loadPart' hl
  refine wpAny_ite_false (by simpa using hc2) ?_
  wp_walk using wpAny_loadPart' hl
  refine wpAny_ite_false (by simpa[sizeOk] using hsz) ?_
  wp_walk using wpAny_loadPart' hl
  exact⟨_,rfl,h⟩
section
variable {X:Cx}
theorem abD:OpR X (binaryOp .Mult) (λ x y H Q=>∃a k xs,x= .ref a/\y= .int k/\SqT X.K H a xs/\xs≠[]/\1<=k/\k < 2 ^ 63/\xs.length*k.toNat<=sizeLine/\(k=1->Q (.ref a) H)/\
  (k≠1->∀p,H p=none->Q (.ref p) (upd H p (.tup (List.replicate k.toNat xs).flatten)))):=by
 intro pins s σ H x y v u Q I rx ry h;obtain⟨a,k,xs,rfl,rfl,hq,hx,h1,h2,hz,q1,q2⟩:=h;cases rx;obtain⟨t,rfl⟩:=ry;obtain⟨its,r,p1,_⟩:=I.tuple hq;obtain⟨⟨cls,dd,data,sl⟩,ho,hc,n,hd⟩:=id p1;simp only at hc hd;subst hc hd;have hlen:=r.length;have hne:its≠[]:=λ z=>hx (by rw[z] at r;cases r;rfl);have hpos:0 < its.length:=by cases its with |nil=>exact absurd rfl hne |cons _ _=>simp
 have hemp:its.toArray.isEmpty=false:=by cases its with |nil=>exact absurd rfl hne |cons _ _=>simp
 refine wpAny_binaryOp_repeat_ref (T:= "tuple") (U:= "int") (by decide) ⟨_,ho,rfl⟩ (λ s'=>typeIs_int s' k t) Dz F.fills_int_mul F.slot_int_rmul Mi F.slot_int_index.lookup
  (call_meets F.slot_int_rmul (typeIs_int s k t) F.entry_int_rmul (F.args_int_rmul_2 _ _) (Ik k t a its.toArray n dd sl) ⟨ho,rfl,⟨_,ho,rfl⟩,?_⟩)
 by_cases hk:k=1
 ·subst hk;exact call_meets F.slot_tuple_mul ⟨_,ho,rfl⟩ F.entry_tuple_mul (F.args_tuple_mul_2 _ _) (T9 a its.toArray n dd sl t) ⟨ho,⟨.ref a,H,I,rfl,q1 rfl⟩⟩
 ·have hmul:(its.toArray.size:Int)*k=((xs.length*k.toNat:Nat):Int):=by
   rw[z1c,<-hlen,Int.natCast_mul,Int.toNat_of_nonneg (by omega)]
  have hnew:List.foldl (λ x1 x2=>x1++x2) #[] (List.replicate k.toNat its.toArray)=(List.replicate k.toNat its).flatten.toArray:=by
   have:=foldl_rep its k.toNat [];rw[List.nil_append] at this;exact this
  have hs:sizeOk (.seq (List.foldl (λ x1 x2=>x1++x2) #[] (List.replicate k.toNat its.toArray))):=by
   rw[hnew];show (List.replicate k.toNat its).flatten.toArray.size<=sizeLine;rw[z1c,len_rep,<-hlen,Nat.mul_comm];exact hz
  have hbig:(sizeLine:Nat)<=(2 ^ 63 - 1) / 8:=by decide
  refine call_meets F.slot_tuple_mul ⟨_,ho,rfl⟩ F.entry_tuple_mul (F.args_tuple_mul_2 _ _) (Ua a its.toArray n dd sl k t (by simp;omega) (by rw[hemp];simp[hk]) (by rw[hemp];simp;omega) (by rw[hmul];omega) (by rw[hmul];unfold Builtin.Tuple.tupleTooMany;intro z;have z:=of_decide_eq_true z;omega) hs) ⟨ho,?_⟩;rw[hnew];refine⟨.ref s.heap.objs.size,_,I.laid (t':=s.toks) (o:= .tup (List.replicate k.toNat xs).flatten) (λ b ob q=>z1a _ q) (z0g _) ?_,rfl,q2 hk _ (I.hok.fresh (z0g _))⟩;exact⟨by rw[len_rep,Nat.mul_comm];exact hz,_,r.rep k.toNat,IsTup.new _ _⟩
theorem xR {K:PySem.W.Frag} {O:Addr->Prop} {H:Hp} {ds:List D} {xs:List V} (r:aN K O H ds xs):∀k:Nat,aN K O H (List.replicate k ds).flatten (List.replicate k xs).flatten
 |0=> .nil
 |k+1=>by rw[List.replicate_succ,List.replicate_succ,List.flatten_cons,List.flatten_cons];exact r.append (xR r k)
def qW:D->D->R D
 | .int i,.int j=>iC (.int i) (.int j)
 | .tup ds,.int k=>if ds≠[]/\1<=k/\k < 2 ^ 63/\ds.length*k.toNat<=1000000 then .ok (.tup (List.replicate k.toNat ds).flatten) else .bad
 |_,_=> .bad
theorem nF:jt X (binaryOp .Mult) qW:=by
 obtain⟨r0,o0,c0⟩:=qD (X:=X);refine⟨_,OpR.or o0 abD,λ ρ O σ H Q x y dx dy j0 rx ry h=>?_⟩;cases dx <;> cases dy <;> first
  |exact h.elim
  |skip
 ·exact .inl (c0 ρ O σ H Q x y _ _ j0 rx ry h)
 ·rename_i ds k;have h:good X (rD X) O (if ds≠[]/\1<=k/\k < 2 ^ 63/\ds.length*k.toNat<=1000000 then .ok (.tup (List.replicate k.toNat ds).flatten) else .bad) σ H Q:=h;by_cases hc:ds≠[]/\1<=k/\k < 2 ^ 63/\ds.length*k.toNat<=1000000
  ·rw[if_pos hc] at h;obtain⟨a,us,rfl,ha,r1⟩:=rx.tup;obtain⟨h0,h1,h2,h3⟩:=hc;refine .inr ⟨a,k,us,rfl,ry.int,ha,λ z=>h0 (by have:=r1.length;rw[z] at this;exact List.eq_nil_of_length_eq_zero this),h1,h2,by rw[<-r1.length];exact z0b h3 dO,λ z=>?_,λ z l hl=>?_⟩
   ·subst z;have e:(List.replicate (1:Int).toNat ds).flatten=ds:=by simp
    rw[e] at h;exact fin h (iV ha r1)
   ·exact h _ _ (Same.upd hl) (Rep.pF hl (xR r1 _))
  ·rw[if_neg hc] at h;exact h.elim
end
def gJ:D->Bool
 | .tup _=>false
 | .lst _=>false
 |_=>true
def vD:D->V
 | .non=> .non
 | .bl b=> .bl b
 | .int i=> .int i
 | .str x=> .str x
 |_=> .non
section
variable {K:PySem.W.Frag} {O:Addr->Prop} {H:Hp}
theorem RM {d:D} {v:V} (f:gJ d=true) (r:Rep K O H d v):v=vD d:=by
 cases d with
 |non=>exact r.non
 |bl b=>exact r.bl
 |int i=>exact r.int
 |str x=>exact r.str
 |tup _=>cases f
 |lst _=>cases f
theorem Mj:∀{ds:List D} {vs:List V},ds.all gJ=true->aN K O H ds vs->vs=ds.map vD
 |[],vs,_,r=>r.nil_inv
 | d::ds,vs,f,r=>by
  obtain⟨x,t,rfl,h1,h2⟩:=r.cons_inv;rw[List.all_cons,Bool.and_eq_true] at f;rw[RM f.1 h1,Mj f.2 h2];rfl
theorem WK {d:D} (f:gJ d=true):flatV (vD d)=true:=by cases d <;> first |rfl |cases f
theorem afz {a b:D} (fa:gJ a=true) (fb:gJ b=true):eqV (vD a) (vD b)=fY a b:=by
 cases a <;> cases b <;> first |rfl |(simp[gJ] at fa;done) |(simp[gJ] at fb;done) |(rw[eG];rfl) |(simp[vD,eqV,mD,mF,mH,mJ,mK,iJ,eG])
theorem aaU {d:D} (fd:gJ d=true):∀{ds:List D},ds.all gJ=true->inV (vD d) (ds.map vD)=ds.any λ y=>fY y d
 |[],_=>rfl
 | y::ds,f=>by
  rw[List.all_cons,Bool.and_eq_true] at f;have ih:=aaU fd f.2;unfold inV at ih |-;rw[z1h,List.any_cons,List.any_cons,afz f.1 fd,ih]
theorem RN:∀{ds:List D},ds.all gJ=true->(ds.map vD).all flatV=true
 |[],_=>rfl
 | y::ds,f=>by
  rw[List.all_cons,Bool.and_eq_true] at f;rw[z1h,List.all_cons,WK f.1,RN f.2];rfl
end
def Ub:D->Option (List D)
 | .tup ds=>some ds
 | .lst ds=>some ds
 |_=>none
def Cm (neg:Bool) (d s:D):R D:=match Ub s with
 |some ds=>if gJ d=true/\ds.all gJ=true then .ok (.bl (if neg then !(ds.any λ y=>fY y d) else ds.any λ y=>fY y d)) else .bad
 |none=> .bad
section
variable {X:Cx}
theorem in_of {neg:Bool} {ρ:ao} {O:Addr->Prop} {Q:VK} {x y:V} {dx dy:D} (rx:Rep X.K O H dx x) (ry:Rep X.K O H dy y) (h:good X (rD X) O (Cm neg dx dy) σ H Q):rIn X.K neg x y H Q:=by
 unfold Cm at h;cases e:Ub dy with
 |none=>rw[e] at h;exact h.elim
 | some ds=>
  rw[e] at h;have h:good X (rD X) O (if gJ dx=true/\ds.all gJ=true then .ok (.bl (if neg then !(ds.any λ y=>fY y dx) else ds.any λ y=>fY y dx)) else .bad) σ H Q:=h;by_cases hc:gJ dx=true/\ds.all gJ=true
  ·rw [if_pos hc] at h;have key:∃p xs,y= .ref p/\(SqL X.K H p xs\/SqT X.K H p xs)/\aN X.K O H ds xs:=by
    cases dy with
    | tup ds'=>
     cases e;obtain⟨a,xs,rfl,hq,rs⟩:=ry.tup;exact⟨a,xs,rfl,.inr hq,rs⟩
    | lst ds'=>
     cases e;obtain⟨a,xs,rfl,hq,_,rs⟩:=ry.lst;exact⟨a,xs,rfl,.inl hq,rs⟩
    |_=>cases e
   obtain⟨p,xs,rfl,hq,rs⟩:=key;have e1:=RM hc.1 rx;have e2:=Mj hc.2 rs;subst e1 e2;refine⟨p,_,rfl,hq,WK hc.1,RN hc.2,?_⟩;rw[aaU hc.1 hc.2];exact fin h (gM _)
  ·rw[if_neg hc] at h;exact h.elim
theorem afA:jt X (compareOp .In) (Cm false):=⟨_,op_in_seq,λ ρ O σ H Q x y dx dy j0 rx ry h=>in_of (ρ:=ρ) rx ry h⟩
theorem Zr:jt X (compareOp .NotIn) (Cm true):=⟨_,op_notIn_seq,λ ρ O σ H Q x y dx dy j0 rx ry h=>in_of (ρ:=ρ) rx ry h⟩
end
def oF:Bool->Heap->Addr->Addr->Nat->Prop
 |true,h,it,l,k=>h.IsTupleIter it l k
 |false,h,it,l,k=>h.IsListIter it l k
def rO:Bool->Heap->Addr->Array Value->Prop
 |true,h,l,xs=>h.IsTuple l xs
 |false,h,l,xs=>h.IsList l xs
def itC (t:Bool):String:=if t then "tuple_iterator" else "list_iterator"
def Sq:Bool->PySem.W.Frag->Hp->Addr->List V->Prop
 |true,K,H,a,xs=>SqT K H a xs
 |false,K,H,a,xs=>SqL K H a xs
theorem oF.of (x:oF t h it l k) (q:∀o,h.get? it=some o->h'.get? it=some o):oF t h' it l k:=by
 cases t <;> (obtain⟨o,e,r⟩:=x;exact⟨o,q o e,r⟩)
theorem oF.obj (x:oF t h it l k):∃o,h.get? it=some o/\∀v,o.data≠.cell v:=by
 cases t <;> (obtain⟨o,e,c,d⟩:=x;exact⟨o,e,λ v z=>by rw[d] at z;cases z⟩)
theorem oF.new (e:h.get? it=some {cls:= .type (itC t),data:= .fields #[.ref l,.int 0 0]}):oF t h it l 0:=by
 cases t <;> exact⟨_,e,rfl,rfl⟩
theorem rO.of (x:rO t h l xs) (q:∀o,h.get? l=some o->h'.get? l=some o):rO t h' l xs:=by
 cases t <;> (obtain⟨o,e,r⟩:=x;exact⟨o,q o e,r⟩)
section
variable {prog:Program} {w:World} {A:Around} {E:Value->Shared->Prop} {s:Shared}
theorem nextT {v:Value} (hit:s.heap.IsTupleIter it l i) (hl:s.heap.IsTuple l xs) (hv:xs[i]?=some v)
  (hQ:∀h',h'.IsTupleIter it l (i+1)->Heap.SameBut it s.heap h'->Q v {s with heap:=h'}):wpAny (model prog w) A (Builtin.SmallTypes.nextOf (.ref it)) Q E s:=by
 have ty:=hit.typeIs;obtain⟨o,g,c,dt⟩:=hit;obtain⟨p,gp,_,m,dp⟩:=hl;unfold Builtin.SmallTypes.nextOf;refine wpAny_bind (wpAny_callSpecial?_slot (name:=Str.ofString "__next__") ty F.slot_tuple_iterator_next (wpAny_call_entry F.slot_tuple_iterator_next ty F.entry_tuple_iterator_next ?_ (F.args_tuple_iterator_next_1 _)));show wpAny _ _ (field (.ref it) 0 >>=_) _ _ s;refine wpAny_bind (wpAny_field g dt (x:= .ref l) rfl ?_);show wpAny _ _ (if (Value.ref l ==Value.none)=true then _ else _) _ _ s;rw[if_neg (show ¬((Value.ref l ==Value.none)=true) from Bool.false_ne_true)];show wpAny _ _ (field (.ref it) 1 >>=_) _ _ s;refine wpAny_bind (wpAny_field g dt (x:= .int i 0) rfl ?_);show wpAny _ _ (seqItems? (.ref l) >>=_) _ _ s;refine wpAny_bind (wpAny_seqItems gp dp ?_);simp only[Int.toNat_natCast,hv];refine wpAny_bind (wpAny_setField g dt (by simp) (wpAny_pure ⟨v,rfl,wpAny_pure (hQ _ ⟨_,Heap.get?_update_self _ g (Obj.isFreed_of_fields (Obj.data_mapFields dt _)),(Obj.cls_mapFields ..).trans c,?_⟩ (Heap.SameBut.update ..))⟩));rw[Obj.data_mapFields dt];simp[rawInt]
theorem Zt (hh:A.handled=none) (hit:s.heap.IsTupleIter it l i) (hl:s.heap.IsTuple l xs) (hv:xs[i]?=none)
  (hE:∀h' e,Heap.ExtBut it s.heap h'->(∃o,h'.get? e=some o/\o.cls= .type "StopIteration")->E (.ref e) {s with heap:=h'}):wpAny (model prog w) A (Builtin.SmallTypes.nextOf (.ref it)) Q E s:=by
 have ty:=hit.typeIs;obtain⟨o,g,c,dt⟩:=hit;obtain⟨p,gp,_,m,dp⟩:=hl;unfold Builtin.SmallTypes.nextOf;refine wpAny_bind (wpAny_callSpecial?_slot (name:=Str.ofString "__next__") ty F.slot_tuple_iterator_next (wpAny_call_entry F.slot_tuple_iterator_next ty F.entry_tuple_iterator_next ?_ (F.args_tuple_iterator_next_1 _)));show wpAny _ _ (field (.ref it) 0 >>=_) _ _ s;refine wpAny_bind (wpAny_field g dt (x:= .ref l) rfl ?_);show wpAny _ _ (if (Value.ref l ==Value.none)=true then _ else _) _ _ s;rw[if_neg (show ¬((Value.ref l ==Value.none)=true) from Bool.false_ne_true)];show wpAny _ _ (field (.ref it) 1 >>=_) _ _ s;refine wpAny_bind (wpAny_field g dt (x:= .int i 0) rfl ?_);show wpAny _ _ (seqItems? (.ref l) >>=_) _ _ s;refine wpAny_bind (wpAny_seqItems gp dp ?_);simp only[Int.toNat_natCast,hv];refine wpAny_bind (wpAny_rule (wpAny_bind (wpAny_setField g dt (by simp) ?_)));show wpAny _ _ (newExc (.type "StopIteration") [] >>=_) _ _ _;refine wpAny_bind ?_;simp only[newExc,newTuple];refine wpAny_bind (wpAny_newObj_type ?_ (by size_fits));refine wpAny_bind (m:=firstArgMember _ _) (wpAny_of_eq (a:=Value.none) (by first |(simp only[firstArgMember];rfl) |rfl) ?_);refine wpAny_newObj_type ?_ (by size_fits);simp only[raiseNew];refine wpAny_bind (wpAny_handled ?_);first |rw [show A.in1.handled=none from hh] |rw [hh]
 exact wpAny_bind (wpAny_pure (wpAny_throw (hE _ _ (((Heap.SameBut.update ..).extBut.push _).push _) ⟨_,z1f _ rfl,rfl⟩)))
theorem Lg {v:Value} (hit:oF t s.heap it l i) (hl:rO t s.heap l xs) (hv:xs[i]?=some v)
  (hQ:∀h',oF t h' it l (i+1)->Heap.SameBut it s.heap h'->Q v {s with heap:=h'}):wpAny (model prog w) A (Builtin.SmallTypes.nextOf (.ref it)) Q E s:=by
 cases t with
 |true=>exact nextT hit hl hv hQ
 |false=>exact wpAny_nextOf_list_item hit hl hv hQ
theorem DN (hh:A.handled=none) (hit:oF t s.heap it l i) (hl:rO t s.heap l xs) (hv:xs[i]?=none)
  (hE:∀h' e,Heap.ExtBut it s.heap h'->(∃o,h'.get? e=some o/\o.cls= .type "StopIteration")->E (.ref e) {s with heap:=h'}):wpAny (model prog w) A (Builtin.SmallTypes.nextOf (.ref it)) Q E s:=by
 cases t with
 |true=>exact Zt hh hit hl hv hE
 |false=>exact wpAny_nextOf_list_end hh hit hl hv hE
theorem Fw (hl:rO t s.heap l xs) (hQ:Q (.ref s.heap.objs.size) {s with heap:=s.heap.push {cls:= .type (itC t),data:= .fields #[.ref l,.int 0 0]}}):
  wpAny (model prog w) A (pyIter (.ref l)) Q E s:=by
 cases t with
 |true=>exact wpAny_pyIter_tuple hl hQ
 |false=>exact wpAny_pyIter_list hl hQ
theorem Ml {T:Addr} {arr:Array Value} {x:Value} {Q:Unit->Shared->Prop} (hT:s.heap.get? T=some {cls:= .type "tuple",data:= .seq arr})
  (h:∀h',h'.get? T=some {cls:= .type "tuple",data:= .seq (arr.setIfInBounds k x)}->Heap.SameBut T s.heap h'->Q () {s with heap:=h'}) (hs:arr.size<=sizeLine:=by size_fits):wpAny (model prog w) A (updateSeq T (·.setIfInBounds k x)) Q E s:=by
 refine wpAny_updateSeq (hz:=hs) (_hz':=by simpa using Nat.le_succ_of_le hs) hT rfl (h _ (by rw[Heap.get?_update_self _ hT rfl];simp[Obj.mapSeq]) (Heap.SameBut.update ..))
end
section
variable {X:Cx} {pins:List (Addr×Obj)} {σ:St} {H:Hp} {s:Shared}
theorem _root_.L2.Inv.fp {b:Addr} (I:Inv X pins σ H s) (f:FpOk X pins H b) (sb:Heap.SameBut b s.heap h'):Inv X pins σ H {s with heap:=h'}:=
 I.turned (t':=s.toks) (λ c o hc e=>(sb.2 c hc).trans e) f.1 f.2.1 f.2.2.2.1 f.2.2.2.2.1 f.2.2.2.2.2
theorem _root_.L2.Inv.fpE {b:Addr} (I:Inv X pins σ H s) (f:FpOk X pins H b) (sb:Heap.ExtBut b s.heap h'):Inv X pins σ H {s with heap:=h'}:=
 I.turned (t':=s.toks) (λ c o hc e=>sb c o hc e) f.1 f.2.1 f.2.2.2.1 f.2.2.2.2.1 f.2.2.2.2.2
theorem _root_.L2.FpOk.upd {b p:Addr} {o:HO} (f:FpOk X pins H b) (n:b≠p):FpOk X pins (L2.upd H p o) b:=⟨by rw[upd_ne n];exact f.1,f.2⟩
theorem _root_.L2.Inv.sq {xs:List V} (I:Inv X pins σ H s) (q:Sq t X.K H l xs):∃its:List Value,Vals xs its/\rO t s.heap l its.toArray:=by
 cases t with
 |true=>obtain⟨its,r,p,_⟩:=I.tuple q;exact⟨its,r,p⟩
 |false=>obtain⟨its,r,p,_⟩:=I.list q;exact⟨its,r,p.isList⟩
theorem _root_.L2.Inv.Mp {xs ys:List V} (I:Inv X pins σ H s) (q:Sq t X.K H l xs) (r:Sq t X.K H l ys):xs=ys:=by
 cases t with
 |true=>exact I.tuple_inj q r
 |false=>exact I.list_inj q r
end
abbrev xT (h:Heap) (T:Addr) (arr:Array Value):Prop:=h.get? T=some {cls:= .type "tuple",data:= .seq arr}
structure Z2 (h:Heap) (z TI TO i1 i2:Addr) (t1 t2:Bool) (l1 l2:Addr) (k:Nat):Prop where
 z:IsZip h z TI TO .none
 ti:xT h TI #[.ref i1,.ref i2]
 to:∃a b,xT h TO #[a,b]
 s1:oF t1 h i1 l1 k
 s2:oF t2 h i2 l2 k
def Zu (K:PySem.W.Frag) (t1:Bool) (l1:Addr) (t2:Bool) (l2:Addr):It:=
 ⟨λ i H=>∃xs ys x y,Sq t1 K H l1 xs/\xs[i]?=some x/\Sq t2 K H l2 ys/\ys[i]?=some y,
  λ i H v H'=>∃p x y,H p=none/\v= .ref p/\H'=upd H p (.tup [x,y])/\(∀xs,Sq t1 K H l1 xs->xs[i]?=some x)/\∀ys,Sq t2 K H l2 ys->ys[i]?=some y,
  λ i H=>∃xs ys,Sq t1 K H l1 xs/\Sq t2 K H l2 ys/\(xs.length<=i\/ys.length<=i)⟩
section
variable {X:Cx} {pins:List (Addr×Obj)} {σ:St} {H:Hp} {s:Shared} {A':Around} {E:Value->Shared->Prop}
theorem WL:2<=sizeLine:=z0b (by decide) (z0e gW)
theorem WM {z TI TO:Addr} {xs ys:List V} {x y:V} (I:Inv X pins σ H s)
  (fz:FpOk X pins H z) (fO:FpOk X pins H TO) (f1:FpOk X pins H i1) (f2:FpOk X pins H i2)
  (n1:TI≠z) (n2:TO≠z) (n3:i1≠z) (n4:i2≠z) (n5:TI≠TO) (n6:TI≠i1) (n7:TI≠i2) (n8:TO≠i1) (n9:TO≠i2) (n10:i1≠i2)
  (st:Z2 s.heap z TI TO i1 i2 t1 t2 l1 l2 k) (q1:Sq t1 X.K H l1 xs) (e1:xs[k]?=some x) (q2:Sq t2 X.K H l2 ys) (e2:ys[k]?=some y)
  (hQ:∀h',Inv X pins σ (upd H s.heap.objs.size (.tup [x,y])) {s with heap:=h'}->IsZip h' z TI TO (rawInt s.heap.objs.size)->xT h' TI #[.ref i1,.ref i2]->(∃a b,xT h' TO #[a,b])->
   oF t1 h' i1 l1 (k+1)->oF t2 h' i2 l2 (k+1)->Q (.ref s.heap.objs.size) {s with heap:=h'}):
  wpAny (model X.prog X.w) A' (Builtin.«zip.__next__» ⟨[.ref z],[]⟩) (λ fin s'=>∃v,fin= .done (.ret v)/\Q v s') E s:=by
 obtain⟨hz,hTI,⟨a,b,hTO⟩,h1,h2⟩:=st;show wpAny _ _ (field (.ref z) 2 >>=_) _ _ _;refine wpAny_bind (wpAny_field hz rfl (x:= .bool false) rfl ?_);show wpAny _ _ (field (.ref z) 3 >>=_) _ _ _;refine wpAny_bind (wpAny_field hz rfl (x:= .ref TI) rfl ?_);refine wpAny_bind (wpAny_seqItems hTI rfl ?_);show wpAny _ _ (Builtin.SmallTypes.ownedTupleIsFree (.ref z) >>=_) _ _ _;refine wpAny_bind ?_;unfold Builtin.SmallTypes.ownedTupleIsFree;refine wpAny_bind (wpAny_field hz rfl (x:= .none) rfl (wpAny_pure ?_));simp only[if_true];refine wpAny_bind (wpAny_rule (wpAny_bind (wpAny_field hz rfl (x:= .ref TO) rfl ?_)));refine wpAny_bind (wpAny_setField_rec hz (by simp) λ g1 z1 b1=>?_)
 replace z1:IsZip g1 z TI TO .ellipsis:=z1
 have I1:=I.fp fz b1;refine wpAny_bind ?_;simp only[List.zipIdx_cons,List.zipIdx_nil,List.forIn_cons,List.forIn_nil];obtain⟨us,r1,p1⟩:=I1.sq q1;obtain⟨u,hu,ru⟩:=r1.get e1;refine wpAny_bind (wpAny_bind (wpAny_onRaise ?_));show wpAny _ _ (Builtin.SmallTypes.nextOf (.ref i1) >>=_) _ _ _;refine wpAny_bind (Lg (h1.of λ o e=>b1.extBut _ _ n3 e) p1 (v:=u) (by simpa using hu) λ g2 s12 b2=>wpAny_pure ?_);have I2:=I1.fp f1 b2;have o2:xT g2 TO #[a,b]:=b2.extBut _ _ n8 (b1.extBut _ _ n2 hTO);refine wpAny_bind (wpAny_seqItems o2 rfl (wpAny_bind (Ml o2 λ g3 o3 b3=>wpAny_bind (wpAny_letGo (wpAny_pure ?_)))))
 replace o3:xT g3 TO #[u,b]:=o3
 have I3:=I2.fp fO b3;obtain⟨vs,r2,p2⟩:=I3.sq q2;obtain⟨v,hv,rv⟩:=r2.get e2;refine wpAny_bind (wpAny_bind (wpAny_onRaise ?_));show wpAny _ _ (Builtin.SmallTypes.nextOf (.ref i2) >>=_) _ _ _;refine wpAny_bind (Lg (h2.of λ o e=>b3.extBut _ _ (Ne.symm n9) (b2.extBut _ _ (Ne.symm n10) (b1.extBut _ _ n4 e))) p2 (v:=v) (by simpa using hv) λ g4 s24 b4=>wpAny_pure ?_);have I4:=I3.fp f2 b4;have o4:xT g4 TO #[u,b]:=b4.extBut _ _ n9 o3;refine wpAny_bind (wpAny_seqItems o4 rfl (wpAny_bind (Ml o4 λ g5 o5 b5=>wpAny_bind (wpAny_letGo (wpAny_pure (wpAny_pure ?_))))))
 replace o5:xT g5 TO #[u,v]:=o5
 have I5:=I4.fp fO b5;refine wpAny_bind (wpAny_seqItems o5 rfl (wpAny_bind (wpAny_newTuple ?_)));have sz:g5.objs.size=s.heap.objs.size:=by rw[b5.1,b4.1,b3.1,b2.1,b1.1]
 have I6:Inv X pins σ (upd H g5.objs.size (.tup [x,y])) {s with heap:=g5.push {cls:= .type "tuple",data:= .seq #[u,v]}}:=
  I5.laid (t':=s.toks) (λ b u e=>z1a _ e) (z0g _) ⟨WL,[u,v],.cons ru (.cons rv .nil),⟨_,z1f _ rfl,rfl,_,rfl⟩⟩
 have z5:IsZip g5 z TI TO .ellipsis:=b5.extBut _ _ (Ne.symm n2) (b4.extBut _ _ (Ne.symm n4) (b3.extBut _ _ (Ne.symm n2) (b2.extBut _ _ (Ne.symm n3) z1)));have lt:∀{c o},g5.get? c=some o->c≠g5.objs.size:=λ e=>Nat.ne_of_lt (z2c e);show wpAny _ _ (Builtin.SmallTypes.ownedTupleHandOut (.ref z) (.ref g5.objs.size) >>=_) _ _ _;refine wpAny_bind ?_;unfold Builtin.SmallTypes.ownedTupleHandOut;refine wpAny_bind (wpAny_setField_rec (z1a _ z5) (by simp) λ g7 z7 b7=>?_)
 replace z7:IsZip g7 z TI TO (rawInt g5.objs.size):=z7
 have I7:=I6.fp (fz.upd (lt z5)) b7;refine wpAny_setField_rec z7 (by simp) λ g8 z8 b8=>?_
 replace z8:IsZip g8 z TI TO (rawInt g5.objs.size):=z8
 have I8:=I7.fp (fz.upd (lt z5)) b8;have up:∀c o,c≠z->g5.get? c=some o->g8.get? c=some o:=λ c o c1 e=>b8.extBut _ _ c1 (b7.extBut _ _ c1 (z1a _ e));refine wpAny_pure ⟨_,rfl,?_⟩;rw[sz] at I8 z8;show Q (.ref g5.objs.size) _;rw[sz];refine hQ g8 I8 z8 (up _ _ n1 (b5.extBut _ _ n5 (b4.extBut _ _ n7 (b3.extBut _ _ n5 (b2.extBut _ _ n6 (b1.extBut _ _ n1 hTI)))))) ⟨u,v,up _ _ n2 o5⟩ ?_ ?_
 ·exact s12.of λ o e=>up _ _ n3 (b5.extBut _ _ (Ne.symm n8) (b4.extBut _ _ n10 (b3.extBut _ _ (Ne.symm n8) e)))
 ·exact s24.of λ o e=>up _ _ n4 (b5.extBut _ _ (Ne.symm n9) e)
theorem Zv {z TI TO:Addr} {xs ys:List V} {Q:Fin->Shared->Prop} (hh:A'.handled=none) (I:Inv X pins σ H s)
  (fz:FpOk X pins H z) (fO:FpOk X pins H TO) (f1:FpOk X pins H i1) (f2:FpOk X pins H i2)
  (n1:TI≠z) (n2:TO≠z) (n3:i1≠z) (n4:i2≠z) (n5:TI≠TO) (n6:TI≠i1) (n7:TI≠i2) (n8:TO≠i1) (n9:TO≠i2) (n10:i1≠i2)
  (st:Z2 s.heap z TI TO i1 i2 t1 t2 l1 l2 k) (q1:Sq t1 X.K H l1 xs) (q2:Sq t2 X.K H l2 ys) (en:xs.length<=k\/ys.length<=k)
  (hE:∀h' e,Inv X pins σ H {s with heap:=h'}->(∃o,h'.get? e=some o/\o.cls= .type "StopIteration")->E (.ref e) {s with heap:=h'}):
  wpAny (model X.prog X.w) A' (Builtin.«zip.__next__» ⟨[.ref z],[]⟩) Q E s:=by
 obtain⟨hz,hTI,⟨a,b,hTO⟩,h1,h2⟩:=st;show wpAny _ _ (field (.ref z) 2 >>=_) _ _ _;refine wpAny_bind (wpAny_field hz rfl (x:= .bool false) rfl ?_);show wpAny _ _ (field (.ref z) 3 >>=_) _ _ _;refine wpAny_bind (wpAny_field hz rfl (x:= .ref TI) rfl ?_);refine wpAny_bind (wpAny_seqItems hTI rfl ?_);show wpAny _ _ (Builtin.SmallTypes.ownedTupleIsFree (.ref z) >>=_) _ _ _;refine wpAny_bind ?_;unfold Builtin.SmallTypes.ownedTupleIsFree;refine wpAny_bind (wpAny_field hz rfl (x:= .none) rfl (wpAny_pure ?_));simp only[if_true];refine wpAny_bind (wpAny_rule (wpAny_bind (wpAny_field hz rfl (x:= .ref TO) rfl ?_)));refine wpAny_bind (wpAny_setField_rec hz (by simp) λ g1 z1 b1=>?_)
 replace z1:IsZip g1 z TI TO .ellipsis:=z1
 have I1:=I.fp fz b1;refine wpAny_bind ?_;simp only[List.zipIdx_cons,List.zipIdx_nil,List.forIn_cons,List.forIn_nil];obtain⟨us,r1,p1⟩:=I1.sq q1;have leave:∀{g g':Heap} {e:Addr} {c:Addr},Inv X pins σ H {s with heap:=g}->IsZip g z TI TO .ellipsis->FpOk X pins H c->c≠z->Heap.ExtBut c g g'->(∃o,g'.get? e=some o/\o.cls= .type "StopIteration")->
   wpAny (model X.prog X.w) A' (setField (.ref z) 0 .none) (λ _ s'=>E (.ref e) s') E {s with heap:=g'}:=λ {g g' e c} Ig zg fc nc eb ⟨oe,hoe,hce⟩=>by
  have zg':IsZip g' z TI TO .ellipsis:=eb _ _ (Ne.symm nc) zg;have hez:e≠z:=λ q=>by subst q;rw[zg'] at hoe;cases hoe;simp at hce
  have Ig':Inv X pins σ H {s with heap:=g'}:=Ig.fpE fc eb;exact wpAny_setField_rec zg' (by simp) λ g'' _ b''=>hE g'' e (Ig'.fp fz b'') ⟨oe,b''.extBut _ _ hez hoe,hce⟩
 refine wpAny_bind (wpAny_bind (wpAny_onRaise ?_));show wpAny _ _ (Builtin.SmallTypes.nextOf (.ref i1) >>=_) _ _ _;have h1':=h1.of (h':=g1) λ o e=>b1.extBut _ _ n3 e;by_cases hx:xs.length<=k
 ·exact wpAny_bind (DN hh h1' p1 (by have:=r1.length;simp;omega) λ g2 e eb ex=>leave I1 z1 f1 n3 eb ex)
 ·have hy:ys.length<=k:=by rcases en with h |h;exact absurd h hx;exact h
  obtain⟨u,hu,ru⟩:=r1.get (i:=k) (x:=xs[k]'(by omega)) (List.getElem?_eq_getElem (by omega));refine wpAny_bind (Lg h1' p1 (v:=u) (by simpa using hu) λ g2 s12 b2=>wpAny_pure ?_);have I2:=I1.fp f1 b2;have o2:xT g2 TO #[a,b]:=b2.extBut _ _ n8 (b1.extBut _ _ n2 hTO);refine wpAny_bind (wpAny_seqItems o2 rfl (wpAny_bind (Ml o2 λ g3 o3 b3=>wpAny_bind (wpAny_letGo (wpAny_pure ?_)))));have I3:=I2.fp fO b3;obtain⟨vs,r2,p2⟩:=I3.sq q2;have z3:IsZip g3 z TI TO .ellipsis:=b3.extBut _ _ (Ne.symm n2) (b2.extBut _ _ (Ne.symm n3) z1);refine wpAny_bind (wpAny_bind (wpAny_onRaise ?_));show wpAny _ _ (Builtin.SmallTypes.nextOf (.ref i2) >>=_) _ _ _;exact wpAny_bind (DN hh (h2.of λ o e=>b3.extBut _ _ (Ne.symm n9) (b2.extBut _ _ (Ne.symm n10) (b1.extBut _ _ n4 e))) p2 (by have:=r2.length;simp;omega) λ g4 e eb ex=>leave I3 z3 f2 n4 eb ex)
end
theorem WQ {yP:List Expr} {kk} {pp:Pos} {z TI TO:Addr}
  (n1:TI≠z) (n2:TO≠z) (n3:i1≠z) (n4:i2≠z) (n5:TI≠TO) (n6:TI≠i1) (n7:TI≠i2) (n8:TO≠i1) (n9:TO≠i2) (n10:i1≠i2):
  Turn P w K (.Tuple yP kk pp) (Zu K t1 l1 t2 l2) [z,TI,TO,i1,i2] z (λ i h=>Z2 h z TI TO i1 i2 t1 t2 l1 l2 i) where
 mem:=by simp
 obj:=λ i h st b hb=>by
  obtain⟨hz,hTI,⟨x,y,hTO⟩,h1,h2⟩:=st;simp only[List.mem_cons,List.not_mem_nil,or_false] at hb;rcases hb with rfl |rfl |rfl |rfl |rfl
  ·exact⟨_,hz,λ v q=>by have q':Data.fields _=Data.cell v:=q;cases q'⟩
  ·exact⟨_,hTI,λ v q=>by have q':Data.seq _=Data.cell v:=q;cases q'⟩
  ·exact⟨_,hTO,λ v q=>by have q':Data.seq _=Data.cell v:=q;cases q'⟩
  ·exact h1.obj
  ·exact h2.obj
 keep:=λ i h h' st k=>by
  obtain⟨hz,hTI,⟨x,y,hTO⟩,h1,h2⟩:=st;exact⟨k _ (by simp) _ hz,k _ (by simp) _ hTI,⟨x,y,k _ (by simp) _ hTO⟩,h1.of λ o e=>k _ (by simp) o e,h2.of λ o e=>k _ (by simp) o e⟩
 item :=by
  intro X hP hw hK hc i pins s σ H E I hf st hg;subst hP hw hK;obtain⟨xs,ys,x,y,q1,e1,q2,e2⟩:=hg;have hT:s.TypeIs (.ref z) "zip" :=⟨_,st.z,rfl⟩;unfold pyNext;refine wpAny_bind (wpAny_attempt (wpAny_callSpecial?_slot (name:=Str.ofString "__next__") hT F.slot_zip_next (wpAny_call_entry F.slot_zip_next hT F.entry_zip_next
   (WM I (hf z (by simp)) (hf TO (by simp)) (hf i1 (by simp)) (hf i2 (by simp)) n1 n2 n3 n4 n5 n6 n7 n8 n9 n10 st q1 e1 q2 e2 λ h' I' z' ti' to' s1' s2'=>wpAny_pure ⟨_,rfl,?_⟩) (F.args_zip_next_1 _))))
  have hp:H s.heap.objs.size=none:=I.hok.fresh (z0g _);have nz:∀b,b∈[z,TI,TO,i1,i2]->b≠s.heap.objs.size:=λ b hb q=>by
   obtain⟨o,e,_⟩:∃o,s.heap.get? b=some o/\True:=by
    obtain⟨hz,hTI,⟨x,y,hTO⟩,h1,h2⟩:=st;simp only[List.mem_cons,List.not_mem_nil,or_false] at hb;rcases hb with rfl |rfl |rfl |rfl |rfl
    ·exact⟨_,hz,trivial⟩
    ·exact⟨_,hTI,trivial⟩
    ·exact⟨_,hTO,trivial⟩
    ·obtain⟨o,e,_⟩:=h1.obj;exact⟨o,e,trivial⟩
    ·obtain⟨o,e,_⟩:=h2.obj;exact⟨o,e,trivial⟩
   exact absurd (z2c e) (by rw[q];exact Nat.lt_irrefl _)
  refine wpAny_letOwnedTupleGo_zip z' λ h'' z'' b''=>⟨.ref s.heap.objs.size,upd H s.heap.objs.size (.tup [x,y]),I'.fp ((hf z (by simp)).upd (nz z (by simp))) b'',rfl,⟨_,x,y,hp,rfl,rfl,λ xs' q=>by rw[I.Mp q q1];exact e1,λ ys' q=>by rw[I.Mp q q2];exact e2⟩,?_,λ b hb=>?_⟩
  ·obtain⟨a,b,to'⟩:=to';exact⟨z'',b''.extBut _ _ n1 ti',⟨a,b,b''.extBut _ _ n2 to'⟩,s1'.of λ o e=>b''.extBut _ _ n3 e,s2'.of λ o e=>b''.extBut _ _ n4 e⟩
  ·rw[upd_ne (nz b hb)];exact (hf b hb).1
 done:=by
  intro X hP hw hK hc i pins s σ H E I hf st hg;subst hP hw hK;obtain⟨xs,ys,q1,q2,en⟩:=hg;have hT:s.TypeIs (.ref z) "zip" :=⟨_,st.z,rfl⟩;unfold pyNext;refine wpAny_bind (wpAny_attempt (wpAny_callSpecial?_slot (name:=Str.ofString "__next__") hT F.slot_zip_next (wpAny_call_entry F.slot_zip_next hT F.entry_zip_next
   (Zv (I.ok.hd hc) I (hf z (by simp)) (hf TO (by simp)) (hf i1 (by simp)) (hf i2 (by simp)) n1 n2 n3 n4 n5 n6 n7 n8 n9 n10 st q1 q2 en λ h' e I' ex=>?_) (F.args_zip_next_1 _))))
  obtain⟨o,ho,ec⟩:=ex;exact wpAny_bind (wpAny_isInstance (T:= "StopIteration") (b:=true) ⟨o,ho,ec⟩ isSubtype_stop (wpAny_pure ⟨rfl,I'⟩))
 self:=λ _ _ _ _ _ st h=>wpAny_pyIter_zip st.z h
abbrev itR (t:Bool) (l:Addr):Obj:={cls:= .type (itC t),data:= .fields #[.ref l,.int 0 0]}
abbrev WR (h:Heap) (t1:Bool) (l1:Addr):Heap:=h.push (itR t1 l1)
abbrev zA2 (h:Heap) (t1:Bool) (l1:Addr) (t2:Bool) (l2:Addr):Heap:=(WR h t1 l1).push (itR t2 l2)
abbrev zA3 (h:Heap) (t1:Bool) (l1:Addr) (t2:Bool) (l2:Addr):Heap:=(zA2 h t1 l1 t2 l2).push {cls:= .type "tuple",data:= .seq #[.ref h.objs.size,.ref (WR h t1 l1).objs.size]}
abbrev zA4 (h:Heap) (t1:Bool) (l1:Addr) (t2:Bool) (l2:Addr):Heap:=(zA3 h t1 l1 t2 l2).push {cls:= .type "tuple",data:= .seq #[.none,.none]}
abbrev RP (h:Heap) (t1:Bool) (l1:Addr) (t2:Bool) (l2:Addr):Heap:=(zA4 h t1 l1 t2 l2).push {cls:= .type "zip",data:= .fields #[.none,.bool false,.bool false,.ref (zA2 h t1 l1 t2 l2).objs.size,.ref (zA3 h t1 l1 t2 l2).objs.size]}
theorem Uc (t1:Bool) (l1:Addr) (t2:Bool) (l2:Addr) (xs ys:Array Value):Meets (Builtin.«zip.__new__» ⟨[.type "zip",.ref l1,.ref l2],[]⟩)
  (λ _ R s=>rO t1 s.heap l1 xs/\rO t2 s.heap l2 ys/\R (.ok (.ret (.ref (zA4 s.heap t1 l1 t2 l2).objs.size))) {s with heap:=RP s.heap t1 l1 t2 l2}):=
 .of_wp λ prog w A R s h=>by
  obtain⟨hp,g,d,tk,os⟩:=s;obtain⟨k1,k2,h⟩:=h;have hsub:=sub_zip;have L1:rO t1 (Shared.heap ⟨hp,g,d,tk,os⟩) l1 xs:=k1;have L2:rO t2 (Shared.heap ⟨WR hp t1 l1,g,d,tk,os⟩) l2 ys:=k2.of λ o e=>z1a _ e
  wp_walk using Fw L1,Fw L2
  exact⟨_,rfl,h⟩
section
variable {prog:Program} {w:World} {A:Around} {E:Value->Shared->Prop} {s:Shared}
theorem WT {ys:Array Value} (k1:rO t1 s.heap l1 xs) (k2:rO t2 s.heap l2 ys)
  (h:∀h',Z2 h' (s.heap.objs.size+4) (s.heap.objs.size+2) (s.heap.objs.size+3) s.heap.objs.size (s.heap.objs.size+1) t1 t2 l1 l2 0->(∀c o,s.heap.get? c=some o->h'.get? c=some o)->Q (.ref (s.heap.objs.size+4)) {s with heap:=h'}):
  wpAny (model prog w) A (call (.type "zip") [.ref l1,.ref l2]) Q E s:=by
 refine callType_new F.called_zip (by decide) (F.typeCall_zip_2 _ _) (F.newCall_zip_2 _ _) (λ obj=>F.args_object_init_3 obj _ _) F.entry_zip_new (Uc t1 l1 t2 l2 xs ys) ⟨k1,k2,?_⟩;have z1:(WR s.heap t1 l1).objs.size=s.heap.objs.size+1:=Heap.size_push ..;have z2:(zA2 s.heap t1 l1 t2 l2).objs.size=s.heap.objs.size+2:=by rw[Heap.size_push,z1]
 have z3:(zA3 s.heap t1 l1 t2 l2).objs.size=s.heap.objs.size+3:=by rw[Heap.size_push,z2]
 have z4:(zA4 s.heap t1 l1 t2 l2).objs.size=s.heap.objs.size+4:=by rw[Heap.size_push,z3]
 have a5:(RP s.heap t1 l1 t2 l2).get? (zA4 s.heap t1 l1 t2 l2).objs.size=some _:=z1f _ rfl;have a4:(RP s.heap t1 l1 t2 l2).get? (zA3 s.heap t1 l1 t2 l2).objs.size=some _:=z1a _ (z1f _ rfl);have a3:(RP s.heap t1 l1 t2 l2).get? (zA2 s.heap t1 l1 t2 l2).objs.size=some _:=z1a _ (z1a _ (z1f _ rfl));have a2:(RP s.heap t1 l1 t2 l2).get? (WR s.heap t1 l1).objs.size=some (itR t2 l2):=z1a _ (z1a _ (z1a _ (z1f _ rfl)));have a1:(RP s.heap t1 l1 t2 l2).get? s.heap.objs.size=some (itR t1 l1):=z1a _ (z1a _ (z1a _ (z1a _ (z1f _ rfl))));show _/\_;rw[z2,z3,z4] at a5;rw[z1,z2] at a3;rw[z3] at a4;rw[z1] at a2;rw[z4];exact⟨⟨_,a5,rfl⟩,h _ ⟨a5,a3,⟨_,_,a4⟩,.new a1,.new a2⟩ λ c o e=>z1a _ (z1a _ (z1a _ (z1a _ (z1a _ e))))⟩
end
theorem adD:bootBuiltins "zip" =some (.type "zip"):=by decide +kernel
section
variable {X:Cx} {yP:List Expr} {kk:Nat} {pp:Pos} {a b:Expr} {p pos:Pos}
def afB (K:PySem.W.Frag) (ta:TA):TI:=λ σ H R=>ta σ H λ vs H1=>∃t1 l1 t2 l2,vs=[.ref l1,.ref l2]/\(∃xs,Sq t1 K H1 l1 xs)/\(∃ys,Sq t2 K H1 l2 ys)/\R (Zu K t1 l1 t2 l2) H1
theorem abE {ta:TA} (hg:Gl X "zip") (hm:X.mg "zip" =none) (ha:PA X [a,b] ta) (he:starEach [a,b] X.env=(false,eval a X.env)::starEach [b] X.env:=by rfl) (hpl:(backTo pos (starEach [b] X.env)).any (·.1)=false:=by rfl):
    PI X (.Tuple yP kk pp) (.Call (.Name "zip" p) [a,b] [] pos) (afB X.K ta):=by
  intro pins s σ H R I h
  refine Call_ (ld_blt I hg hm adD (PyProof.Rows.callWith_type1 (thn (ha pos pins s σ H _ I h) fun us s1 ⟨vs,H1,I1,r1,q1⟩=>?_) he hpl))
  obtain⟨t1,l1,t2,l2,e,⟨xs,w1⟩,⟨ys,w2⟩,q⟩:=q1
  subst e
  cases r1 with
  | cons r rr=>
    cases rr with
    | cons r' rr=>
      cases rr
      cases r
      cases r'
      obtain⟨vs1,_,p1⟩:=I1.sq w1
      obtain⟨vs2,_,p2⟩:=I1.sq w2
      refine WT p1 p2 fun h' st k=>wpAny_pyIter_zip st.z ⟨s1.heap.objs.size+4,[s1.heap.objs.size+4,s1.heap.objs.size+2,s1.heap.objs.size+3,s1.heap.objs.size,s1.heap.objs.size+1],_,_,H1,rfl,I1.kept (t':=s1.toks) k,WQ ?_ ?_ ?_ ?_ ?_ ?_ ?_ ?_ ?_ ?_,st,fun c hc=>(by
        have hle:s1.heap.objs.size≤c:=by
          simp only[List.mem_cons,List.not_mem_nil,or_false] at hc
          rcases hc with rfl |rfl |rfl |rfl |rfl <;> first |exact Nat.le_refl _ |exact Nat.le_add_right _ _
        exact I1.fpOk hle (I1.hok.fresh hle)),q⟩
      all_goals (show @Ne Nat _ _;omega)
end
def xU (xs ys:List D):List D:=(xs.zip ys).map λ p=> .tup [p.1,p.2]
def zip2:List D->R (List D)
 |[x,y]=>(jP x).bind λ xs=>(jP y).bind λ ys=> .ok (xU xs ys)
 |_=> .bad
section
variable {K:PySem.W.Frag} {O:Addr->Prop} {H:Hp}
structure Src (K:PySem.W.Frag) (O:Addr->Prop) (H:Hp) (t:Bool) (a:Addr) (ds:List D):Prop where
 ex:∃vs,Sq t K H a vs/\aN K O H ds vs
 no:t=false->¬O a
theorem Mq {d:D} {v:V} {ds:List D} (r:Rep K O H d v) (h:jP d= .ok ds):∃t a,v= .ref a/\Src K O H t a ds:=by
 cases d with
 |tup es=>cases h;obtain⟨a,xs,rfl,q,rs⟩:=r.tup;exact⟨true,a,rfl,⟨xs,q,rs⟩,λ z=>by cases z⟩
 |lst es=>cases h;obtain⟨a,xs,rfl,q,n,rs⟩:=r.lst;exact⟨false,a,rfl,⟨xs,q,rs⟩,λ _=>n⟩
 |_=>cases h
theorem Src.go {O':Addr->Prop} {H':Hp} {a:Addr} {ds:List D} (s:Src K O H t a ds) (q:eF K O H O' H'):∃vs,Sq t K H' a vs/\aN K O' H' ds vs:=by
 obtain⟨vs,h,r⟩:=s.ex;cases t with
 |true=>exact⟨vs,SqT.ext q.ext h,r.go q⟩
 |false=>exact⟨vs,SqL.ext q.ext (s.no rfl) h,r.go q⟩
theorem Zw {xs ys:List D} {d:D} (h:(xU xs ys)[i]?=some d):∃x y,xs[i]?=some x/\ys[i]?=some y/\d= .tup [x,y]:=by
 unfold xU at h;rw[z2b] at h;cases e:(xs.zip ys)[i]? with
 |none=>rw[e] at h;cases h
 |some p=>rw[e] at h;cases h;obtain⟨h1,h2⟩:=List.getElem?_zip_eq_some.mp e;exact⟨_,_,h1,h2,rfl⟩
theorem YR.zip2 {a1 a2:Addr} {xs ys:List D} (s1:Src K O H t1 a1 xs) (s2:Src K O H t2 a2 ys):YR K O H (Zu K t1 a1 t2 a2) (xU xs ys):=by
 intro O' H' q i;obtain⟨v1,q1,r1⟩:=s1.go q;obtain⟨v2,q2,r2⟩:=s2.go q;refine⟨λ d e=>?_,λ e=>⟨v1,v2,q1,q2,?_⟩⟩
 ·obtain⟨x,y,e1,e2,rfl⟩:=Zw e;obtain⟨u1,g1,w1⟩:=r1.get e1;obtain⟨u2,g2,w2⟩:=r2.get e2;refine⟨⟨v1,v2,u1,u2,q1,g1,q2,g2⟩,λ x H2 y=>?_⟩;obtain⟨p,x1,x2,hp,rfl,rfl,k1,k2⟩:=y;have k1:=k1 _ q1;have k2:=k2 _ q2;rw[g1] at k1;cases k1;rw[g2] at k2;cases k2;exact⟨Same.upd hp,iV (SqT.of upd_same) ((aN.cons w1 (.cons w2 .nil)).same (Same.upd hp))⟩
 ·rw[<-r1.length,<-r2.length];simp only[xU,z1g,List.length_zip] at e;omega
end
section
variable {X:Cx} {yP:List Expr} {kk:Nat} {pp:Pos} {a b:Expr} {p pos:Pos} {fa:ao->R (List D)}
theorem RQ (hg:Gl X "zip") (hm:X.mg "zip" =none) (ha:DA X [a,b] fa) (he:starEach [a,b] X.env=(false,eval a X.env)::starEach [b] X.env:=by rfl) (hpl:(backTo pos (starEach [b] X.env)).any (·.1)=false:=by rfl):
  DI X (.Tuple yP kk pp) (.Call (.Name "zip" p) [a,b] [] pos) (λ ρ=>(fa ρ).bind zip2):=by
 refine PI.imp (abE hg hm ha he hpl) λ σ H Q q=>?_;obtain⟨ρ,O,j,q⟩:=q;refine go j q λ ds vs H1 e1 s1 r1 j1 h1=>?_;unfold zip2 at h1;split at h1
 ·rename_i x y;obtain⟨v1,v2,rfl,w1,w2⟩:=r1.two;cases ex:jP x with
  |bad=>rw[ex] at h1;exact h1.elim
  |err c=>rw[ex] at h1;cases x <;> cases ex
  | ok xs=>
   cases ey:jP y with
   |bad=>rw[ex,R.bC,ey] at h1;exact h1.elim
   |err c=>cases y <;> cases ey
   | ok ys=>
    rw[ex,R.bC,ey,R.bC] at h1;obtain⟨t1,a1,rfl,c1⟩:=Mq w1 ex;obtain⟨t2,a2,rfl,c2⟩:=Mq w2 ey;obtain⟨vs1,k1,_⟩:=c1.ex;obtain⟨vs2,k2,_⟩:=c2.ex;exact⟨t1,a1,t2,a2,rfl,⟨vs1,k1⟩,⟨vs2,k2⟩,fin h1 (YR.zip2 c1 c2)⟩
 ·exact h1.elim
end
section
variable {X:Cx} {pins:List (Addr×Obj)} {σ:St} {H:Hp} {s:Shared} {A':Around} {E:Value->Shared->Prop}
end
section
variable {prog:Program} {w:World} {A:Around} {E:Value->Shared->Prop} {s:Shared}
end
section
variable {X:Cx} {yP:List Expr} {kk:Nat} {pp:Pos} {a b c:Expr} {p pos:Pos}
end
section
variable {K:PySem.W.Frag} {O:Addr->Prop} {H:Hp}
theorem aN.three {d e f:D} {xs:List V} (r:aN K O H [d,e,f] xs):∃x y z,xs=[x,y,z]/\Rep K O H d x/\Rep K O H e y/\Rep K O H f z:=by
 obtain⟨x,t,rfl,h1,h2⟩:=r.cons_inv;obtain⟨y,z,rfl,h3,h4⟩:=h2.two;exact⟨x,y,z,rfl,h1,h3,h4⟩
end
section
variable {X:Cx} {yP:List Expr} {kk:Nat} {pp:Pos} {a b c:Expr} {p pos:Pos} {fa:ao->R (List D)}
theorem Qj {x:D} {c:Str} (h:jP x= .err c):False:=by cases x <;> cases h
end
def rP (ns:List Int):List Int:=ns.mergeSort λ a b=>decide (a<=b)
theorem Zx (ns:List Int):(rP ns).Perm ns:=List.mergeSort_perm _ _
theorem Zy (ns:List Int):(rP ns).Pairwise (· <= ·):=by
 have h:=List.pairwise_mergeSort (le:=λ a b:Int=>decide (a<=b)) (λ a b c h1 h2=>by simp at *;omega) (λ a b=>by simp;omega) ns;exact h.imp λ h=>by simpa using h
theorem Zz {a b:List Int} (p:a.Perm b) (ha:a.Pairwise (· <= ·)) (hb:b.Pairwise (· <= ·)):a=b:=by
 induction a generalizing b with
 |nil=>exact (List.nil_perm.mp p).symm
 | cons x a ih=>
  cases b with
  |nil=>exact absurd (List.perm_nil.mp p) (by simp)
  | cons y b=>
   have ha':=List.pairwise_cons.mp ha;have hb':=List.pairwise_cons.mp hb;have h1:x=y:=by
    rcases List.mem_cons.mp (p.mem_iff.mp (List.mem_cons_self (a:=x) (l:=a))) with h |h
    ·exact h
    ·rcases List.mem_cons.mp (p.mem_iff.mpr (List.mem_cons_self (a:=y) (l:=b))) with k |k
     ·exact k.symm
     ·have:=ha'.1 y k;have:=hb'.1 x h;omega
   subst h1;rw[ih (List.perm_cons x |>.mp p) ha'.2 hb'.2]
theorem Mr {a b:List Int} (p:a.Perm b) (h:a.Pairwise (· <= ·)):a=rP b:=Zz (p.trans (Zx b).symm) h (Zy b)
def Fx:List D->R D
 | [.lst ds]=>match intsOf ds with
  |some ns=>if ns.length < 64 then .ok (.lst ((rP ns).map .int)) else .bad
  |none=> .bad
 |_=> .bad
theorem abF {l:List Int} (h:l.length < 64):Fx [.lst (l.map .int)]= .ok (.lst ((rP l).map .int)):=by
 have:intsOf (l.map D.int)=some l:=by simpa using qH (c:=λ i:Int=>i) (l:=l)
 rw[Fx,this];show (if _ then _ else _)=_;rw[if_pos h]
section
variable {X:Cx}
theorem Il:∀{ns:List Int} {its:List Value},Vals (ns.map V.int) its->IntsAre its ns
 |[],_,r=>by cases r;exact .nil
 | n::ns,_,r=>by
  cases r with
  |cons h t=>obtain⟨tk,rfl⟩:=h;exact .cons n tk (Il t)
theorem RT:∀{ns:List Int} {its:List Value},IntsAre its ns->Vals (ns.map V.int) its
 |_,_,.nil=> .nil
 |_,_,.cons n t h=> .cons ⟨t,rfl⟩ (RT h)
theorem Ud:CallR X (.builtin "sorted") (λ xs H Q=>∃(a:Addr) (ns:List Int),xs=[.ref a]/\SqL X.K H a (ns.map V.int)/\ns.length < 64/\∀B,H B=none->Q (.ref B) (upd H B (.lst ((rP ns).map V.int)))):=by
 intro pins s σ H xs us Q I r h;obtain⟨a,ns,rfl,hq,h64,q⟩:=h;obtain⟨u,rfl,rx⟩:=vals1 r;cases rx;obtain⟨its,rv,p,hz⟩:=I.list hq;have hI:=Il rv;have hl:=rv.length;rw[z1g] at hl;refine sorted_ints p.isList hI (by omega) λ out ns' a1 a2 a3=>?_;have e:=Mr a2 a3;subst e;obtain⟨c,he⟩:=sortedAll_at s.heap its out;have hf:H (s.heap.objs.size+1)=none:=I.hok.fresh (Nat.le_succ _);refine⟨.ref (s.heap.objs.size+1),upd H (s.heap.objs.size+1) (.lst ((rP ns).map V.int)),I.laid (t':=s.toks) (λ b o e=>sortedAll_old e) (Nat.le_succ _) ?_,rfl,q _ hf⟩;refine⟨?_,out.toList,c,RT a1,by simpa using he⟩;rw[z1g,a2.length_eq];exact z0b (by omega) (z0e gW)
theorem zB {K:PySem.W.Frag} {O:Addr->Prop} {H:Hp}:∀{ds:List D} {ns:List Int} {vs:List V},intsOf ds=some ns->aN K O H ds vs->vs=ns.map V.int
 |[],ns,vs,e,r=>by cases e;exact r.nil_inv
 | d ::ds,ns,vs,e,r=>by
  obtain⟨x,t,rfl,h1,h2⟩:=r.cons_inv;cases d with
  | int i=>
   have e:(intsOf ds).map (i:: ·)=some ns:=e;cases q:intsOf ds with
   |none=>rw[q] at e;cases e
   |some l=>rw[q] at e;cases e;rw[h1.int,zB q h2];rfl
  |_=>cases e
theorem uh {K:PySem.W.Frag} {O:Addr->Prop} {H:Hp}:∀{ns:List Int},aN K O H (ns.map D.int) (ns.map V.int)
 |[]=> .nil
 |_::_=> .cons (cB _) uh
theorem ZC:CallD X (.builtin "sorted") Fx:=by
 refine⟨_,Ud,λ ρ O σ H Q xs ds j r h=>?_⟩;unfold Fx at h;split at h
 ·rename_i es;obtain⟨x,rfl,rx⟩:=r.one;obtain⟨a,ys,rfl,hq,_,rs⟩:=rx.lst;cases e:intsOf es with
  |none=>rw[e] at h;exact h.elim
  | some ns=>
   rw[e] at h;have h:good X (rD X) O (if ns.length < 64 then R.ok (.lst ((rP ns).map .int)) else .bad) σ H Q:=h;by_cases hl:ns.length < 64
   ·rw[if_pos hl] at h;have e2:=zB e rs;subst e2;exact⟨a,ns,rfl,hq,hl,λ B hB=>h _ _ (Same.upd hB) (Rep.nD hB (j.qR hB) uh)⟩
   ·rw[if_neg hl] at h;exact h.elim
 ·exact h.elim
variable {pos:Pos}
theorem WW (i k m:Nat) {x z:Str} {py pz:Pos} {kt} (hc:X.calm=true) (hN:X.N.Nodup) (hi:X.N[i]?=some x:=by rfl) (hk:X.N[k]?=some y:=by rfl) (hm:X.N[m]?=some z:=by rfl)
  (hx:Loc X.env.scope x:=by first |exact Or.inl rfl |exact Or.inr rfl) (hy:Loc X.env.scope y:=by first |exact Or.inl rfl |exact Or.inr rfl) (hz:Loc X.env.scope z:=by first |exact Or.inl rfl |exact Or.inr rfl)
  (hfx:X.fn x=true\/X.env.scope.names.lookup x=some .local:=by first |exact .inl rfl |exact .inr rfl) (EY:X.fn y=true\/X.env.scope.names.lookup y=some .local:=by first |exact .inl rfl |exact .inr rfl) (hfz:X.fn z=true\/X.env.scope.names.lookup z=some .local:=by first |exact .inl rfl |exact .inr rfl):
  DGA X (.Tuple [.Name x px,.Name y py,.Name z pz] kt pos) (cZ (c7 3 (aX (aF i) (aX (aF k) (aX (aF m) nilG))))):=by
 intro pins s σ H v u Q I r h;obtain⟨H0,O0,O,ρ,d,ρ',j,rd,e,q⟩:=h;cases d with
 | tup ds=>
  match ds,e,rd with
  |[],e,_=>cases e
  |[_],e,_=>cases e
  |[_,_],e,_=>cases e
  |_::_::_::_::_,e,_=>simp[cZ,c7] at e
  | [d1,d2,d3],e,rd=>
   obtain⟨a,xs,rfl,hq,rs⟩:=rd.tup;obtain⟨v1,v2,v3,rfl,r1,r2,r3⟩:=rs.three;cases e;refine pg_tup hc (pgs_cons (pg_name hN hi hx hfx) (pgs_cons (pg_name hN hk hy EY) (pgs_cons (pg_name hN hm hz hfz) pgs_nil))) rfl rfl pins s σ H _ u Q I r ⟨a,[v1,v2,v3],rfl,hq,rfl,v1,[v2,v3],rfl,v2,[v3],rfl,v3,[],rfl,rfl,?_⟩;exact q _ (((j.set (z1b hi).1 r1).set (z1b hk).1 r2).set (z1b hm).1 r3)
 |_=>cases e
end
def Ite (K:PySem.W.Frag) (t:Bool) (l:Addr):It:=
 ⟨λ i H=>∃xs x,Sq t K H l xs/\xs[i]?=some x,
  λ i H v H'=>∃p x,H p=none/\v= .ref p/\H'=upd H p (.tup [.int (i:Int),x])/\∀xs,Sq t K H l xs->xs[i]?=some x,
  λ i H=>∃xs,Sq t K H l xs/\xs.length<=i⟩
section
variable {X:Cx} {pins:List (Addr×Obj)} {σ:St} {H:Hp} {s:Shared} {A':Around} {E:Value->Shared->Prop}
theorem WX {e:Addr} {xs:List V} {x:V} {old:Value} (I:Inv X pins σ H s) (fe:FpOk X pins H e) (fi:FpOk X pins H it) (ne:e≠it)
  (he:IsEnum s.heap e it k old) (hs:oF t s.heap it l k) (q:Sq t X.K H l xs) (ex:xs[k]?=some x)
  (hQ:∀h' u,Inv X pins σ (upd H s.heap.objs.size (.tup [.int (k:Int),x])) {s with heap:=h',toks:=s.toks+1}->IsEnumOut h' e it ((k:Int)+1) u s.heap.objs.size->oF t h' it l (k+1)->Q (.ref s.heap.objs.size) {s with heap:=h',toks:=s.toks+1}):
  wpAny (model X.prog X.w) A' (Builtin.«enumerate.__next__» ⟨[.ref e],[]⟩) (λ fin s'=>∃v,fin= .done (.ret v)/\Q v s') E s:=by
 obtain⟨us,r1,p1⟩:=I.sq q;obtain⟨u,hu,ru⟩:=r1.get ex;obtain⟨hp,g,d,tk,os⟩:=s;show wpAny _ _ (field (.ref e) 2 >>=_) _ _ _;refine wpAny_bind (wpAny_field he rfl (x:= .ref it) rfl ?_);refine wpAny_bind (Lg hs p1 (v:=u) (by simpa using hu) λ g1 s1 b1=>?_);have I1:=I.fp fi b1
 replace b1:Heap.SameBut it hp g1:=b1
 have e1:IsEnum g1 e it k old:=(b1.2 e ne).trans he;show wpAny _ _ (field (.ref e) 3 >>=_) _ _ ⟨g1,g,d,tk,os⟩;refine wpAny_bind (wpAny_field e1 rfl (x:=rawInt k) rfl ?_);show wpAny _ _ (field (.ref e) 4 >>=_) _ _ ⟨g1,g,d,tk,os⟩;refine wpAny_bind (wpAny_field e1 rfl (x:= .none) rfl ?_);show wpAny _ _ (mkInt k >>=_) _ _ ⟨g1,g,d,tk,os⟩;refine wpAny_bind (wpAny_mkInt ?_);have I1':Inv X pins σ H ⟨g1,g,d,tk+1,os⟩:=Inv.tok (s:=⟨g1,g,d,tk,os⟩) I1 (tk+1);show wpAny _ _ (setField (.ref e) 3 (rawInt ((k:Int)+1)) >>=_) _ _ ⟨g1,g,d,tk+1,os⟩;refine wpAny_bind (wpAny_setField_rec e1 (by simp) λ g2 e2 b2=>?_);have I2:=I1'.fp fe b2
 replace b2:Heap.SameBut e g1 g2:=b2
 replace e2:IsEnum g2 e it ((k:Int)+1) old:=e2
 show wpAny _ _ (setField (.ref e) 4 .none >>=_) _ _ ⟨g2,g,d,tk+1,os⟩;refine wpAny_bind (wpAny_setField_rec e2 (by simp) λ g3 e3 b3=>?_);have I3:=I2.fp fe b3
 replace b3:Heap.SameBut e g2 g3:=b3
 replace e3:IsEnum g3 e it ((k:Int)+1) old:=e3
 show wpAny _ _ (newTuple [.int k tk,u] >>=_) _ _ ⟨g3,g,d,tk+1,os⟩;refine wpAny_bind (wpAny_newTuple ?_);have sz:g3.objs.size=hp.objs.size:=by rw[b3.1,b2.1,b1.1]
 have lt:e≠g3.objs.size:=Nat.ne_of_lt (z2c e3);have I4:Inv X pins σ (upd H g3.objs.size (.tup [.int (k:Int),x])) ⟨g3.push {cls:= .type "tuple",data:= .seq #[.int k tk,u]},g,d,tk+1,os⟩:=
  Inv.laid (s:=⟨g3,g,d,tk+1,os⟩) (t':=tk+1) I3 (λ b u e=>z1a _ e) (z0g _) ⟨WL,[.int k tk,u],.cons ⟨tk,rfl⟩ (.cons ru .nil),⟨_,z1f _ rfl,rfl,_,rfl⟩⟩
 have e4:IsEnum (g3.push {cls:= .type "tuple",data:= .seq #[.int k tk,u]}) e it ((k:Int)+1) old:=z1a _ e3;have s4:oF t (g3.push {cls:= .type "tuple",data:= .seq #[.int k tk,u]}) it l (k+1):=s1.of λ o z=>z1a _ (b3.extBut _ _ (Ne.symm ne) (b2.extBut _ _ (Ne.symm ne) z));show wpAny _ _ (Builtin.SmallTypes.ownedTupleIsFree (.ref e) >>=_) _ _ ⟨g3.push {cls:= .type "tuple",data:= .seq #[.int k tk,u]},g,d,tk+1,os⟩
 generalize g3.push {cls:= .type "tuple",data:= .seq #[.int k tk,u]}=g4 at *
 refine wpAny_bind ?_;unfold Builtin.SmallTypes.ownedTupleIsFree;refine wpAny_bind (wpAny_field e4 rfl (x:= .none) rfl (wpAny_pure ?_));simp only[if_true];refine wpAny_bind (wpAny_rule (wpAny_bind (wpAny_field e4 rfl (x:=old) rfl ?_)));refine wpAny_bind (wpAny_setField_rec e4 (by simp) λ g5 e5 b5=>?_);have I5:=I4.fp (fe.upd lt) b5
 replace b5:Heap.SameBut e g4 g5:=b5
 replace e5:IsEnum g5 e it ((k:Int)+1) u:=e5
 show wpAny _ _ (Builtin.SmallTypes.ownedTupleHandOut (.ref e) (.ref g3.objs.size) >>=_) _ _ ⟨g5,g,d,tk+1,os⟩;refine wpAny_bind ?_;unfold Builtin.SmallTypes.ownedTupleHandOut;refine wpAny_bind (wpAny_setField_rec e5 (by simp) λ g6 e6 b6=>?_);have I6:=I5.fp (fe.upd lt) b6
 replace b6:Heap.SameBut e g5 g6:=b6
 replace e6:IsEnumOut g6 e it ((k:Int)+1) u g3.objs.size:=e6
 refine wpAny_setField_rec e6 (by simp) λ g7 e7 b7=>?_;have I7:=I6.fp (fe.upd lt) b7
 replace b7:Heap.SameBut e g6 g7:=b7
 replace e7:IsEnumOut g7 e it ((k:Int)+1) u g3.objs.size:=e7
 refine wpAny_bind (wpAny_letGo (wpAny_pure ⟨_,rfl,?_⟩));rw[sz] at I7 e7;show Q (.ref g3.objs.size) _;rw[sz];exact hQ g7 u I7 e7 (s4.of λ o z=>b7.extBut _ _ (Ne.symm ne) (b6.extBut _ _ (Ne.symm ne) (b5.extBut _ _ (Ne.symm ne) z)))
end
theorem WY {yP:List Expr} {kk} {pp:Pos} {e:Addr} (ne:e≠it):
  Turn P w K (.Tuple yP kk pp) (Ite K t l) [e,it] e (λ i h=>(∃old,IsEnum h e it i old)/\oF t h it l i) where
 mem:=by simp
 obj:=λ i h st b hb=>by
  obtain⟨⟨old,he⟩,hs⟩:=st;simp only[List.mem_cons,List.not_mem_nil,or_false] at hb;rcases hb with rfl |rfl
  ·exact⟨_,he,λ v q=>by have q':Data.fields _=Data.cell v:=q;cases q'⟩
  ·exact hs.obj
 keep:=λ i h h' st k=>by
  obtain⟨⟨old,he⟩,hs⟩:=st;exact⟨⟨old,k _ (by simp) _ he⟩,hs.of λ o z=>k _ (by simp) o z⟩
 item :=by
  intro X hP hw hK hc i pins s σ H E I hf st hg;subst hP hw hK;obtain⟨⟨old,he⟩,hs⟩:=st;obtain⟨xs,x,q,ex⟩:=hg;have hT:s.TypeIs (.ref e) "enumerate" :=⟨_,he,rfl⟩;have hp:H s.heap.objs.size=none:=I.hok.fresh (z0g _);have nz:∀b,b∈[e,it]->b≠s.heap.objs.size:=λ b hb z=>by
   obtain⟨o,eo⟩:∃o,s.heap.get? b=some o:=by
    simp only[List.mem_cons,List.not_mem_nil,or_false] at hb;rcases hb with rfl |rfl
    ·exact⟨_,he⟩
    ·obtain⟨o,eo,_⟩:=hs.obj;exact⟨o,eo⟩
   exact absurd (z2c eo) (by rw[z];exact Nat.lt_irrefl _)
  unfold pyNext;refine wpAny_bind (wpAny_attempt (wpAny_callSpecial?_slot (name:=Str.ofString "__next__") hT F.slot_enumerate_next (wpAny_call_entry F.slot_enumerate_next hT F.entry_enumerate_next
   (WX I (hf e (by simp)) (hf it (by simp)) ne he hs q ex λ h' u I' e' s'=>wpAny_pure ⟨_,rfl,?_⟩) (F.args_enumerate_next_1 _))))
  refine wpAny_letOwnedTupleGo_enum e' λ h'' e'' b''=>⟨.ref s.heap.objs.size,upd H s.heap.objs.size (.tup [.int (i:Int),x]),I'.fp ((hf e (by simp)).upd (nz e (by simp))) b'',rfl,⟨_,x,hp,rfl,rfl,λ xs' q'=>by rw[I.Mp q' q];exact ex⟩,⟨⟨u,by simpa using e''⟩,s'.of λ o z=>b''.extBut _ _ (Ne.symm ne) z⟩,λ b hb=>?_⟩;rw[upd_ne (nz b hb)];exact (hf b hb).1
 done:=by
  intro X hP hw hK hc i pins s σ H E I hf st hg;subst hP hw hK;obtain⟨⟨old,he⟩,hs⟩:=st;obtain⟨xs,q,en⟩:=hg;obtain⟨us,r1,p1⟩:=I.sq q;have hT:s.TypeIs (.ref e) "enumerate" :=⟨_,he,rfl⟩;unfold pyNext;refine wpAny_bind (wpAny_attempt (wpAny_callSpecial?_slot (name:=Str.ofString "__next__") hT F.slot_enumerate_next (wpAny_call_entry F.slot_enumerate_next hT F.entry_enumerate_next ?_ (F.args_enumerate_next_1 _))));show wpAny _ _ (field (.ref e) 2 >>=_) _ _ _;refine wpAny_bind (wpAny_field he rfl (x:= .ref it) rfl ?_);refine wpAny_bind (DN (I.ok.hd hc) hs p1 (by have:=r1.length;simp;omega) λ g1 x eb bH=>?_);obtain⟨o,ho,ec⟩:=bH;exact wpAny_bind (wpAny_isInstance (T:= "StopIteration") (b:=true) ⟨o,ho,ec⟩ isSubtype_stop (wpAny_pure ⟨rfl,I.fpE (hf it (by simp)) eb⟩))
 self:=λ _ _ _ _ _ st h=>by
  obtain⟨⟨old,he⟩,_⟩:=st;exact wpAny_pyIter_enum he h
theorem Qk (t:Bool) (l:Addr) (xs:Array Value):Meets (Builtin.«enumerate.__new__» ⟨[.type "enumerate",.ref l],[]⟩)
  (λ _ R s=>rO t s.heap l xs/\R (.ok (.ret (.ref (s.heap.push (itR t l)).objs.size))) {s with heap:=(s.heap.push (itR t l)).push {cls:= .type "enumerate",data:= .fields #[.none,.bool false,.ref s.heap.objs.size,rawInt 0,.none,.none]}}):=
 .of_wp λ prog w A R s h=>by
  obtain⟨hp,g,d,tk,os⟩:=s;obtain⟨k1,h⟩:=h;have hsub:=sub_enumerate;have L1:rO t (Shared.heap ⟨hp,g,d,tk,os⟩) l xs:=k1
  wp_walk using Fw L1
  refine wpAny_stack_any λ st=>wpAny_pure ?_;split
  ·rename_i c _ _ _ _ _;cases (c ==Value.type "enumerate") <;> (wp_walk using Fw L1;exact⟨_,rfl,h⟩)
  ·wp_walk using Fw L1
   exact⟨_,rfl,h⟩
section
variable {prog:Program} {w:World} {A:Around} {E:Value->Shared->Prop} {s:Shared}
theorem Ue (k1:rO t s.heap l xs)
  (h:∀h',IsEnum h' (s.heap.objs.size+1) s.heap.objs.size 0 .none->oF t h' s.heap.objs.size l 0->(∀c o,s.heap.get? c=some o->h'.get? c=some o)->Q (.ref (s.heap.objs.size+1)) {s with heap:=h'}):
  wpAny (model prog w) A (call (.type "enumerate") [.ref l]) Q E s:=by
 refine callType_new F.called_enumerate (by decide) (F.typeCall_enumerate_1 _) (F.newCall_enumerate_1 _) (λ obj=>F.args_object_init_2 obj _) F.entry_enumerate_new (Qk t l xs) ⟨k1,?_⟩;have z1:(s.heap.push (itR t l)).objs.size=s.heap.objs.size+1:=Heap.size_push ..;have a2:((s.heap.push (itR t l)).push {cls:= .type "enumerate",data:= .fields #[.none,.bool false,.ref s.heap.objs.size,rawInt 0,.none,.none]}).get? (s.heap.push (itR t l)).objs.size=some _:=z1f _ rfl;show _/\_;rw[z1] at a2 |-;exact⟨⟨_,a2,rfl⟩,h _ a2 (.new (z1a _ (z1f _ rfl))) λ c o e=>z1a _ (z1a _ e)⟩
end
section
variable {X:Cx} {yP:List Expr} {kk:Nat} {pp:Pos} {a:Expr} {p pos:Pos} {fa:ao->R (List D)}
def afC (K:PySem.W.Frag) (ta:TA):TI:=λ σ H R=>ta σ H λ vs H1=>∃t l,vs=[.ref l]/\(∃xs,Sq t K H1 l xs)/\R (Ite K t l) H1
theorem abG {ta:TA} (hg:Gl X "enumerate") (hm:X.mg "enumerate" =none) (ha:PA X [a] ta) (he:starEach [a] X.env=(false,eval a X.env)::starEach [] X.env:=by rfl) (hpl:(backTo pos (starEach [] X.env)).any (·.1)=false:=by rfl):
    PI X (.Tuple yP kk pp) (.Call (.Name "enumerate" p) [a] [] pos) (afC X.K ta):=by
  intro pins s σ H R I h
  refine Call_ (ld_blt I hg hm boot_enumerate (PyProof.Rows.callWith_type1 (thn (ha pos pins s σ H _ I h) fun us s1 ⟨vs,H1,I1,r1,q1⟩=>?_) he hpl))
  obtain⟨t,l,e,⟨xs,w1⟩,q⟩:=q1
  subst e
  cases r1 with
  | cons r rr=>
    cases rr
    cases r
    obtain⟨vs1,_,p1⟩:=I1.sq w1
    refine Ue p1 fun h' e' s' k=>wpAny_pyIter_enum e' ⟨s1.heap.objs.size+1,[s1.heap.objs.size+1,s1.heap.objs.size],_,_,H1,rfl,I1.kept (t':=s1.toks) k,WY ?_,⟨⟨_,e'⟩,s'⟩,fun c hc=>(by
        have hle:s1.heap.objs.size≤c:=by
          simp only[List.mem_cons,List.not_mem_nil,or_false] at hc
          rcases hc with rfl |rfl <;> first |exact Nat.le_refl _ |exact Nat.le_add_right _ _
        exact I1.fpOk hle (I1.hok.fresh hle)),q⟩
    all_goals (show @Ne Nat _ _;omega)
def oG:Nat->List D->List D
 |_,[]=>[]
 |n,d::ds=> .tup [.int (n:Int),d]::oG (n+1) ds
theorem JT:∀{ds:List D} {n i:Nat} {d:D},(oG n ds)[i]?=some d->∃x,ds[i]?=some x/\d= .tup [.int ((n+i:Nat):Int),x]
 |[],_,_,_,h=>by simp[oG] at h
 |x::ds,n,0,d,h=>by simp[oG] at h;exact⟨x,rfl,by rw[<-h];rfl⟩
 | x::ds,n,i+1,d,h=>by
  rw[oG,List.getElem?_cons_succ] at h;obtain⟨y,e1,e2⟩:=JT h;exact⟨y,by rw[List.getElem?_cons_succ];exact e1,by rw[e2,show n+1+i=n+(i+1) by omega]⟩
theorem JV:∀{ds:List D} {n:Nat},(oG n ds).length=ds.length
 |[],_=>rfl
 |_::ds,n=>by rw[oG,List.length_cons,JV,List.length_cons]
def oH:List D->R (List D)
 |[x]=>(jP x).bind λ xs=> .ok (oG 0 xs)
 |_=> .bad
theorem YR.enum {O:Addr->Prop} {a:Addr} {xs:List D} (s1:Src K O H t a xs):YR K O H (Ite K t a) (oG 0 xs):=by
 intro O' H' q i;obtain⟨v1,q1,r1⟩:=s1.go q;refine⟨λ d e=>?_,λ e=>⟨v1,q1,?_⟩⟩
 ·obtain⟨x,e1,rfl⟩:=JT e;obtain⟨u1,g1,w1⟩:=r1.get e1;refine⟨⟨v1,u1,q1,g1⟩,λ x H2 y=>?_⟩;obtain⟨p,x1,hp,rfl,rfl,k1⟩:=y;have k1:=k1 _ q1;rw[g1] at k1;cases k1;rw[Nat.zero_add];exact⟨Same.upd hp,iV (SqT.of upd_same) ((aN.cons (cB _) (.cons w1 .nil)).same (Same.upd hp))⟩
 ·rw[<-r1.length,<-JV (n:=0)];exact e
theorem sU (hg:Gl X "enumerate") (hm:X.mg "enumerate" =none) (ha:DA X [a] fa) (he:starEach [a] X.env=(false,eval a X.env)::starEach [] X.env:=by rfl) (hpl:(backTo pos (starEach [] X.env)).any (·.1)=false:=by rfl):
  DI X (.Tuple yP kk pp) (.Call (.Name "enumerate" p) [a] [] pos) (λ ρ=>(fa ρ).bind oH):=by
 refine PI.imp (abG hg hm ha he hpl) λ σ H Q q=>?_;obtain⟨ρ,O,j,q⟩:=q;refine go j q λ ds vs H1 e1 s1 r1 j1 h1=>?_;unfold oH at h1;split at h1
 ·rename_i x;obtain⟨v1,rfl,w1⟩:=r1.one;cases ex:jP x with
  |bad=>rw[ex] at h1;exact h1.elim
  |err c=>exact (Qj ex).elim
  | ok xs=>
   rw[ex,R.bC] at h1;obtain⟨t1,a1,rfl,c1⟩:=Mq w1 ex;obtain⟨vs1,k1,_⟩:=c1.ex;exact⟨t1,a1,rfl,⟨vs1,k1⟩,fin h1 (YR.enum c1)⟩
 ·exact h1.elim
end
section
variable {prog:Program} {w:World} {A:Around} {E:Value->Shared->Prop} {s:Shared}
end
section
variable {X:Cx} {a:Expr} {p pos p2 pos2:Pos} {fa:ao->R (List D)}
def adE (K:PySem.W.Frag) (ta:TA):TE:=λ σ H Q=>ta σ H λ vs H1=>∃j:Int,vs=[.int j]/\0<=j/\j<=1000/\∀q,H1 q=none->Q (.ref q) (upd H1 q (.rng 0 j))
theorem adF {ta:TA} (hg:Gl X "range") (hm:X.mg "range" =none) (ha:PA X [a] ta) (hs:starEach [a] X.env=[(false,eval a X.env)]:=by rfl):PE X (.Call (.Name "range" p) [a] [] pos) (adE X.K ta):=by
 intro pins s σ H Q I h;refine Call_ (ld_blt I hg hm boot_range (PyProof.Rows.callWith_type1 (thn (ha pos pins s σ H _ I h) λ us s1 ⟨vs,H1,I1,r1,q1⟩=>?_) hs rfl));obtain⟨j,e,h0,h1,q⟩:=q1;subst e;cases r1 with
 | cons r rr=>
  cases rr;obtain⟨t,rfl⟩:=r;refine call_range_1 ?_;exact⟨.ref s1.heap.objs.size,upd H1 s1.heap.objs.size (.rng 0 j),I1.laid (λ b o e=>z1a _ e) (z0g _) ⟨_,_,_,z1f _ rfl⟩,rfl,q _ (I1.hok.fresh (z0g _))⟩
end
section
variable {X:Cx} {e:Expr} {f:ao->R D} {pos:Pos}
def Im (i:Nat) (f:ao->R D):ao->So:=λ ρ=>match ρ[i]? with
 | some (some (.val (.int a)))=>fj (f ρ) ρ λ d=>match d with
  | .int b=> .nx (ρ.set i (some (.val (.int (a+b)))))
  |_=> .bad
 |_=> .bad
theorem adG (i:Nat) {x:Str} (hN:X.N.Nodup) (he:DE X e f) (hi:X.N[i]?=some x:=by rfl) (hx:Loc X.env.scope x:=by first |exact Or.inl rfl |exact Or.inr rfl)
  (hf:X.fn x=true\/X.env.scope.names.lookup x=some .local:=by first |exact .inl rfl |exact .inr rfl):DS X (.AugAssign (.Name x pos') .Add e pos) (Im i f):=by
 refine PS.imp (ps_aug hN hi hx he ip_add hf) λ σ H E h=>?_;obtain⟨H0,O0,O,ρ,j,h⟩:=h;unfold Im at h;cases e1:ρ[i]? with
 |none=>simp only[e1] at h;exact h.elim
 | some oe =>
  cases oe with
  |none=>simp only[e1] at h;exact h.elim
  | some en=>
   cases en with
   |lst _=>simp only[e1] at h;exact h.elim
   |za _=>simp only[e1] at h;exact h.elim
   |obj _=>simp only[e1] at h;exact h.elim
   | val d=>
    cases d with
    | int a=>
     simp only[e1] at h;obtain⟨v,hv,rv⟩:=j.inn.env.get i _ e1;have rv:v= .int a:=Rep.int (K:=X.K) (O:=O) (H:=H) rv;subst rv;refine⟨.int a,hv,ρ,O,j.inn,?_⟩;unfold fj at h;cases e2:f ρ with
     |bad=>rw[e2] at h;exact h
     |err c=>rw[e2] at h;exact h σ H O j
     | ok d=>
      rw[e2] at h;intro v' H' s r;cases d with
      |int b=>exact⟨a,b,rfl,r.int,h _ H' O ((j.grow s).set (z1b hi).1 (cB _)) (Same.dJ s)⟩
      |_=>exact h.elim
    |_=>simp only[e1] at h;exact h.elim
def ZD (K:PySem.W.Frag) (mg:Str->Option Value) (x:Str) (ss:List Str):Prop:=∃a,mg x=some (.ref a)/\∀H,SqT K H a (ss.map V.str)
theorem JW {K:PySem.W.Frag} {O:Addr->Prop} {H:Hp}:∀{ss:List Str},aN K O H (ss.map D.str) (ss.map V.str)
 |[]=> .nil
 |_::_=> .cons (HW _) JW
theorem abH {x:Str} {ss:List Str} {pos:Pos} (hg:Gl X x) (h:ZD X.K X.mg x ss) (hd:(x ==("__debug__" :Str))=false:=by decide):DE X (.Name x pos) (λ _=> .ok (.tup (ss.map D.str))):=by
 obtain⟨a,hm,hq⟩:=h;exact HX (pe_glob (v:= .ref a) hg hm rfl hd) λ _ H=>iV (hq H) JW
end
theorem abI {x:Str} {ss:List Str} {a:Addr} {od:Option Addr} {its:Array Value} {sl:Array (Option Value)} (X:K.In h) (G:h.Ns mainGlobals mg)
  (y:PySem.W.nsIn K mainGlobals x=some (some (.ref a))) (l:K.lookup a=some ⟨.type "tuple",od,.seq its n,sl⟩) (hz:its.size<=sizeLine) (hv:Vals (ss.map V.str) its.toList):ZD K mg x ss:=
 ⟨a,PySem.W.mg_of X G y,λ _=> .inr ⟨_,its,n,l,rfl,rfl,hz,hv⟩⟩
section
variable {X:Cx}
end
section
variable {X:Cx}
def tGr (X:Cx) (Re:Hp->(Addr->Prop)->Hp->D->V->Prop) (f:ao->R D):TE:=λ σ H Q=>∃ρ O,In X O H ρ σ/\good X (Re H) O (f ρ) σ H Q
def W0 (X:Cx) (Re:Hp->(Addr->Prop)->Hp->D->V->Prop) (e:Expr) (f:ao->R D):Prop:=PE X e (tGr X Re f)
def RV (X:Cx) (H:Hp) (Ac:Hp->Addr->(Addr->Prop)->Hp->List D->List V->Prop):(Addr->Prop)->Hp->D->V->Prop:=λ O H' d v=>
 ∃Hs a ys ds,d= .lst ds/\v= .ref a/\Same H Hs/\Hs a=none/\X.K.lookup a=none/\Same Hs H'/\H' a=some (.lst ys)/\Ac Hs a O H' ds ys
structure AcR (K:PySem.W.Frag) (Re:Hp->(Addr->Prop)->Hp->D->V->Prop) (Ac:Hp->Addr->(Addr->Prop)->Hp->List D->List V->Prop):Prop where
 nil:∀{H2 a O H'},Ac H2 a O H' [] []
 same:∀{H2 a O H' wz ds ys},Ac H2 a O H' ds ys->H' a=some (.lst ys)->Same H' wz->Ac H2 a O wz ds ys
 len:∀{H2 a O H' ds ys},Ac H2 a O H' ds ys->ds.length=ys.length
 app:∀{H2 a O H7 H8 ds ys d v},Ac H2 a O H7 ds ys->H2 a=none->H7 a=some (.lst ys)->Same H2 H7->Same H7 H8->Re H7 (λ b=>O b\/b=a) H8 d v->
  eF K (λ b=>O b\/b=a) H8 (λ b=>O b\/b=a) (upd H8 a (.lst (ys++[v])))->Ac H2 a O (upd H8 a (.lst (ys++[v]))) (ds++[d]) (ys++[v])
inductive ZF (XB:Cx) (Ac:Hp->Addr->(Addr->Prop)->Hp->List D->List V->Prop) (O1 O:Addr->Prop) (H2:Hp) (Dd:Addr) (fp:List Addr) (tn:Nat->Heap->Prop) (ρ0:ao) (xs:List D) (F:D->R (Option D)) (all:List D) (n:Nat) (s':Shared):Prop
 |mk (i:Nat) (σ':St) (H':Hp) (ys:List V) (ds rest:List D) (en:n=xs.length+1 - i) (hil:i<=xs.length) (I:Inv XB [] σ' H' s') (st:tn i s'.heap) (fr:∀b∈fp,H' b=none) (j:In XB O H' ρ0 σ') (sm:Same H2 H') (hD:H' Dd=some (.lst ys)) (rp:Ac H2 Dd O1 H' ds ys) (hm:j5 F (xs.drop i)= .ok rest) (hr:ds++rest=all):ZF XB Ac O1 O H2 Dd fp tn ρ0 xs F all n s'
theorem zE {Re:Hp->(Addr->Prop)->Hp->D->V->Prop} {Ac:Hp->Addr->(Addr->Prop)->Hp->List D->List V->Prop} (AC:AcR X.K Re Ac) {pos2:Pos} (ts:List Str) (caps:List Nat)
  (hc:X.calm=true) (hb:vm X.env.scope scope ts X.N=true) (hcap:(dF scope).map (λ x=>jZ x X.N)=caps)
  (hi:DI X tg iter fi) (hk:kW ts.length gt) (hg:∀C s H ex,(bY X scope ts C s H ex).N.Nodup->DG (bY X scope ts C s H ex) tg gt) (ht:∀C s H ex,Ck (bY X scope ts C s H ex) ifs ft) (he:∀C s H ex,W0 (bY X scope ts C s H ex) Re elt fe)
  (hs:∀x,foldedSetIterable iter X.env x=pure x) {use:Option (Value->Sem Unit)} {Qr:Value->Shared->Prop} {pins:List (Addr×Obj)} {s:Shared} {O:Addr->Prop} {Q:VK} (I:Inv X pins σ H s) (j:In X O H ρ σ)
  (hQ:∀(v:V) (H':Hp) (s5:Shared) (C:Addr) (m:Str->Option Value) (f:Flow) (acc:Value),Q v H'->Inv X pins σ H' s5->s5.heap.Ns C m->FpOk X pins H' C->RelV v acc->compPost (model X.prog X.w) X.A X.xe use Qr acc C (.ok f) s5)
  (h:good X (RV X H Ac) O (bA ts.length caps fi gt ft fe ρ) σ H Q):
  wpAny (model X.prog X.w) X.A (comprehension (.ListComp elt [⟨tg,iter,ifs,0⟩] scope pos) scope X.env pos2 (newList []) false (eval iter X.env) use) Qr X.xe s:=by
 have B:=afx hb;refine wpAny_comprehension_free (cl:=iI X.env.cells scope.names []) (use:=use) rfl hs (T3 λ x hx e=>?_) B.kind B.loc ?_
 ·obtain⟨n,k⟩:=x;have e:k= .free:=e;subst e;exact I.ok.has n (B.out n (tV hx))
 refine thn (hi pins s σ H (λ J H1=>∃xs,YR X.K O H1 J xs/\In X O H1 ρ σ/\Same H H1/\good X (RV X H Ac) O ((j5 (pI gt ft fe (qu ts.length caps ρ)) xs).bind (cap .lst)) σ H1 Q) I (Pu.go j h λ xs J H1 e1 s1 y1 j1 h1=>⟨xs,y1,j1,s1,h1⟩)) λ xv s1 h1=>thn h1 λ itv s2 h2=>?_;obtain⟨it,fp,tn,J,H2,e,I2,T,st2,f2,xs,yr,j2,smH,g2⟩:=h2;subst e;rw[<-T5 hcap] at g2
 generalize eρ:pull X.N (dF scope) ts.length (ρ.map xM)=ρ0 at g2
 obtain⟨all,hall,hlen,g3⟩:∃all,j5 (pI gt ft fe ρ0) xs= .ok all/\all.length<=1000000/\good X (RV X H Ac) O (.ok (.lst all)) σ H2 Q:=by
  cases e:j5 (pI gt ft fe ρ0) xs with
  |bad=>rw[e] at g2;exact g2.elim
  |err c=>exact absurd e Ew
  | ok all=>
   rw[e] at g2;have g2:good X (RV X H Ac) O (if all.length<=1000000 then .ok (.lst all) else .bad) σ H2 Q:=g2;by_cases hl:all.length<=1000000
   ·rw[if_pos hl] at g2;exact⟨all,rfl,hl,g2⟩
   ·rw[if_neg hl] at g2;exact g2.elim
 have hlt:∀b∈fp,b < s2.heap.objs.size:=λ b hb=>by
  obtain⟨o,e,_⟩:=T.obj 0 _ st2 b hb;exact z2c e
 refine wpAny_newObj_type (Wm ?_)
 generalize hC:(s2.heap.push {cls:= .type "list",dict:=none,data:= .seq ([]:List Value).toArray}).objs.size=C
 have hC':C=s2.heap.objs.size+1:=by rw[<-hC];exact Heap.size_push ..
 generalize e4:pushCells ((s2.heap.push {cls:= .type "list",dict:=none,data:= .seq ([]:List Value).toArray}).push {cls:= .type "dict",data:= .dict #[]}) scope.names=h4
 show codeAny (model X.prog X.w) X.A (.compStart (.ListComp elt [⟨tg,iter,ifs,0⟩] scope pos) 0 (.ref it) (.ref s2.heap.objs.size) (gO scope X.env C)) (compPost (model X.prog X.w) X.A X.xe use Qr (.ref s2.heap.objs.size) C) {s2 with heap:=h4};have RW:H2 s2.heap.objs.size=none:=I2.hok.fresh (z0g _);have hOn:¬O s2.heap.objs.size:=j2.qR RW;have hDk:X.K.lookup s2.heap.objs.size=none:=by
  cases q:X.K.lookup s2.heap.objs.size with
  |none=>rfl
  |some o=>exact absurd (z2c (I2.kIn _ _ q)) (Nat.lt_irrefl _)
 have I4:=abp (ts:=ts) I2 B f2 hlt hC' e4.symm;have sD:Same H2 (upd H2 s2.heap.objs.size (.lst [])):=Same.upd RW;have lρ0:ρ0.length=(ts++dF scope).length:=by rw[<-eρ,xK,z1d]
 generalize eD:s2.heap.objs.size=Dd at *
 have adH:∀{H':Hp},Same H2 H'->eF X.K O H2 (λ a=>O a\/a=Dd) H':=λ sm=>⟨(Same.dJ (K:=X.K) (O:=O) sm).ext,λ a z=>z.elim .inl λ e=> .inr (by rw[e];exact⟨RW,hDk⟩),(Same.dJ (K:=X.K) (O:=O) sm).dom⟩;have alO:∀{H':Hp} {ys:List V},Same H2 H'->H' Dd=some (.lst ys)->∀a,(O a\/a=Dd)->∃o,H' a=some o:=λ sm e a z=>z.elim (λ q=>let ⟨o,h⟩:=j2.al a q;⟨o,sm _ _ h⟩) λ q=>by rw[q];exact⟨_,e⟩
 have j4:In (bY X scope ts C s2 H2 fp) (λ a=>O a\/a=Dd) (upd H2 Dd (.lst [])) ρ0 (pull X.N (dF scope) ts.length σ):=by
  rw[<-eρ];exact In.go (ado B j2.vals) JN (adH sD) (alO sD upd_same)
 have hv0:∀(i:Nat) e,ρ0[i]?=some (some e)->e.Rv=true:=by rw[<-eρ];exact JN
 have hn0:∀i,i < ts.length->ρ0[i]?=some none:=by rw[<-eρ];exact λ i h=>Wo h
 have afD:∀b o,s2.heap.get? b=some o->h4.get? b=some o:=λ b o e=>by
  rw[<-e4];exact pushCells_keeps _ _ b o (z1a _ (z1a _ e))
 have st4:tn 0 h4:=T.keep _ _ _ st2 λ b _ o e=>afD b o e;have stat:∀{H':Hp},(∀b∈fp,H' b=none)->∀b∈fp,FpOk (bY X scope ts C s2 H2 fp) [] H' b:=λ {H'} hn b hb=>by
  have hl: @LT.lt Nat _ b Dd:=hlt b hb;obtain⟨_,a1,a2,a3,a4,_⟩:=f2 b hb;refine⟨hn b hb,by show @Ne Nat b C;omega,λ z=>?_,.inl hb,λ x c h=>?_,λ p hp=>absurd (show p∈([]:List (Addr×Obj)) from hp) (by simp)⟩
  ·rcases List.mem_cons.mp (I2.stkSub b z) with z |z
   ·exact a1 z
   ·exact a2 z
  ·rcases kO B I2.ok.has h with⟨_,q⟩ |⟨_,q⟩
   ·show @Ne Nat c b;omega
   ·exact a4 x c q
 have fr4:∀b∈fp,(upd H2 Dd (.lst [])) b=none:=λ b hb=>by
  have hl: @LT.lt Nat _ b Dd:=hlt b hb;rw[upd_ne (show @Ne Nat b Dd by omega)];exact (f2 b hb).1
 have loop : ∀ s0:Shared,s0={s2 with heap:=h4}->codeAny (model X.prog X.w) X.A (.compLoop (.ListComp elt [⟨tg,iter,ifs,0⟩] scope pos) 0 (.ref it) (.ref Dd) (gO scope X.env C)) (compPost (model X.prog X.w) X.A X.xe use Qr (.ref Dd) C) s0:=by
  intro s0 e0;refine codeAny_loop rfl (λ n s'=>ZF (bY X scope ts C s2 H2 fp) Ac O (λ a=>O a\/a=Dd) H2 Dd fp tn ρ0 xs (pI gt ft fe ρ0) all n s') (λ n s' hI=>?_) (xs.length+1)
   ⟨0,_,_,[],[],all,rfl,Nat.zero_le _,e0▸I4,e0▸st4,fr4,j4,sD,upd_same,AC.nil,by simpa using hall,rfl⟩
  obtain⟨i,σ',H',ys,ds,rest,rfl,hil,I',st',fr',j',sm',hD',rp',hm',hr'⟩:=hI;show wpAny (model X.prog X.w) X.A ((compTurn (.ListComp elt [⟨tg,iter,ifs,0⟩] scope pos) 0 (.ref it) (.ref Dd) (gO scope X.env C)).onRaise (λ x=>do noteFrame x (gO scope X.env C);theTreesLotGoes x)) _ _ s';refine wpAny_noted ?_;rw[compTurn_list];have Wq:=yr _ H' (adH sm') i;refine wpAny_bind (wpAny_standAt (wpAny_bind ?_));by_cases hlt':i < xs.length
  ·-- a turn
   have ex:xs[i]?=some xs[i]:=by simp[hlt']
   have ed:xs.drop i=xs[i]::xs.drop (i+1):=List.drop_eq_getElem_cons hlt';rw[ed] at hm';obtain⟨o,rest',k1,k2,k3⟩:=Wn hm';obtain⟨jgo,jy⟩:=Wq.1 _ ex;refine wpAny_mono (T.item (bY X scope ts C s2 H2 fp) rfl rfl rfl hc i [] s' σ' H' (λ _ _=>False) I' (stat fr') st' jgo) (λ r s4 ⟨u,hr,h4'⟩=>?_) λ _ _ z=>z.elim;subst hr;refine wpAny_bind (wpAny_mono h4' (λ _ s5 ⟨x,H5,I5,r5,y5,st5,fr5⟩=>?_) λ _ _ z=>z.elim);obtain⟨Fy,agy⟩:=jy x H5 y5;have I5':=I5.pinned (stat fr5) (T.obj _ _ st5);have k1:(gt xs[i] ρ0).bind (λ ρ1=>(ft ρ1).bind λ b=>if b=true then (fe ρ1).bind λ d=> .ok (some d) else .ok none)= .ok o:=k1;cases q1:gt xs[i] ρ0 with
   |bad=>rw[q1] at k1;cases k1
   |err c=>rw[q1] at k1;cases k1
   | ok ρ1 =>
    rw[q1] at k1;have k1:(ft ρ1).bind (λ b=>if b=true then (fe ρ1).bind λ d=> .ok (some d) else .ok none)= .ok o:=k1;refine wpAny_bind (wpAny_mono (hg C s2 H2 fp B.nd _ s5 σ' H5 x u (λ σ6 H6=>H6=H5/\In (bY X scope ts C s2 H2 fp) (λ a=>O a\/a=Dd) H5 ρ1 σ6) I5' r5 ⟨ρ0,_,xs[i],ρ1,j'.same Fy,agy,q1,λ σ6 j6=>⟨rfl,j6⟩⟩) (λ _ s6 ⟨σ6,H6,I6,eH,j6⟩=>?_) λ _ _ z=>(show False from z).elim);subst eH;cases q2:ft ρ1 with
    |bad=>rw[q2] at k1;cases k1
    |err c=>rw[q2] at k1;cases k1
    | ok bb =>
     rw[q2] at k1;have k1:(if bb=true then (fe ρ1).bind λ d=>R.ok (some d) else .ok none)= .ok o:=k1;have gtest:tG (bY X scope ts C s2 H2 fp) rB ft σ6 H6 (λ b H7=>b=bb/\Same H6 H7):=⟨ρ1,_,j6,by rw[q2];exact λ b H7 s7 e7=>⟨e7.symm,s7⟩⟩;refine wpAny_bind (wpAny_mono (ht C s2 H2 fp _ s6 σ6 H6 _ I6 gtest) (λ ok s7 ⟨H7,I7,ok7,zF⟩=>?_) λ _ _ z=>(show False from z).elim);subst ok7;have back:∀{H8:Hp} {s8:Shared} {ys':List V} {ds':List D},Inv (bY X scope ts C s2 H2 fp) ([]++pinsAt fp s5.heap) σ6 H8 s8->Same H2 H8->In (bY X scope ts C s2 H2 fp) (λ a=>O a\/a=Dd) H8 ρ0 σ6->H8 Dd=some (.lst ys')->Ac H2 Dd O H8 ds' ys'->ds'++rest'=all->
       ∃m,m < xs.length+1 - i/\ZF (bY X scope ts C s2 H2 fp) Ac O (λ a=>O a\/a=Dd) H2 Dd fp tn ρ0 xs (pI gt ft fe ρ0) all m s8:=by
      intro H8 s8 ys' ds' I8 RX j8 hD8 rp8 hr8;refine⟨xs.length+1 - (i+1),by omega,i+1,σ6,H8,ys',ds',rest',rfl,by omega,I8.unpinned,T.keep _ _ _ st5 λ b hb o e=>(I8.pin (b,o) (List.mem_append_right _ (List.mem_append_right _ (mem_pinsAt hb e)))).1,λ b hb=>?_,j8,RX,hD8,rp8,k2,hr8⟩;obtain⟨o,e,d⟩:=T.obj _ _ st5 b hb;exact (I8.pin (b,o) (List.mem_append_right _ (List.mem_append_right _ (mem_pinsAt hb e)))).2.1
     have j60:In (bY X scope ts C s2 H2 fp) (λ a=>O a\/a=Dd) H6 ρ0 σ6:=In.back (n:=ts.length) j6 hn0 (λ k hk'=>hk _ _ _ q1 k hk') lρ0;cases ok with
     | false=>
      have k1:R.ok none=R.ok o:=k1;cases k1;refine wpAny_pure ⟨rfl,?_⟩;refine back I7 (sm'.trans (Fy.trans zF)) (j60.same zF) (zF _ _ (Fy _ _ hD')) (AC.same rp' hD' (Fy.trans zF)) ?_;rw[<-hr',k3];rfl
     | true =>
      have k1:(fe ρ1).bind (λ d=>R.ok (some d))= .ok o:=k1;cases q3:fe ρ1 with
      |bad=>rw[q3] at k1;cases k1
      |err c=>rw[q3] at k1;cases k1
      | ok d =>
       rw[q3] at k1;have k1:R.ok (some d)=R.ok o:=k1;cases k1;have agz:tGr (bY X scope ts C s2 H2 fp) Re fe σ6 H7 (λ v H8=>Same H7 H8/\Re H7 (λ a=>O a\/a=Dd) H8 d v):=⟨ρ1,_,j6.same zF,by rw[q3];exact λ v H8 s8 r8=>⟨s8,r8⟩⟩;refine wpAny_bind (wpAny_bind (wpAny_mono (he C s2 H2 fp _ s7 σ6 H7 _ I7 agz) (λ xv s8 ⟨v8,H8,I8,r8,RX,agA⟩=>?_) λ _ _ z=>(show False from z).elim));have hD8:H8 Dd=some (.lst ys):=RX _ _ (zF _ _ (Fy _ _ hD'));have rp7:Ac H2 Dd O H7 ds ys:=AC.same rp' hD' (Fy.trans zF);have hD7:H7 Dd=some (.lst ys):=zF _ _ (Fy _ _ hD');have hds:ds++d::rest'=all:=by rw[<-hr',k3];rfl
       have hyl:ys.length < sizeLine:=by
        have:=gW;have e1:=AC.len rp7;have e2:=congrArg List.length hds;rw[z1d,List.length_cons] at e2;omega
       refine wpAny_bind (wpAny_mono (mt_append (X:=bY X scope ts C s2 H2 fp) _ s8 σ6 H8 (.ref Dd) [v8] (.ref Dd) [xv] (λ _ H9=>H9=upd H8 Dd (.lst (ys++[v8]))) I8 rfl (.cons r8 .nil) ⟨_,ys,v8,rfl,rfl,hD8,hyl,rfl⟩) (λ _ s9 ⟨_,H9,I9,_,eH9⟩=>?_) λ _ _ z=>(show False from z).elim);subst eH9;have agB:Same H2 H8:=sm'.trans (Fy.trans (zF.trans RX));have adJ:eF X.K (λ a=>O a\/a=Dd) H8 (λ a=>O a\/a=Dd) (upd H8 Dd (.lst (ys++[v8]))):=by
        refine⟨⟨λ b zs h=>?_,λ b zs n h=>?_⟩,λ a z=> .inl z,λ a z=>?_⟩
        ·have nb:b≠Dd:=λ e=>by
          rw[e] at h;rcases h with h |⟨o,h⟩ <;> rw[hD8] at h <;> cases h
         rcases h with h |⟨o,h⟩
         ·exact .inl (by rw[upd_ne nb];exact h)
         ·exact .inr ⟨o,by rw[upd_ne nb];exact h⟩
        ·have nb:b≠Dd:=λ e=>n (.inr e);rcases h with h |⟨o,h⟩
         ·exact .inl (by rw[upd_ne nb];exact h)
         ·exact .inr ⟨o,by rw[upd_ne nb];exact h⟩
        ·by_cases ea:a=Dd
         ·rw[ea,upd_same] at z;cases z
         ·rw[upd_ne ea] at z;exact z
       have sm9:Same H2 (upd H8 Dd (.lst (ys++[v8]))):=λ b o e=>by
        rw[upd_ne (ne_of_none e RW)];exact agB _ _ e
       refine wpAny_pure (wpAny_pure ⟨rfl,?_⟩);refine back I9 sm9 (In.go (j60.same (zF.trans RX)) hv0 adJ (alO sm9 upd_same)) upd_same (AC.app rp7 RW hD7 (sm'.trans (Fy.trans zF)) RX agA adJ) ?_;rw[List.append_assoc];exact hds
  ·-- the end
   have ei:i=xs.length:=by omega
   subst ei;have hrest:rest=[]:=by
    have hm':j5 (pI gt ft fe ρ0) (xs.drop xs.length)= .ok rest:=hm';rw[List.drop_length] at hm';cases hm';rfl
   subst hrest;rw[List.append_nil] at hr';subst hr';refine wpAny_mono (T.done (bY X scope ts C s2 H2 fp) rfl rfl rfl hc _ [] s' σ' H' (λ _ _=>False) I' (stat fr') st' (Wq.2 (z0g _))) (λ r s5 ⟨hr,I5⟩=>?_) λ _ _ z=>z.elim;subst hr;refine wpAny_pure ?_;obtain⟨m,hns,_⟩:=I5.loc;have hCn:H' C=none:=I5.free;have I6:Inv X pins σ H' s5:=by
    refine I2.call' (s':=s5) (ch:=fp) I5.os ⟨λ b o e n hb hx=>I5.base.keep b o e n hb hx,λ b o e n hb hx=>I5.base.slot b o e n hb hx,I5.base.free,λ b o e hx=>I5.base.there b o e hx,I5.base.tups,I5.base.frzs,I5.base.tbls⟩ (λ b u e=>I5.hok b u e) I5.bare λ b hb=>⟨(f2 b hb).2.2.2.1,(f2 b hb).2.1,(f2 b hb).2.2.2.2.1,(f2 b hb).2.2.2.2.2⟩
   exact hQ (.ref Dd) H' s5 C m _ (.ref Dd) (g3 _ _ sm' ⟨H2,Dd,_,_,rfl,rfl,smH,RW,hDk,sm',hD',rp'⟩) I6 hns (I2.fpOk (show @LE.le Nat _ _ C by omega) hCn) rfl
 exact codeAny_compStart_list (loop _ rfl) (T.self _ 0 _ _ _ st4 (loop _ rfl))
def reP (K:PySem.W.Frag):Hp->(Addr->Prop)->Hp->D->V->Prop:=λ _ O H d v=>Rep K O H d v
def acP (K:PySem.W.Frag):Hp->Addr->(Addr->Prop)->Hp->List D->List V->Prop:=λ _ a O H ds ys=>aN K (λ b=>O b\/b=a) H ds ys
theorem DE.toP {e:Expr} {f:ao->R D} (h:DE X e f):W0 X (reP X.K) e f:=PE.imp h λ σ H Q q=>by
 obtain⟨ρ,O,j,q⟩:=q;exact⟨ρ,O,j,q⟩
theorem Ms:AcR K (reP K) (acP K) where
 nil:=aN.nil
 same:=λ h _ s=>aN.same s h
 len:=λ h=>aN.length h
 app:=λ h _ _ _ s r rc=>((aN.same s h).append (.cons r .nil)).go rc
theorem good.rel {β:Type} {Rl Rm:(Addr->Prop)->Hp->α->β->Prop} {O:Addr->Prop} {r:R α} {Q:β->Hp->Prop} (w:∀a b H',Same H H'->Rm O H' a b->Rl O H' a b) (h:good X Rl O r σ H Q):good X Rm O r σ H Q:=by
 cases r with
 |ok a=>exact λ b H' s q=>h b H' s (w a b H' s q)
 |err c=>exact h
 |bad=>exact h
theorem Mt {pos2:Pos} (ts:List Str) (caps:List Nat)
  (hc:X.calm=true) (hb:vm X.env.scope scope ts X.N=true) (hcap:(dF scope).map (λ x=>jZ x X.N)=caps)
  (hi:DI X tg iter fi) (hk:kW ts.length gt) (hg:∀C s H ex,(bY X scope ts C s H ex).N.Nodup->DG (bY X scope ts C s H ex) tg gt) (ht:∀C s H ex,Ck (bY X scope ts C s H ex) ifs ft) (he:∀C s H ex,DE (bY X scope ts C s H ex) elt fe)
  (hs:∀x,foldedSetIterable iter X.env x=pure x) {use:Option (Value->Sem Unit)} {Qr:Value->Shared->Prop} {pins:List (Addr×Obj)} {s:Shared} {O:Addr->Prop} {Q:VK} (I:Inv X pins σ H s) (j:In X O H ρ σ)
  (hQ:∀(v:V) (H':Hp) (s5:Shared) (C:Addr) (m:Str->Option Value) (f:Flow) (acc:Value),Q v H'->Inv X pins σ H' s5->s5.heap.Ns C m->FpOk X pins H' C->RelV v acc->compPost (model X.prog X.w) X.A X.xe use Qr acc C (.ok f) s5)
  (h:good X (rD X) O (bA ts.length caps fi gt ft fe ρ) σ H Q):
  wpAny (model X.prog X.w) X.A (comprehension (.ListComp elt [⟨tg,iter,ifs,0⟩] scope pos) scope X.env pos2 (newList []) false (eval iter X.env) use) Qr X.xe s:=by
 refine zE Ms ts caps hc hb hcap hi hk hg ht (λ C s H ex=>(he C s H ex).toP) hs I j hQ (good.rel (λ d v H' sm q=>?_) h);obtain⟨Hs,a,ys,ds,rfl,rfl,s1,n1,k1,s2,e3,r⟩:=q;refine gG (SqL.of e3) (λ z=>?_) (r.fewer λ a z=> .inl z);obtain⟨u,e⟩:=j.al a z;rw[s1 _ _ e] at n1;cases n1
theorem bW (ts:List Str) (caps:List Nat)
  (hc:X.calm=true) (hb:vm X.env.scope scope ts X.N=true) (hcap:(dF scope).map (λ x=>jZ x X.N)=caps)
  (hi:DI X tg iter fi) (hk:kW ts.length gt) (hg:∀C s H ex,(bY X scope ts C s H ex).N.Nodup->DG (bY X scope ts C s H ex) tg gt) (ht:∀C s H ex,Ck (bY X scope ts C s H ex) ifs ft) (he:∀C s H ex,DE (bY X scope ts C s H ex) elt fe)
  (hs:∀x,foldedSetIterable iter X.env x=pure x:=by intro _;rfl):
  DE X (.ListComp elt [⟨tg,iter,ifs,0⟩] scope pos) (bA ts.length caps fi gt ft fe):=by
 intro pins s σ H Q I h;obtain⟨ρ,O,j,h⟩:=h;rw[eval_ListComp];exact Mt ts caps hc hb hcap hi hk hg ht he hs (use:=none) (Qr:=EP X pins σ Q) I j (λ v H' s5 C m f acc hv I6 hns fp rv=>⟨m,hns,λ h' sb=>⟨v,H',I6.fp fp sb,rv,hv⟩⟩) h
theorem RZ (i:Nat) {x:Str} {cpos:Pos} (hN:X.N.Nodup) (ts:List Str) (caps:List Nat)
  (hc:X.calm=true) (hb:vm X.env.scope scope ts X.N=true) (hcap:(dF scope).map (λ x=>jZ x X.N)=caps)
  (hi:DI X tg iter fi) (hk:kW ts.length gt) (hg:∀C s H ex,(bY X scope ts C s H ex).N.Nodup->DG (bY X scope ts C s H ex) tg gt) (ht:∀C s H ex,Ck (bY X scope ts C s H ex) ifs ft) (he:∀C s H ex,DE (bY X scope ts C s H ex) elt fe)
  (hix:X.N[i]?=some x:=by rfl) (hx:Loc X.env.scope x:=by first |exact Or.inl rfl |exact Or.inr rfl) (hf:X.fn x=true\/X.env.scope.names.lookup x=some .local:=by first |exact .inl rfl |exact .inr rfl)
  (hsw:swapsWith (.ListComp elt [⟨tg,iter,ifs,0⟩] scope cpos) (some (.Name x pos')) pos.line X.env=pure true:=by rfl)
  (hs:∀x,foldedSetIterable iter X.env x=pure x:=by intro _;rfl):
  DS X (.Assign [.Name x pos'] (.ListComp elt [⟨tg,iter,ifs,0⟩] scope cpos) pos) (bB (bA ts.length caps fi gt ft fe) (aF i)):=by
 intro pins s σ H E I h;obtain⟨H0,O0,O,ρ,j,h⟩:=h;rw[exec_Assign_Name_used _ _ _ _ hsw];refine wpAny_bind (wpAny_standAt (wpAny_bind ?_));show wpAny _ _ (comprehension (.ListComp elt [⟨tg,iter,ifs,0⟩] scope cpos) scope X.env _ (newList []) false (eval iter X.env) (some (assign (.Name x pos') X.env)) >>=λ _=>pure ()) _ _ _;unfold bB fj at h;refine wpAny_bind (Mt (Q:=λ v H'=>∃d,bA ts.length caps fi gt ft fe ρ= .ok d/\Same H H'/\Rep X.K O H' d v) (Qr:=λ _ s'=>wpAny (model X.prog X.w) X.A (pure ()) (λ _ s1=>wpAny (model X.prog X.w) X.A (pure Flow.next) (SP X pins E) X.xe s1) X.xe s') ts caps hc hb hcap hi hk hg ht he hs I j.inn ?_ ?_)
 ·intro v H' s5 C m f acc hq I5 hns fC rel;obtain⟨d,ed,sm,rd⟩:=hq;rw[ed] at h;have h:rN X H0 O0 O H E (.nx (ρ.set i (some (.val d)))):=h;obtain⟨o,es,ep,ho,hd,hr⟩:=hns;have Ip:=I5.pinned (fp:=[C]) (λ b hb=>by rw[List.mem_singleton.mp hb];exact fC) (λ b hb=>by rw[List.mem_singleton.mp hb];exact⟨o,ho,λ v z=>by rw[hd] at z;cases z⟩);show wpAny (model X.prog X.w) X.A (assign (.Name x pos') X.env acc) _ X.xe s5;refine wpAny_mono (pg_name hN hix hx hf _ s5 σ H' v acc (λ σ' wz=>σ'=σ.set i (some v)/\wz=H') Ip rel ⟨rfl,rfl⟩) (λ _ s6 ⟨σ',wz,I',e1,e2⟩=>?_) λ _ _ z=>z;subst e1 e2;have pn:=(I'.pin (C,o) (List.mem_append_right _ (List.mem_append_right _ (mem_pinsAt (List.mem_singleton.mpr rfl) ho)))).1;refine⟨m,⟨o,es,ep,pn,hd,hr⟩,λ h' sb=>wpAny_pure (wpAny_pure ⟨_,wz,(I'.unpinned).fp fC sb,h _ wz O ((j.grow sm).set (z1b hix).1 rd) (Same.dJ sm)⟩)⟩
 ·cases e1:bA ts.length caps fi gt ft fe ρ with
  |bad=>rw[e1] at h;exact h
  |err c=>rw[e1] at h;exact h σ H O j
  |ok d=>exact λ v H' sm r=>⟨d,rfl,sm,r⟩
end
def ag4:List D->R (List D)
 |[.lst ds]=> .ok ds.reverse
 |_=> .bad
def mulL:D->D->R D
 | .lst ds,.int k=>if ds≠[]/\1<=k/\k < 2 ^ 63/\ds.length*k.toNat<=1000000 then .ok (.lst (List.replicate k.toNat ds).flatten) else .bad
 |x,y=>qW x y
section
variable {ρ ρ1:ao} {fa:ao->R (List D)} {F:List D->R D} {ds:List D} {n:Nat} {d:D} {c:Str} {f:ao->R D} {gt:D->ao->R ao} {p:ao->R Bool} {s t:ao->So} {o:So}
end
section
variable {M:Model} {A:Around} {E:Value->Shared->Prop} {s:Shared}
end
section
variable {P:Program} {w:World} {fs fs':List Addr} {H H' H0:Hp} {s s' s0:Shared} {a C:Addr} {T:Option Addr} {h':Heap} {t':Addr}
end
section
variable {P:Program} {w:World} {K:PySem.W.Frag} {mg:Str->Option Value} {base:Heap}
end
section
variable {X:Cx} {k n m:Nat} {F:List D->R D} {x:Str} {p pos:Pos} {e:Expr} {es:List Expr} {fa:ao->R (List D)}
end
section
variable {X:Cx} {c:Str} {C:Addr} {np cpos pos:Pos} {e:Expr} {fa:ao->R (List D)}
end
section
variable {X:Cx} {pins:List (Addr×Obj)} {σ:St} {H:Hp} {s:Shared}
end
section
variable {X:Cx} {pins:List (Addr×Obj)} {σ:St} {H:Hp} {s:Shared} {E:Value->Shared->Prop}
end
section
variable {X:Cx} {t n:Str} {CT:Addr} {np hpos pos:Pos} {body suite:List Stmt} {b₀:Stmt} {g h:ao->So} {sub:Str->Str->Bool}
end
section
variable {prog:Program} {w:World} {A:Around} {E:Value->Shared->Prop} {s:Shared} {K:PySem.W.Frag} {x C:Addr} {ox:Obj} {od:Option Obj}
end
section
variable {X:Cx} {sub:Str->Str->Bool}
end
section
variable {X:Cx} {tg a:Expr} {p pos:Pos} {fa:ao->R (List D)}
end
section
variable {X:Cx}
theorem abJ:OpR X (binaryOp .Mult) (λ x y H Q=>∃a k xs,x= .ref a/\y= .int k/\SqL X.K H a xs/\1<=k/\k < 2 ^ 63/\xs.length*k.toNat<=1000000/\∀p,H p=none->Q (.ref p) (upd H p (.lst (List.replicate k.toNat xs).flatten))):=by
 intro pins s σ H x y v u Q I rx ry h;obtain⟨a,k,xs,rfl,rfl,hq,h1,h2,hz,q⟩:=h;cases rx;obtain⟨t,rfl⟩:=ry;obtain⟨its,r,p1,_⟩:=I.list hq;obtain⟨⟨cls,dd,data,sl⟩,ho,hc,n,hd⟩:=id p1.isList;simp only at hc hd;subst hc hd;have hlen:=r.length;have hz':its.toArray.size*k.toNat<=1000000:=by rw[z1c,<-hlen];exact hz
 have hz2:its.length*k.toNat<=1000000:=by rw[<-hlen];exact hz
 refine wpAny_binaryOp_repeat_ref (T:= "list") (U:= "int") (by decide) ⟨_,ho,rfl⟩ (λ s'=>typeIs_int s' k t) noFill_list_mul F.fills_int_mul F.slot_int_rmul repeat_list F.slot_int_index.lookup
  (call_meets F.slot_int_rmul (typeIs_int s k t) F.entry_int_rmul (F.args_int_rmul_2 _ _) (lm_int_rmul_list_any k t a its.toArray n dd sl) ⟨ho,rfl,⟨_,ho,rfl⟩,?_⟩)
 refine call_meets F.slot_list_mul ⟨_,ho,rfl⟩ F.entry_list_mul (F.args_list_mul_2 _ _) (lm_list_mul_any a its.toArray n dd sl k t (by simp[Builtin.List.listFitsIndex];omega) (by omega) (by simp[Builtin.List.listTooLong,sizeLine];omega)) ⟨ho,?_⟩;rw[listMul_foldl_if];refine⟨.ref s.heap.objs.size,_,I.laid (t':=s.toks) (o:= .lst (List.replicate k.toNat xs).flatten) (λ b ob z=>z1a _ z) (z0g _) ?_,rfl,q _ (I.hok.fresh (z0g _))⟩;exact⟨by rw[len_rep,Nat.mul_comm];exact z0b hz dO,_,_,r.rep k.toNat,z1f _ rfl⟩
theorem abK:jt X (binaryOp .Mult) mulL:=by
 obtain⟨r0,o0,c0⟩:=nF (X:=X);refine⟨_,OpR.or o0 abJ,λ ρ O σ H Q x y dx dy j0 rx ry h=>?_⟩;cases dx with
 | lst ds=>
  cases dy with
  | int k=>
   have h:good X (rD X) O (if ds≠[]/\1<=k/\k < 2 ^ 63/\ds.length*k.toNat<=1000000 then .ok (.lst (List.replicate k.toNat ds).flatten) else .bad) σ H Q:=h;by_cases hc:ds≠[]/\1<=k/\k < 2 ^ 63/\ds.length*k.toNat<=1000000
   ·rw[if_pos hc] at h;obtain⟨a,us,rfl,ha,hn,r1⟩:=rx.lst;obtain⟨h0,h1,h2,h3⟩:=hc;exact .inr ⟨a,k,us,rfl,ry.int,ha,h1,h2,by rw[<-r1.length];exact h3,λ l hl=>h _ _ (Same.upd hl) (Rep.nD hl (j0.qR hl) (xR r1 _))⟩
   ·rw[if_neg hc] at h;exact h.elim
  |_=>exact h.elim
 |_=>exact .inl (c0 ρ O σ H Q x y _ _ j0 rx ry h)
end
def Tb (ts:List (Addr×Str)) (H:Hp):Prop:=∀p∈ts,∃(ps:Array Value) (tq:Tok),H p.1=some (.tbl ps)/\ps[0]?=some (.str p.2 tq)
theorem Tb.un {fs ex:List Addr} {H':Hp} (t:Tb ts H) (u:Un fs ex H H' h h'):Tb ts H':=λ p hp=>by
 obtain⟨ps,tq,e,q⟩:=t p hp;obtain⟨more,e'⟩:=u.tbls _ _ e;refine⟨_,tq,e',?_⟩;obtain⟨hl,_⟩:=Array.getElem?_eq_some_iff.mp q;rw[Array.getElem?_append_left hl];exact q
theorem Tb.same {H':Hp} (t:Tb ts H) (s:Same H H'):Tb ts H':=λ p hp=>let ⟨ps,tq,e,q⟩:=t p hp;⟨ps,tq,s _ _ e,q⟩
theorem Fz {α β:Type} {F:α->β->Prop}:∀{es:List α} {vs:List β} {i:Nat} {e:α},Paired F es vs->es[i]?=some e->∃v,vs[i]?=some v/\F e v
 |_,_,_,_,.nil,h=>by simp at h
 |_,_,0,_,.cons r _,h=>by simp at h;subst h;exact⟨_,rfl,r⟩
 | _,_,i+1,e,.cons _ t,h=>by
  obtain⟨v,h1,h2⟩:=Fz (i:=i) (e:=e) t (by simpa using h);exact⟨v,by simpa using h1,h2⟩
theorem Ug {β:Type} {F:α->β->Prop}:∀{es:List α} {vs:List β},Paired F es vs->es.length=vs.length
 :=by
 intro es vs h
 induction h with
 |nil=>rfl
 |cons r t ih=>rw[List.length_cons,List.length_cons,ih]
theorem FJ {β:Type} {F:α->β->Prop}:∀{es fs:List α} {vs ws:List β},Paired F es vs->Paired F fs ws->Paired F (es++fs) (vs++ws)
 :=by
 intro es fs vs ws h q
 induction h with
 |nil=>exact q
 |cons r t ih=>exact .cons r ih
abbrev adK (K:PySem.W.Frag) (O:Addr->Prop) (H:Hp):Ent->V->Prop:=λ e v=>qQ K O H e v/\e.own=false
theorem u5 {K:PySem.W.Frag} {O:Addr->Prop} {H:Hp}:∀{ds:List D} {vs:List V},aN K O H ds vs->Paired (adK K O H) (ds.map .val) vs
 |[],vs,r=>by rw[r.nil_inv];exact .nil
 | d::ds,vs,r=>by
  obtain⟨x,t,rfl,h1,h2⟩:=r.cons_inv;exact .cons ⟨h1,rfl⟩ (u5 h2)
theorem DP {X:Cx} {O:Addr->Prop} {es:List Ent} {m:Nat} (hl:X.N.length=es.length+m) (r:Paired (adK X.K O H) es vs) (al:∀a,O a->∃o,H a=some o):
  At X H O O H (es.map some++List.replicate m none) (vs.map some++List.replicate m none):=by
 have hlen:=Ug r;have get:∀(i:Nat) e,(es.map some++List.replicate m none)[i]?=some (some e)->∃v,(vs.map some++List.replicate m none)[i]?=some (some v)/\qQ X.K O H e v/\e.own=false:=λ i e q=>by
  by_cases hi:i < es.length
  ·rw[List.getElem?_append_left (by simpa using hi),z2b] at q;cases z:es[i]? with
   |none=>rw[z] at q;cases q
   | some e'=>
    rw[z] at q;cases q;obtain⟨v,h1,h2,h3⟩:=Fz r z;exact⟨v,by rw[List.getElem?_append_left (by rw[z1g,<-hlen];exact hi),z2b,h1];rfl,h2,h3⟩
  ·rw[List.getElem?_append_right (by simpa using hi),List.getElem?_replicate] at q;split at q <;> cases q
 refine⟨Same.refl _,.refl,λ _ z=>z,⟨⟨λ i e q=>?_,λ i k e e' v _ hi _ oi=>?_⟩,al,?_,?_⟩,λ i e a q ho=>?_⟩
 ·obtain⟨v,h1,h2,_⟩:=get i e q;exact⟨v,h1,h2⟩
 ·obtain⟨_,_,_,h3⟩:=get i e hi;rw[h3] at oi;cases oi
 ·rw[z1d,z1g,List.length_replicate,<-hlen];exact hl.symm
 ·rw[z1d,z1g,List.length_replicate];exact hl.symm
 ·obtain⟨_,_,_,h3⟩:=get i e q;rw[h3] at ho;cases ho
theorem DQ {m:Nat} (h:N.length=vs.length+m):L2.start N vs=vs.map some++List.replicate m none:=by
 unfold L2.start;rw[show N.length - vs.length=m by omega]
def spT (ts:List (Addr×Str)) (K:PySem.W.Frag) (n:Nat) (F:List D->R D):Sp:=λ vs H Q E=>Tb ts H/\Fb K n F vs H Q E
section
variable {P:Program} {w:World} {K:PySem.W.Frag} {mg:Str->Option Value} {base:Heap}
def jJ (m:Nat) (g:ao->So) (es:List Ent):R D:=match g (es.map some++List.replicate m none) with
 | .rt d=> .ok d
 | .nx _=> .ok .non
 |_=> .bad
theorem R0 {X:Cx} {O:Addr->Prop} {m:Nat} {g:ao->So} {es:List Ent} {Q:VK} (h:match jJ m g es with | .ok d=>∀v H',Same H H'->Rep X.K O H' d v->Q v H' |_=>False):
  rN X H O O H {nx:=λ _ H'=>Q .non H',rt:=Q} (g (es.map some++List.replicate m none)):=by
 unfold jJ at h;cases e2:g (es.map some++List.replicate m none) with
 |rt d=>rw[e2] at h;exact λ v H' s' r'=>h v H' s' r'
 |nx ρ'=>rw[e2] at h;exact λ σ' H' O' j' _=>h .non H' j'.same sI
 |bk _=>rw[e2] at h;exact h.elim
 |ct _=>rw[e2] at h;exact h.elim
 |ex _ _=>rw[e2] at h;exact h.elim
 |bad=>rw[e2] at h;exact h.elim
theorem W2 {x:Str} {m:Nat} {g:ao->So} (Fn:Fun K x qual st f fd) (S:FnScope N ps (defScope st)) (hn:ps.length=n) (hm:N.length=n+m)
  (hb:∀(cdv:Value) (A:Around) (outer:List PySem.Env) (s:Shared) (H:Hp) (E:XK),fd.code=cdv->Room k (A.deeper (envOfC qual (defScope st) s.heap.objs.size f cdv))->Tb ts H->lY (cxOf CX0 P w K mg base N qual (defScope st) f cdv A outer s H E).nox (defBody st) g):
  FnOk P w K mg base CX0 (k+1) f fd ps (spT ts K n (λ ds=>jJ m g (ds.map .val))):=by
 obtain⟨oc,od,kV,doc,pm,an,cdv,ct,osl,rfl,lk,hcd⟩:=Fn.ex;refine fn_of lk hcd S (λ vs H Q E h=>?_) λ A outer s H vs Q E hr h=>?_
 ·obtain⟨_,O,ds,r,hl,_⟩:=h;rw[hn,<-hl,r.length]
 ·obtain⟨hT,O,ds,r,hl,al,h⟩:=h;have Cp:N.length=vs.length+m:=by rw[hm,<-hl,r.length]
  refine⟨_,(hb cdv A outer s H E rfl hr hT).nox,H,O,O,(ds.map Ent.val).map some++List.replicate m none,?_,R0 h⟩;rw[DQ Cp];exact DP (X:=(cxOf CX0 P w K mg base N qual (defScope st) f cdv A outer s H E).nox) (by rw[z1g,r.length];exact Cp) (u5 r) al
end
def qX (P:Program) (w:World) (K:PySem.W.Frag) (mg:Str->Option Value) (base:Heap) (k:Nat) (x:Str) (n:Nat) (F:List D->R D) (fd:FuncData) (ps:List Str) (ts:List (Addr×Str)):Prop:=
 ∃f,FnOk P w K mg base CX0 k f fd ps (spT ts K n F)/\mg x=some (.ref f)/\PySem.W.keepIn K (.ref f)=true
section
variable {X:Cx} {k m n:Nat} {fd:FuncData} {ps ks:List Str} {F:List D->R D} {x:Str} {p pos:Pos} {e:Expr} {es:List Expr} {kws:List Keyword} {fa fk:ao->R (List D)} {ts:List (Addr×Str)}
theorem Mu (G:qX X.prog X.w X.K X.mg X.base k x n F fd ps ts) (hT:Tb ts X.H₀) (hr:Room m X.A) (hkm:k<=m) (hb:Binds X.K fd ps []) (ha:DA X (e::es) fa) (hg:Gl X x:=by rfl)
  (hdb:(x ==("__debug__" :Str))=false:=by decide) (he:starEach (e::es) X.env=(false,eval e X.env)::starEach es X.env:=by rfl) (hpl:(backTo pos (starEach es X.env)).any (·.1)=false:=by rfl):
  DE X (.Call (.Name x p) (e::es) [] pos) (aB (aQ F n) fa):=by
 obtain⟨f,ok,hm,hk⟩:=G;intro pins s σ H Q I h;refine pe_call (dvs:=[]) (ok.mono hkm) hr hg hm hk hb .nil pass0 ha hdb he hpl pins s σ H Q I ?_;obtain⟨ρ,O,j,h⟩:=h;refine go j h λ ds vs H1 e1 s1 r1 j1 h1=>?_;unfold aQ at h1;by_cases hl:ds.length=n
 ·rw[if_pos hl] at h1;rw[List.append_nil];refine⟨(hT.un I.base).same s1,O,ds,r1,hl,j1.al,?_⟩;cases q:F ds with
  |ok d=>rw[q] at h1;exact h1
  |err c=>rw[q] at h1;exact h1
  |bad=>rw[q] at h1;exact h1
 ·rw[if_neg hl] at h1;exact h1.elim
theorem abL {sa sb sc} (S:Sel sa sb sc) (G:qX X.prog X.w X.K X.mg X.base k x n F fd ps ts) (hT:Tb ts X.H₀) (hr:Room m X.A) (hkm:k<=m) (hb:KB X.K fd ps ks sa)
  (ha:DA X (e::es) fa) (hkw:DK X kws fk) (hg:Gl X x:=by rfl) (hall:(backToKw pos (keywordEach kws X.env)).all (·.1.isSome)=true:=by rfl) (hks:(backToKw pos (keywordEach kws X.env)).filterMap (·.1)=ks:=by rfl)
  (hdb:(x ==("__debug__" :Str))=false:=by decide) (he:starEach (e::es) X.env=(false,eval e X.env)::starEach es X.env:=by rfl)
  (hpl:((backTo pos (starEach (e::es) X.env)).any (·.1) || (backToKw pos (keywordEach kws X.env)).any (·.1.isNone))=false:=by rfl):
  DE X (.Call (.Name x p) (e::es) kws pos) (lV F n ks.length sc fa fk):=by
 obtain⟨f,ok,hm,hk⟩:=G;have G:=ok.mono hkm;intro pins s σ H Q I h;refine wpAny_Call_Name_kw (ld_glob I hg hm ?_ hdb);obtain⟨ρ,O,j,h⟩:=h;have key:tG X (Rw X) fa σ H λ vs H1=>tG X (Rw X) fk σ H1 λ zs H2=>zs.length=ks.length/\spT ts X.K n F (vs++pickK .non sb zs) H2 Q E0:=by
  refine go j h λ ds vs H1 e1 s1 r1 j1 h1=>?_;refine go j1 h1 λ zd zs H2 e2 s2 r2 j2 h2=>?_;by_cases hz:zd.length=ks.length
  ·rw[if_pos hz] at h2;unfold aQ at h2;by_cases hl:(ds++pickK .non sc zd).length=n
   ·rw[if_pos hl] at h2;refine⟨by rw[<-r2.length];exact hz,((hT.un I.base).same s1).same s2,O,_,(r1.same s2).append (S.reps r2),hl,j2.al,?_⟩;cases q:F (ds++pickK .non sc zd) with
    |ok d=>rw[q] at h2;exact h2
    |err c=>rw[q] at h2;exact h2
    |bad=>rw[q] at h2;exact h2
   ·rw[if_neg hl] at h2;exact h2.elim
  ·rw[if_neg hz] at h2;exact h2.elim
 refine PySem.W.callWith_KW (h₀:=X.base) I.ok.mod.kin hk hall (thn (ha pos pins s σ H _ I key) λ us s1 ⟨vs,H1,I1,r,q⟩=>?_) hpl he;refine thn (hkw pos pins s1 σ H1 _ I1 q) λ ws s2 ⟨zs,H2,I2,rz,q2⟩=>⟨I2.kIn,?_⟩;rw[hks];obtain⟨hz,q2⟩:=q2;have r2:=r.append (S.vals rz);have hl:(us++pickK .none sa ws).length=ps.length:=by rw[<-r2.length];exact G.len _ _ _ _ q2
 refine wpAny_call (codeAny_mono (G.run X.A X.stack s2 H2 ⟨us,ks.zip ws⟩ _ _ Q E0 hr I2.env0 (hb s2 us ws I2.kIn (by rw[z1d,zy] at hl;exact hl) (by rw[<-rz.length];exact hz)) r2 q2) λ r s' hq=>?_);cases r with
 |error e=>exact pass0 pins σ H2 s2 e s' I2 hq
 | ok fl=>
  cases fl with
  |ret u=>exact I2.after hq
  |next=>exact False.elim hq
  |brk=>exact False.elim hq
  |cont=>exact False.elim hq
theorem abM {sa sb sc} (S:Sel sa sb sc) (G:qX X.prog X.w X.K X.mg X.base k x n F fd ps ts) (hT:Tb ts X.H₀) (hr:Room m X.A) (hkm:k<=m) (hb:KB X.K fd ps [] sa)
  (ha:DA X (e::es) fa) (hg:Gl X x:=by rfl) (hdb:(x ==("__debug__" :Str))=false:=by decide) (he:starEach (e::es) X.env=(false,eval e X.env)::starEach es X.env:=by rfl) (hpl:(backTo pos (starEach es X.env)).any (·.1)=false:=by rfl):
  DE X (.Call (.Name x p) (e::es) [] pos) (lV F n 0 sc fa (λ _=> .ok [])):=by
 obtain⟨f,ok,hm,hk⟩:=G;intro pins s σ H Q I h;refine pe_call (ds:=pickK .none sa []) (dvs:=pickK .non sb []) (ok.mono hkm) hr hg hm hk (λ s us i hl=>hb s us [] i (by rw[z1d,zy] at hl;exact hl) rfl) (S.vals .nil) pass0 ha hdb he hpl pins s σ H Q I ?_;obtain⟨ρ,O,j,h⟩:=h;refine go j h λ ds vs H1 e1 s1 r1 j1 h1=>?_;have h1:good X (rD X) O (aQ F n (ds++pickK .non sc [])) σ H1 Q:=h1;unfold aQ at h1;by_cases hl:(ds++pickK .non sc []).length=n
 ·rw[if_pos hl] at h1;refine⟨(hT.un I.base).same s1,O,_,r1.append (S.reps .nil),hl,j1.al,?_⟩;cases q:F (ds++pickK .non sc []) with
  |ok d=>rw[q] at h1;exact h1
  |err c=>rw[q] at h1;exact h1
  |bad=>rw[q] at h1;exact h1
 ·rw[if_neg hl] at h1;exact h1.elim
end
theorem Ql {a b:Int} {s t:Tok} {c:Value} (l:List Value) (h:TriplesOk l):TriplesOk (l++[.int a s,.int b t,c]):=by
 fun_induction TriplesOk l with
 |case1=>simp[TriplesOk]
 |case2 x1 x2 x3 x4 x5 rest ih=>simp only[List.cons_append,TriplesOk];exact ih h
 |case3=>exact h.elim
theorem W3 {a b:Int} {s t:Tok} {c cv:Value} (l:List Value) (h:TriplesOk l) (e:codeAmong pos (l++[.int a s,.int b t,c])=some cv):codeAmong pos l=some cv\/cv=c:=by
 fun_induction TriplesOk l with
 | case1=>
  simp only[List.nil_append,codeAmong] at e;split at e
  ·cases e;exact .inr rfl
  ·cases e
 | case2 x1 x2 x3 x4 x5 rest ih=>
  simp only[List.cons_append,codeAmong] at e |-;split at e
  ·rename_i z;rw[if_pos z];exact .inl e
  ·rename_i z;rw[if_neg z];exact ih h e
 |case3=>exact h.elim
inductive lB (H:Hp) (a:Addr) (name qual:Str) (params:Arguments) (body:List Stmt) (scope:Scope) (clos:List (Str×Addr)):Prop
 |mk (fo:Obj) (doc pm:Value) (c':Addr) (ctv:Value) (oc:Obj) (vs:Array Value) (t:Tok) (h1:H a=some (.frz fo (.own a))) (h2:fo.data= .func (PySem.W.fnX name qual params body scope clos .none .none doc pm none (.ref c') ctv)) (h3:H c'=some (.frz oc (.own c'))) (h4:oc.data= .fields vs) (h5:vs[1]?=some (.str qual t)):lB H a name qual params body scope clos
theorem lB.fz {H':Hp} {a:Addr} (h:lB H a name qual params body scope clos) (s:∀b o u,H b=some (.frz o u)->H' b=some (.frz o u)):lB H' a name qual params body scope clos:=
 by
 obtain⟨fo,doc,pm,c',ctv,oc,vs,t,h1,h2,h3,h4,h5⟩:=h;exact⟨fo,doc,pm,c',ctv,oc,vs,t,s _ _ _ h1,h2,s _ _ _ h3,h4,h5⟩
structure qw (base:Heap) (mg:Str->Option Value) (c P:Addr):Prop where
 code:PySem.W.CodeHd base c P
 blt:∃bm ob,mg "__builtins__" =some (.ref bm)/\bm≠builtinsNs/\base.get? bm=some ob/\ob.cls= .type "module"/\ob.dict=some builtinsNs/\ob.data= .plain
section
variable {X:Cx} {pins:List (Addr×Obj)} {σ:St} {H:Hp} {s:Shared}
theorem abN {M:Model} {A:Around} {E:Value->Shared->Prop} {line:Nat} {c P:Addr} {ps:Array Value} {tq:Tok}
  (I:Inv X pins σ H s) (hB:qw X.base X.mg c P) (hc:X.env.code= .ref c) (e0:H P=some (.tbl ps)) (q0:ps[0]?=some (.str qual tq)) (hcl:closureFor scope X.env=pure clos):
  wpAny M A (makeFunction name qual params (.stmts body) scope X.env [] [] [] pos line) (λ v s'=>∃a H1,v= .ref a/\Inv X pins σ H1 s'/\Same H H1/\lB H1 a name qual params body scope clos) E s:=by
 obtain⟨qs,hP,tr,al⟩:=I.hok P _ e0;have hgs:s.heap.Ns mainGlobals X.mg:=I.mod.glob.keeps I.bk;have C:PySem.W.CodeHd s.heap c P:=hB.code.keeps I.bk;obtain⟨bm,ob,b1,b2,b3,b4,b5,b6⟩:=hB.blt;have hgP:mainGlobals≠P:=λ q=>by
  obtain⟨o,es,ep,e,hd,_⟩:=hgs;rw[q,hP] at e;cases e;cases hd
 have hbP:bm≠P:=λ q=>by
  have e:=I.bk _ _ b3;rw[q,hP] at e;cases e;cases b4
 have hbG:bm≠mainGlobals:=λ q=>by
  obtain⟨o,es,ep,e,hd,_⟩:=I.mod.glob;rw[q,e] at b3;cases b3;rw[hd] at b6;cases b6
 have hbb:s.heap.BuiltinsAt X.mg P:=⟨bm,ob,b1,b2,hbG,hbP,I.bk _ _ b3,b4,b5,b6⟩;cases hf:codeAmong pos qs.toList with
 | some cv=>
  obtain⟨c',oc,vs,q,t,tq',rfl,h1,h2,h3,h4⟩:=al pos cv hf;rw[q0] at h4;cases h4;refine PySem.W.makeFunction_hit (mg:=X.mg) hcl I.ok.glob hgs hc C hP tr hf hbb λ ctv doc h' tk hk hsz=>?_;have I1:Inv X pins σ H {s with heap:=h',toks:=tk}:=I.kept (t':=tk) hk;have hn:H h'.objs.size=none:=I1.hok.fresh (z0g _);refine⟨h'.objs.size,upd H h'.objs.size (.frz _ (.own h'.objs.size)),rfl,I1.laid (t':=tk) (λ b u z=>z1a _ z) (z0g _) ⟨z1f _ rfl,_,z1f _ rfl⟩,Same.upd hn,?_⟩;exact⟨_,doc,_,c',ctv,oc,vs,t,upd_same,rfl,by rw[upd_ne (ne_of_none h1 hn)];exact h1,h2,h3⟩
 | none =>
  refine PySem.W.makeFunction_K (mg:=X.mg) hcl I.ok.glob hgs hc C hP tr hf hgP hbb λ c' ctv doc h' tk hx hge hlt hrec htb=>?_;obtain⟨c2,oc,vs,t,e2,hoc,hd,hv⟩:=hrec;cases e2;have hn:H c'=none:=I.hok.fresh hge;have old:∀b u,H b=some u->upd H c' (.frz oc (.own c')) b=some u:=λ b u z=>by rw[upd_ne (ne_of_none z hn)];exact z
  have I1 : Inv X pins σ (upd H c' (.frz oc (.own c'))) {s with heap:=h',toks:=tk}:=by
   refine I.call' (ch:=[]) rfl ⟨λ b o q n _ _=>hx b o (λ z=>by rw[z,e0] at n;cases n) q,λ b o q n _ _=>⟨o.slots,hx b o (λ z=>by rw[z,e0] at n;cases n) q⟩,λ b o q n _=>?_,λ b o q _=>?_,λ b xs q=>old _ _ q,λ b o u q=>old _ _ q,λ b p q=>⟨#[],by rw[old _ _ q];simp⟩⟩ (λ b u q=>?_) I.bare (λ b z=>absurd z (by simp))
   ·rw[upd_ne (Nat.ne_of_lt (z0d (z2c q) hge))];exact n
   ·by_cases hb:b=P
    ·rw[hb];exact⟨_,htb⟩
    ·exact⟨o,hx b o hb q⟩
   ·by_cases hb:b=c'
    ·subst hb;rw[upd_same] at q;cases q;exact⟨hoc,oc,hoc⟩
    ·rw [upd_ne hb] at q;by_cases hp:b=P
     ·subst hp;rw[e0] at q;cases q;refine⟨_,htb,?_,λ p cv z=>?_⟩
      ·have:=Ql (a:=pos.line) (s:=0) (b:=pos.col) (t:=0) (c:=Value.ref c') qs.toList tr;simpa[rawInt] using this
      ·have z':codeAmong p (qs.toList++[.int pos.line 0,.int pos.col 0,.ref c'])=some cv:=by simpa[rawInt] using z
       rcases W3 _ tr z' with z1 |z1
       ·obtain⟨c3,o3,v3,q3,t3,tq3,y1,y2,y3⟩:=al p cv z1;exact⟨c3,o3,v3,q3,t3,tq3,y1,old _ _ y2,y3⟩
       ·exact⟨c',oc,vs,qual,t,tq,z1,upd_same,hd,hv,q0⟩
     ·exact (I.hok b u q).stay (λ d v hd z=>hx d v (λ y=>hd.elim (λ x=>hp (x.symm.trans y)) λ x=>by rw[y,e0] at x;cases x) z) (λ d z=>old _ _ z) (λ d xs z=>old _ _ z) λ d o u _ z=>old _ _ z
  have hn2:upd H c' (.frz oc (.own c')) h'.objs.size=none:=I1.hok.fresh (z0g _);refine⟨h'.objs.size,upd (upd H c' (.frz oc (.own c'))) h'.objs.size (.frz _ (.own h'.objs.size)),rfl,I1.laid (t':=tk) (λ b u z=>z1a _ z) (z0g _) ⟨z1f _ rfl,_,z1f _ rfl⟩,(Same.upd hn).trans (Same.upd hn2),?_⟩;exact⟨_,doc,_,c',ctv,oc,vs,t,upd_same,rfl,by rw[upd_ne (Nat.ne_of_lt hlt),upd_same],hd,hv⟩
def agC (i:Nat) (name qual:Str) (params:Arguments) (body:List Stmt) (scope:Scope) (clos:List (Str×Addr)):TS:=λ D σ H=>∀a H1,Same H H1->lB H1 a name qual params body scope clos->D.nx (σ.set i (some (.ref a))) H1
theorem adL (i:Nat) {c P:Addr} (hN:X.N.Nodup) (hB:qw X.base X.mg c P) (hT:Tb [(P,qual)] X.H₀) (hc:X.env.code= .ref c) (hcl:closureFor scope X.env=pure clos)
  (hi:X.N[i]?=some name:=by rfl) (hl:Loc X.env.scope name:=by first |exact Or.inl rfl |exact Or.inr rfl) (hq:qualnameIn X.env name name=qual:=by rfl) (hd0:params.defaults=[]:=by rfl) (hk0:params.kw_defaults=[]:=by rfl) (ha:annTrees params none X.env=[]:=by rfl)
  (hf:X.fn name=true\/X.env.scope.names.lookup name=some .local:=by first |exact .inl rfl |exact .inr rfl):PS X (.FunctionDef name params body [] none [] scope none name pos) (agC i name qual params body scope clos):=by
 intro pins s σ H D I h;obtain⟨ps,tq,e0,q0⟩:=(hT.un I.base) (P,qual) (by simp);refine PySem.W.nestDef_K hd0 hk0 ha ?_;rw[hq];refine wpAny_mono (abN I hB hc e0 q0 hcl) (λ v s1 ⟨a,H1,ev,I1,sm,fh⟩=>?_) λ _ _ z=>z;subst ev;exact store_ok I1 hN hi hl (v:= .ref a) rfl (λ s2 I2=>⟨_,H1,I2,h a H1 sm fh⟩) hf
end
def zG (P:Program) (w:World) (K:PySem.W.Frag) (mg:Str->Option Value) (base:Heap) (k:Nat) (G:List D->R D) (n:Nat) (a:Addr) (H:Hp):Prop:=
 ∀ (A:Around) (outer:List PySem.Env) (s:Shared) (H1:Hp) (us:List Value) (vs:List V) (Q:VK) (E:XK),Room k A->Env0 P w K mg base A outer s H1->(∀b o u,H b=some (.frz o u)->H1 b=some (.frz o u))->Vals vs us->Fb K n G vs H1 Q E->
  codeAny (model P w) A (.call (.ref a) ⟨us,[]⟩) (CR CX0 outer P w H1 s Q E) s
def Bu (i a:Nat) (G:List D->R D) (n:Nat) (fa:ao->R (List D)):ao->R D:=λ ρ=>match ρ[i]? with
 |some (some (.obj (.fn b)))=>if b=a then (fa ρ).bind (aQ G n) else .bad
 |_=> .bad
section
variable {X:Cx} {k m n:Nat} {G:List D->R D} {x:Str} {p pos:Pos} {e:Expr} {es:List Expr} {fa:ao->R (List D)} {a:Addr}
theorem Mv (i:Nat) (hc:zG X.prog X.w X.K X.mg X.base k G n a X.H₀) (hr:Room m X.A) (hkm:k<=m) (ha:DA X (e::es) fa) (hN:X.N[i]?=some x:=by rfl) (hv:Vis X.env.scope x:=by first |exact Or.inl rfl |exact Or.inr (Or.inl rfl) |exact Or.inr (Or.inr rfl))
  (hd:(x ==("__debug__" :Str))=false:=by decide) (hcd:(x ==("__classdict__" :Str))=false:=by decide) (he:starEach (e::es) X.env=(false,eval e X.env)::starEach es X.env:=by rfl) (hpl:(backTo pos (starEach es X.env)).any (·.1)=false:=by rfl):
  DE X (.Call (.Name x p) (e::es) [] pos) (Bu i a G n fa):=by
 intro pins s σ H Q I h;obtain⟨ρ,O,j,h⟩:=h;unfold Bu at h;split at h
 ·rename_i b q;by_cases hb:b=a
  ·subst hb;rw[if_pos rfl] at h;obtain⟨v,hv1,rfl,o,fd,ho,hod⟩:=j.env.get i _ q;have at':∀{s':Shared} {H':Hp},Inv X pins σ H' s'->Same H H'->PySem.W.FnAt b s'.heap:=λ {s' H'} I' sm=>by
    obtain⟨ho',_⟩:=I'.hok b _ (sm _ _ ho);obtain⟨v1,v2,v3,v4⟩:=o;have hod:v3= .func fd:=hod;subst hod;exact⟨v1,v2,fd,v4,ho'⟩
   refine wpAny_Call_Name_kw (thn (pe_var hN hv hd hcd pins s σ H (λ v H1=>v= .ref b/\H1=H) I ⟨_,hv1,rfl,rfl⟩) λ u s1 bH=>?_);obtain⟨v',H1,I1,r1,e1,e2⟩:=bH;subst e1 e2;cases (show u=Value.ref b from r1);have key:tG X (Rw X) fa σ H1 (λ vs H2=>Same H1 H2/\Fb X.K n G vs H2 Q E0):=by
    refine go j h λ ds vs H2 e1 s2 r2 j2 h2=>⟨s2,?_⟩;unfold aQ at h2;by_cases hl:ds.length=n
    ·rw[if_pos hl] at h2;refine⟨O,ds,r2,hl,j2.al,?_⟩;cases q:G ds with
     |ok d=>rw[q] at h2;exact h2
     |err c=>rw[q] at h2;exact h2
     |bad=>rw[q] at h2;exact h2
    ·rw[if_neg hl] at h2;exact h2.elim
   refine PySem.W.callWith_F (at' I1 (Same.refl _)) (thn (ha pos pins s1 σ H1 _ I1 key) λ us s2 ⟨vs,H2,I2,r,sm,q2⟩=>⟨at' I2 sm,?_⟩) he hpl;refine wpAny_call (codeAny_mono (hc X.A X.stack s2 H2 us vs Q E0 (hr.mono hkm) I2.env0 I2.base.frzs r q2) λ r s' hq=>?_);cases r with
   |error e=>exact pass0 pins σ H2 s2 e s' I2 hq
   | ok fl=>
    cases fl with
    |ret u=>exact I2.after hq
    |next=>exact False.elim hq
    |brk=>exact False.elim hq
    |cont=>exact False.elim hq
  ·rw[if_neg hb] at h;exact h.elim
 ·exact h.elim
end
inductive SpS (P:Program) (w:World) (mg:Str->Option Value) (base:Heap) (k:Nat) (K:PySem.W.Frag) (n q:Nat) (F:Addr->(List D->R D)->List D->R D) (vs:List V) (H:Hp) (Q:VK):Prop
 | mk (O:Addr->Prop) (ds:List D) (xs:List V) (a:Addr) (G:List D->R D) (e:vs=xs++[.ref a]) (r:aN K O H ds xs) (hl:ds.length=n) (al:∀b,O b->∃o,H b=some o) (ro:tD K H (.fn a) (.ref a)) (hc:zG P w K mg base k G q a H) (h:match F a G ds with
  | .ok d=>∀v H',Same H H'->Rep K O H' d v->Q v H'
  |_=>False):SpS P w mg base k K n q F vs H Q
def spS (P:Program) (w:World) (mg:Str->Option Value) (base:Heap) (k:Nat) (K:PySem.W.Frag) (n q:Nat) (F:Addr->(List D->R D)->List D->R D):Sp:=λ vs H Q _=>SpS P w mg base k K n q F vs H Q
section
variable {P:Program} {w:World} {K:PySem.W.Frag} {mg:Str->Option Value} {base:Heap}
theorem fnS {x:Str} {kG m q:Nat} {g:Addr->(List D->R D)->ao->So} (Fn:Fun K x qual st f fd) (S:FnScope N ps (defScope st)) (hn:ps.length=n+1) (hm:N.length=n+1+m)
  (hb:∀(cdv:Value) (A:Around) (outer:List PySem.Env) (s:Shared) (H:Hp) (E:XK) (a:Addr) (G:List D->R D),Room k (A.deeper (envOfC qual (defScope st) s.heap.objs.size f cdv))->zG P w K mg base kG G q a H->lY (cxOf CX0 P w K mg base N qual (defScope st) f cdv A outer s H E).nox (defBody st) (g a G)):
  FnOk P w K mg base CX0 (k+1) f fd ps (spS P w mg base kG K n q (λ a G ds=>jJ m (g a G) (ds.map .val++[.obj (.fn a)]))):=by
 obtain⟨oc,od,kV,doc,pm,an,cdv,ct,osl,rfl,lk,hcd⟩:=Fn.ex;refine fn_of lk hcd S (λ vs H Q E h=>?_) λ A outer s H vs Q E hr h=>?_
 ·obtain⟨O,ds,xs,a,G,rfl,r,hl,_⟩:=h;rw[hn,z1d,<-r.length,hl];rfl
 ·obtain⟨O,ds,xs,a,G,rfl,r,hl,al,ro,hc,h⟩:=h;have Cp:N.length=(xs++[V.ref a]).length+m:=by rw[hm,z1d,<-r.length,hl];rfl
  refine⟨_,(hb cdv A outer s H E a G hr hc).nox,H,O,O,(ds.map Ent.val++[Ent.obj (.fn a)]).map some++List.replicate m none,?_,R0 h⟩;rw[DQ Cp];refine DP (X:=(cxOf CX0 P w K mg base N qual (defScope st) f cdv A outer s H E).nox) (by rw[z1d,z1g,r.length];rw[z1d] at Cp;exact Cp) (FJ (u5 r) (.cons ⟨ro,rfl⟩ .nil)) al
end
def del (H:Hp) (c:Addr):Hp:=λ b=>if b=c then none else H b
theorem jK {c:Addr}:del H c c=none:=if_pos rfl
theorem dB {b c:Addr} (h:b≠c):del H c b=H b:=if_neg h
theorem ZG {b c:Addr} {u:HO} (h:del H c b=some u):b≠c/\H b=some u:=by
 by_cases e:b=c
 ·rw[e,jK] at h;cases h
 ·rw[dB e] at h;exact⟨e,h⟩
section
variable {P:Program} {w:World} {H:Hp} {h:Heap} {c:Addr} {co:Obj} {u:Option Value}
theorem R3 (x:HOk P w H h) (hc:H c=some (.frz co (.own c))) (hd:co.data= .cell u):HOk P w (del H c) h:=λ b v q=>by
 obtain⟨nb,q⟩:=ZG q;refine (x b v q).stay (λ _ _ _ z=>z) (λ d z=>?_) (λ d xs z=>?_) λ d o v' hv z=>?_
 ·rw[dB (λ e=>by rw[e,hc] at z;cases z)];exact z
 ·rw[dB (λ e=>by rw[e,hc] at z;cases z)];exact z
 ·rw[dB (λ e=>by rw[e,hc] at z;cases z;obtain⟨vs,y⟩:=hv;rw[hd] at y;cases y)];exact z
theorem R4 (x:HOk P w H h) (hn:H c=none) (ho:h.get? c=some co):HOk P w (upd H c (.frz co (.own c))) h:=λ b v q=>by
 have old:∀b u,H b=some u->upd H c (.frz co (.own c)) b=some u:=λ b u z=>by rw[upd_ne (ne_of_none z hn)];exact z
 by_cases hb:b=c
 ·subst hb;rw[upd_same] at q;cases q;exact⟨ho,co,ho⟩
 ·rw[upd_ne hb] at q;exact (x b v q).stay (λ _ _ _ z=>z) (λ d z=>old _ _ z) (λ d xs z=>old _ _ z) λ d o v' _ z=>old _ _ z
theorem R5 {O:Addr->Prop} (hc:H c=some (.frz co (.own c))):Ext O H (del H c):=by
 refine⟨λ b xs z=>?_,λ b xs _ z=>?_⟩
 ·have nb:b≠c:=λ e=>by rcases z with z |⟨o,z⟩ <;> rw[e,hc] at z <;> cases z
  rcases z with z |⟨o,z⟩
  ·exact .inl (by rw[dB nb];exact z)
  ·exact .inr ⟨o,by rw[dB nb];exact z⟩
 ·have nb:b≠c:=λ e=>by rcases z with z |⟨o,z⟩ <;> rw[e,hc] at z <;> cases z
  rcases z with z |⟨o,z⟩
  ·exact .inl (by rw[dB nb];exact z)
  ·exact .inr ⟨o,by rw[dB nb];exact z⟩
end
section
variable {M:Model} {A:Around} {E:Value->Shared->Prop} {s:Shared}
theorem FN {env env':PySem.Env} (f f':Str×Value->PUnit->Sem (ForInStep PUnit)) (hf:∀n v u,f (n,v) u=(do storeName env n v;pure (.yield ⟨⟩))) (hf':∀n v u,f' (n,v) u=(do storeName env' n v;pure (.yield ⟨⟩))):
  ∀binds:List (Str×Value),(∀x∈binds,∀v,storeName env x.1 v=storeName env' x.1 v)->(forIn binds (⟨⟩:PUnit) f:Sem PUnit)=forIn binds (⟨⟩:PUnit) f'
 |[],_=>rfl
 | (n,v)::r,h=>by
  rw[List.forIn_cons,List.forIn_cons,hf,hf',h (n,v) List.mem_cons_self v];simp only[bind_assoc,pure_bind];rw[FN f f' hf hf' r λ x hx=>h x (z2f _ hx)]
theorem R6 {env:PySem.Env} {n:Str} {v:Value} (hk:env.scope.kind= .function) (h:env.scope.names.lookup n=some .local):storeName env n v=nsSet env.locals n v:=by
 have h:env.kindOf n=some .local:=h;simp[storeName,h,hk]
theorem R7 {env:PySem.Env} {n:Str} {v:Value} {d:Addr} (hk:env.scope.kind= .function) (h:env.scope.names.lookup n=some .cell) (hd:env.cells.lookup n=some d):storeName env n v=cellSet d (some v):=by
 have h:env.kindOf n=some .cell:=h;simp[storeName,h,hk,cellOf,hd]
theorem Qm {globals:Addr} {binds:List (Str×Value)} {func:Option Addr} {code:Value} {builtins:Addr} {Q:PySem.Env->Shared->Prop}
  (hk:scope.kind= .function)
  (hkind:∀x∈binds,scope.names.lookup x.1=some .local\/(scope.names.lookup x.1=some .cell/\((cellsFrom (s.heap.objs.size+1) scope.names []).lookup x.1).isSome=true))
  (hQ:∀s',InCallC s s.heap.objs.size (bindL (λ q=>scope.names.lookup q) binds λ _=>none) (cellsFrom (s.heap.objs.size+1) scope.names []) (bindC (λ q=>scope.names.lookup q) binds λ _=>none) s'->
   Q (newEnv scope s.heap.objs.size globals (cellsFrom (s.heap.objs.size+1) scope.names []++clos) qual func code none builtins) s'):
  wpAny M A (newFunctionEnv scope globals clos binds qual func code none builtins) Q E s:=by
 simp only[newFunctionEnv,Option.isSome_none,Bool.false_eq_true,if_false];refine wpAny_bind (wpAny_alloc ?_);refine wpAny_bind (wpAny_layCells _ (λ name kind cells=>by cases hkc:kind ==NameKind.cell <;> simp[hkc]) _ _ _ _ ?_);have ok:=cellsFrom_ok scope.names (s.heap.push {cls:= .type "frame",data:= .dict #[]}) (s.heap.objs.size+1) [] ⟨λ _ _ hm=>(nomatch hm),List.Pairwise.nil⟩ (by rw[Heap.size_push];exact z0g _);rw[Heap.size_push] at ok;rw[show ({s with heap:=s.heap.push {cls:= .type "frame",data:= .dict #[]}}:Shared).heap.objs.size=s.heap.objs.size+1 from Heap.size_push ..];rw[dW];have eq:=FN (env:=newEnv scope s.heap.objs.size globals (cellsFrom (s.heap.objs.size+1) scope.names []++clos) qual func code none builtins) (env':=newEnv scope s.heap.objs.size globals (cellsFrom (s.heap.objs.size+1) scope.names []) qual func code none builtins)
  (λ x _=>do storeName (newEnv scope s.heap.objs.size globals (cellsFrom (s.heap.objs.size+1) scope.names []++clos) qual func code none builtins) x.1 x.2;pure (.yield ⟨⟩))
  (λ x _=>do storeName (newEnv scope s.heap.objs.size globals (cellsFrom (s.heap.objs.size+1) scope.names []) qual func code none builtins) x.1 x.2;pure (.yield ⟨⟩)) (λ _ _ _=>rfl) (λ _ _ _=>rfl) binds (λ x hx v=>by
   rcases hkind x hx with z |⟨z,z2⟩
   ·rw[R6 hk z,R6 hk z];rfl
   ·obtain⟨d,hd⟩:=Option.isSome_iff_exists.mp z2;have e1:(cellsFrom (s.heap.objs.size+1) scope.names []++clos).lookup x.1=some d:=by rw[List.lookup_append,hd];rfl
    rw[R7 hk z e1,R7 hk z hd])
 refine wpAny_bind ?_;show wpAny M A (forIn binds (⟨⟩:PUnit) (λ x _=>do storeName (newEnv scope s.heap.objs.size globals (cellsFrom (s.heap.objs.size+1) scope.names []++clos) qual func code none builtins) x.1 x.2;pure (.yield ⟨⟩))) _ E _;rw[eq];exact wpAny_bindParams (s₀:=s) (env:=newEnv scope s.heap.objs.size globals (cellsFrom (s.heap.objs.size+1) scope.names []) qual func code none builtins)
  _ (λ _ _ _=>rfl) hk binds (λ _=>none) (λ _=>none) _ _
  ⟨⟨⟨_,_,rfl⟩,(Heap.Ns.new s.heap (.type "frame")).keeps (pushCells_keeps _ _),λ b o e=>pushCells_keeps _ _ b o (z1a _ e),z0g _⟩,
   λ n c hc=>(ok.empty n c (mem_of_lookup hc)).1,ok.apart,λ n c hm=>(ok.empty n c hm).2⟩
  hkind λ s' x=>wpAny_pure (hQ s' x)
end
structure Io (N P:List Str) (y:Str) (sc:Scope):Prop where
 kind:sc.kind= .function
 co:sc.isCoroutine=false
 gen:sc.isGenerator=false
 nd:N.Nodup
 pre:N.take (P.length+1)=P++[y]
 par:∀x∈P,sc.names.lookup x=some .local\/sc.names.lookup x=some .cell
 JM:sc.names.lookup y=some .free
 only:∀z∈sc.names,z.2= .free->z.1=y
 cel:∀z∈sc.names,z.2= .cell->sc.names.lookup z.1=some .cell
section
variable (P:Program) (w:World) (K:PySem.W.Frag) (mg:Str->Option Value) (base:Heap) (N:List Str) (qual:Str) (scope:Scope) (f:Addr) (cd:Value) (A:Around) (outer:List PySem.Env) (s:Shared) (H:Hp) (y:Str) (c:Addr)
abbrev xV:PySem.Env:=PySem.W.envX qual scope s.heap.objs.size f cd (cellsFrom (s.heap.objs.size+1) scope.names []++[(y,c)])
def xW:Cx where
 prog:=P
 w:=w
 K:=K
 mg:=mg
 base:=base
 A:=A.deeper (xV qual scope f cd s y c)
 N:=N
 s₀:=s
 H₀:=H
 env:=xV qual scope f cd s y c
 outer:=outer
 stack:=xV qual scope f cd s y c::outer
 ex:=[]
 calm:=true
 fn:=λ x=>decide (x≠y)
 pn:=[]
 xe:=λ _ _=>False
end
section
variable {P:Program} {w:World} {K:PySem.W.Frag} {mg:Str->Option Value} {base:Heap}
theorem adM {cd:Value} {A:Around} {outer:List PySem.Env} {s s1:Shared} {us:List Value} {c:Addr} {vy:V} {uy:Value}
  (S:Io N ps y scope) (hd:A.handled=none) (e0:Env0 P w K mg base A outer s H) (hl:vs.length=ps.length) (r:Vals vs us) (hc:s.heap.IsCell c (some uy)) (hy:RelV vy uy) (hHc:H c=none)
  (x:InCallC s s.heap.objs.size (bindL (λ q=>scope.names.lookup q) (ps.zip us) λ _=>none) (cellsFrom (s.heap.objs.size+1) scope.names []) (bindC (λ q=>scope.names.lookup q) (ps.zip us) λ _=>none) s1):
  Inv (xW P w K mg base N qual scope f cd A outer s H y c) [] (start N (vs++[vy])) H s1:=by
 have hpl:ps.length+1<=N.length:=by have:=congrArg List.length S.pre;rw[List.length_take,z1d,List.length_singleton] at this;omega
 obtain⟨h1,tk,rfl,hk⟩:=x.done;have noA:∀b:Addr,b∉(xW P w K mg base N qual scope f cd A outer s H y c).ex:=λ b z=>absurd (show b∈([]:List Addr) from z) (by simp);have clt:c < s.heap.objs.size:=hc.lt;have cells:∀z d,(xV qual scope f cd s y c).cells.lookup z=some d->((cellsFrom (s.heap.objs.size+1) scope.names []).lookup z=some d/\scope.names.lookup z=some .cell)\/(z=y/\d=c):=λ z d q=>by
  have q:(cellsFrom (s.heap.objs.size+1) scope.names []++[(y,c)]).lookup z=some d:=q;rw[List.lookup_append] at q;cases e:(cellsFrom (s.heap.objs.size+1) scope.names []).lookup z with
  | some d'=>
   rw[e] at q;have q:d'=d:=by simpa using q
   subst q;obtain⟨m1,_⟩:=jQ _ _ (PySem.mem_of_lookup e);exact .inl ⟨rfl,S.cel _ m1 rfl⟩
  | none=>
   rw[e] at q;have q:List.lookup z [(y,c)]=some d:=by simpa using q
   rw[List.lookup_cons] at q;cases hz:z ==y with
   |true=>rw[hz] at q;cases q;exact .inr ⟨by simpa using hz,rfl⟩
   |false=>rw[hz] at q;cases q
 have kept:(xV qual scope f cd s y c).cells.lookup y=some c:=by
  show (cellsFrom (s.heap.objs.size+1) scope.names []++[(y,c)]).lookup y=some c;rw[List.lookup_append];cases e:(cellsFrom (s.heap.objs.size+1) scope.names []).lookup y with
  | some d=>
   obtain⟨m1,_⟩:=jQ _ _ (PySem.mem_of_lookup e);have:=S.cel _ m1 rfl;rw[S.JM] at this;cases this
  |none=>simp[List.lookup_cons]
 refine⟨⟨e0.mod,S.kind,rfl,rfl,z0g _,λ z z' d h1 h2=>?_,λ z hz=>?_,λ z d hf h=>?_,λ _=>hd,Around.frames_deeper e0.frames,.inr ⟨rfl,rfl⟩,λ b z=>absurd z (noA b),e0.bs,e0.bsz,λ b _ _=>noA b,λ b z=>absurd z (noA b),e0.funs,e0.frf⟩,
  rfl,e0.bare,Un.kept hk,⟨_,x.toInCall.ns,λ i z v h1 h2 h3=>?_⟩,λ z d h=>?_,e0.hok.fresh (z0g _),λ z d h=>?_,λ p hp=>absurd (show p∈([]:List (Addr×Obj)) from hp) (by simp),e0.hok.kept hk,?_⟩
 ·rcases cells z d h1 with⟨q1,_⟩ |⟨q1,q2⟩ <;> rcases cells z' d h2 with⟨q3,_⟩ |⟨q3,q4⟩
  ·exact name_of_addr x.apart (PySem.mem_of_lookup q1) (PySem.mem_of_lookup q3)
  ·have:=x.above z d (PySem.mem_of_lookup q1);rw[q4] at this;exact absurd (Nat.lt_trans clt this) (Nat.lt_irrefl _)
  ·have:=x.above z' d (PySem.mem_of_lookup q3);rw[q2] at this;exact absurd (Nat.lt_trans clt this) (Nat.lt_irrefl _)
  ·rw[q1,q3]
 ·have hz:scope.names.lookup z=some .cell\/scope.names.lookup z=some .free:=hz;rcases hz with hz |hz
  ·obtain⟨d,e⟩:=cell_has (n:=s.heap.objs.size+1) hz;exact⟨d,by show (cellsFrom (s.heap.objs.size+1) scope.names []++[(y,c)]).lookup z=some d;rw[List.lookup_append,e];rfl⟩
  ·have e:=S.only _ (PySem.mem_of_lookup hz) rfl;have e:z=y:=e;rw[e];exact⟨c,kept⟩
 ·have hf:z≠y:=of_decide_eq_true hf;rcases cells z d h with⟨q1,_⟩ |⟨q1,_⟩
  ·exact z0e (x.above z d (PySem.mem_of_lookup q1))
  ·exact absurd q1 hf
 ·have hi:i < vs.length+1:=by
   unfold L2.start at h2;by_cases hi:i < vs.length+1
   ·exact hi
   ·rw[List.getElem?_append_right (by simpa using hi)] at h2;rw[List.getElem?_replicate] at h2;split at h2 <;> cases h2
  have ha:(vs++[vy])[i]?=some v:=by
   unfold L2.start at h2;rw[List.getElem?_append_left (by simpa using hi),z2b] at h2;cases e:(vs++[vy])[i]? with
   |none=>rw[e] at h2;cases h2
   |some a=>rw[e] at h2;cases h2;rfl
  have hp:(ps++[y])[i]?=some z:=by
   rw[<-S.pre,List.getElem?_take_of_lt (by omega)];exact h1
  by_cases hiv:i < vs.length
  ·rw [List.getElem?_append_left hiv] at ha;rw[List.getElem?_append_left (by omega)] at hp;obtain⟨u,hu,rv⟩:=r.get ha;have ndP:ps.Nodup:=by
    have q:(ps++[y]).Nodup:=by rw[<-S.pre];exact S.nd.sublist (List.take_sublist _ _)
    exact (List.nodup_append.mp q).1
   refine⟨u,rv,?_⟩;rcases S.par z (List.mem_of_getElem? hp) with k |k
   ·exact .inl ⟨k,bindL_get ndP hp hu k⟩
   ·obtain⟨d,e⟩:=cell_has (n:=s.heap.objs.size+1) k;refine .inr ⟨.inl k,d,?_,?_⟩
    ·show (cellsFrom (s.heap.objs.size+1) scope.names []++[(y,c)]).lookup z=some d;rw[List.lookup_append,e];rfl
    ·have q:=x.cell z d e;rw[bindC_get ndP hp hu (by rw[k];decide)] at q;exact q
  ·have ei:i=vs.length:=by omega
   subst ei;rw[List.getElem?_append_right (z0g _)] at ha;rw[hl,List.getElem?_append_right (z0g _)] at hp;have ha:vy=v:=by simpa using ha
   have hp:y=z:=by simpa using hp
   subst ha hp;exact⟨uy,hy,.inr ⟨.inr S.JM,c,kept,hc.keeps hk⟩⟩
 ·rcases cells z d h with⟨q1,_⟩ |⟨_,q2⟩
  ·exact⟨_,x.cell z d q1⟩
  ·rw[q2];exact⟨_,hc.keeps hk⟩
 ·rcases cells z d h with⟨q1,_⟩ |⟨_,q2⟩
  ·exact e0.hok.fresh (z0e (x.above z d (PySem.mem_of_lookup q1)))
  ·rw[q2];exact hHc
 ·unfold L2.start;show _=N.length;rw[z1d,z1g,List.length_replicate,z1d,List.length_singleton];omega
theorem adN {m:Nat} {g:ao->So} {my:Int} {a c:Addr} {co:Obj} {uy:Value}
  (S:Io N ps y scope) (hn:ps.length=n) (hm:N.length=n+1+m)
  (hbind:∀(doc pm:Value) (cl:List (Str×Addr)) (cdv ct:Value) (us:List Value),us.length=ps.length->bindArgs (PySem.W.fnX name qual params body scope cl .none .none doc pm none cdv ct) ⟨us,[]⟩=pure (ps.zip us))
  (hb:∀(cdv:Value) (A:Around) (outer:List PySem.Env) (s:Shared) (H:Hp) (f c:Addr),Room k (A.deeper (xV qual scope f cdv s y c))->lY (xW P w K mg base N qual scope f cdv A outer s H y c) body g)
  (fh:lB H a name qual params body scope [(y,c)]) (hc:H c=some (.frz co (.own c))) (hcd:co.data= .cell (some uy)) (hy:RelV (.int my) uy):
  zG P w K mg base (k+1) (λ ds=>jJ m g (ds.map .val++[.val (.int my)])) n a H:=by
 intro A outer s H1 us vs Q E hr e0 hz r sp;obtain⟨O,ds,rs,hl,al,sp⟩:=sp;have sp:(match jJ m g (ds.map Ent.val++[Ent.val (.int my)]) with | .ok d=>∀v H',Same H1 H'->Rep K O H' d v->Q v H' |_=>False):=sp;obtain⟨fo,doc,pm,c',ctv,oc,vq,t,f1,f2,f3,f4,f5⟩:=fh.fz hz;have hc1:=hz _ _ _ hc;obtain⟨hco,_⟩:=e0.hok c _ hc1;obtain⟨hfo,_⟩:=e0.hok a _ f1;obtain⟨hoc,_⟩:=e0.hok c' _ f3;have KX:K.In s.heap:=e0.mod.kin.keeps λ b o e=>(e0.bs b o e).1;have lim:s.heap.NoLimit:=e0.mod.nolimit.keeps λ b o e=>(e0.bs b o e).1;have e1:Env0 P w K mg base A outer s (del H1 c):=⟨e0.frames,e0.mod,λ b o e=>⟨(e0.bs b o e).1,by
  by_cases q:b=c
  ·rw[q];exact jK
  ·rw[dB q];exact (e0.bs b o e).2⟩,e0.bsz,e0.funs,λ b hb=>by
  by_cases q:b=c
  ·rw[q];exact jK
  ·rw[dB q];exact e0.frf b hb,R3 e0.hok hc1 hcd,e0.bare⟩
 have hlu:us.length=ps.length:=by rw[<-r.length,<-rs.length,hl,hn]
 have hkind:∀z∈ps.zip us,scope.names.lookup z.1=some .local\/(scope.names.lookup z.1=some .cell/\((cellsFrom (s.heap.objs.size+1) scope.names []).lookup z.1).isSome=true):=λ ⟨q,v⟩ hy=>by
  rcases S.par q (List.of_mem_zip hy).1 with z |z
  ·exact .inl z
  ·exact .inr ⟨z,PySem.W.cellsFrom_some _ _ _ (.inl z)⟩
 refine codeAny_call_function hr.depth hfo f2 S.co S.gen rfl ⟨c',oc,vq,t,rfl,hoc,f4,f5⟩ ?_;rw[hbind doc pm _ _ _ us hlu];refine wpAny_pure (Qm S.kind hkind λ s1 x=>?_);refine⟨lim.keeps x.toInCall.keep,codeAny_func ?_⟩;have I:Inv (xW P w K mg base N qual scope a (.ref c') A outer s (del H1 c) y c) [] (start N (vs++[.int my])) (del H1 c) s1:=
  adM S hr.hd e1 (by rw[<-rs.length,hl,hn]) r ⟨co,hco,hcd⟩ hy jK x
 have Cp:N.length=(vs++[V.int my]).length+m:=by rw[hm,z1d,<-rs.length,hl];rfl
 have rs':aN K (λ b=>O b/\b≠c) (del H1 c) ds vs:=aN.ext (R5 hc1) (λ b xs nb _ z=>nb z.1) ds vs rs;have J:At (xW P w K mg base N qual scope a (.ref c') A outer s (del H1 c) y c) (del H1 c) (λ b=>O b/\b≠c) (λ b=>O b/\b≠c) (del H1 c) ((ds.map Ent.val++[Ent.val (.int my)]).map some++List.replicate m none) (start N (vs++[.int my])):=by
  rw[DQ Cp];refine DP (by show N.length=_;rw[z1d,z1g,rs.length];rw[z1d] at Cp;exact Cp) (FJ (u5 rs') (.cons ⟨(cB (K:=K) (O:=λ b=>O b/\b≠c) (H:=del H1 c) my:qQ K (λ b=>O b/\b≠c) (del H1 c) (.val (.int my)) (.int my)),rfl⟩ .nil)) λ b z=>?_;obtain⟨o,q⟩:=al b z.1;exact⟨o,by rw[dB z.2];exact q⟩
 have run:=hb (.ref c') A outer s (del H1 c) a c (hr.deeper _) [] s1 _ _ {nx:=λ _ H'=>jJ m g (ds.map .val++[.val (.int my)])= .ok .non/\Same (del H1 c) H',rt:=λ v H'=>∃d,jJ m g (ds.map .val++[.val (.int my)])= .ok d/\Same (del H1 c) H'/\Rep K (λ b=>O b/\b≠c) H' d v} I ⟨_,_,_,_,J,by
  unfold jJ at sp |-;cases e2:g ((ds.map Ent.val++[Ent.val (.int my)]).map some++List.replicate m none) with
  |rt d=>exact λ v H' s' r'=>⟨d,by simp only[e2],s',r'⟩
  |nx ρ'=>exact λ σ' H' O' j' _=>⟨by simp only[e2],j'.same⟩
  |bk _=>rw[e2] at sp;exact sp.elim
  |ct _=>rw[e2] at sp;exact sp.elim
  |ex _ _=>rw[e2] at sp;exact sp.elim
  |bad=>rw[e2] at sp;exact sp.elim⟩
 have cfr:c∉frs outer:=λ z=>by rw[e0.frf c z] at hc1;cases hc1
 have fin:∀{σ':St} {H':Hp} {v:V} {u:Value} {s':Shared} {d:D},Inv (xW P w K mg base N qual scope a (.ref c') A outer s (del H1 c) y c) [] σ' H' s'->RelV v u->jJ m g (ds.map .val++[.val (.int my)])= .ok d->Same (del H1 c) H'->Rep K (λ b=>O b/\b≠c) H' d v->CE outer P w H1 s Q u s':=λ {σ' H' v u s' d} J rv ed sm rd=>by
  have hn':H' c=none:=J.base.free c co hco jK (by simp[xW]);have hc':s'.heap.get? c=some co:=J.base.keep c co hco jK cfr (by simp[xW]);have ol:∀b,b≠c->upd H' c (.frz co (.own c)) b=H' b:=λ b z=>upd_ne z;have kIn:K.In s'.heap:=J.kIn;refine⟨v,upd H' c (.frz co (.own c)),J.os,J.bare,⟨λ b o q nb hb hx=>?_,λ b o q nb hb hx=>?_,λ b o q nb hx=>?_,λ b o q hx=>J.base.there b o q hx,λ b xs q=>?_,λ b o u q=>?_,λ b ps q=>?_⟩,R4 J.hok hn' hc',rv,?_⟩
  ·exact J.base.keep b o q (show del H1 c b=none by by_cases z:b=c;(rw[z];exact jK);rw[dB z];exact nb) hb hx
  ·exact J.base.slot b o q (show del H1 c b=none by by_cases z:b=c;(rw[z];exact jK);rw[dB z];exact nb) hb hx
  ·have nc:b≠c:=λ z=>by rw[z,hc1] at nb;cases nb
   rw[ol b nc];exact J.base.free b o q (show del H1 c b=none by rw[dB nc];exact nb) hx
  ·have nc:b≠c:=λ z=>by rw[z,hc1] at q;cases q
   rw[ol b nc];exact J.base.tups b xs (show del H1 c b=some _ by rw[dB nc];exact q)
  ·by_cases nc:b=c
   ·rw[nc,hc1] at q;cases q;rw[nc,upd_same]
   ·rw[ol b nc];exact J.base.frzs b o u (show del H1 c b=some _ by rw[dB nc];exact q)
  ·have nc:b≠c:=λ z=>by rw[z,hc1] at q;cases q
   rw[ol b nc];exact J.base.tbls b ps (show del H1 c b=some _ by rw[dB nc];exact q)
  ·rw [ed] at sp;have s2:Same H' (upd H' c (.frz co (.own c))):=Same.upd hn';refine sp v _ (λ b o q=>?_) ?_
   ·by_cases nc:b=c
    ·rw[nc,hc1] at q;cases q;rw[nc,upd_same]
    ·exact s2 _ _ (sm b o (by rw[dB nc];exact q))
   ·refine Rep.ext ⟨λ b xs z=>Same.rd s2 z,λ b xs _ z=>Same.rd s2 z⟩ (λ b xs nb hq z=>?_) d v rd;by_cases nc:b=c
    ·subst nc;rcases hq with (hq |⟨o,hq⟩) |⟨o,its,n',hq,h4,_⟩
     ·rw[hn'] at hq;cases hq
     ·rw[hn'] at hq;cases hq
     ·have:=kIn _ _ hq;rw[hc'] at this;cases this;simp_all
    ·exact nb ⟨z,nc⟩
 refine wpAny_mono run (λ fl s' hs=>?_) λ e s' hs=>hs.elim;cases fl with
 | ret u=>
  obtain⟨v,σ',H',J,rv,d,q1,q2,q3⟩:=hs;exact fin J rv q1 q2 q3
 | next=>
  obtain⟨σ',H',J,q1,q2⟩:=hs;exact fin (v:=V.non) (u:=Value.none) J rfl q1 q2 sI
 |brk=>obtain⟨_,_,_,q⟩:=hs;exact False.elim q
 |cont=>obtain⟨_,_,_,q⟩:=hs;exact False.elim q
end
section
variable {X:Cx} {name qual:Str} {params:Arguments} {body:List Stmt} {scope:Scope} {y xS:Str} {c fS:Addr} {Mw:FuncData} {JX:List Str} {kS kG n q iy:Nat} {FS:Addr->(List D->R D)->List D->R D} {GG:Int->List D->R D} {p pos:Pos} {e:Expr} {es:List Expr} {ta:TA}
inductive aaV (K:PySem.W.Frag) (name qual:Str) (params:Arguments) (body:List Stmt) (scope:Scope) (y:Str) (c:Addr) (iy n:Nat) (FS:Addr->(List D->R D)->List D->R D) (GG:Int->List D->R D) (σ:St) (Q:VK) (vs:List V) (H1:Hp):Prop
 |mk (O:Addr->Prop) (ds:List D) (xs:List V) (a:Addr) (my:Int) (d:D) (e:vs=xs++[.ref a]) (r:aN K O H1 ds xs) (hl:ds.length=n) (al:∀b,O b->∃o,H1 b=some o) (fh:lB H1 a name qual params body scope [(y,c)]) (hσ:σ[iy]?=some (some (.int my))) (hF:∀a,FS a (GG my) ds= .ok d) (hQ:∀v H',Same H1 H'->Rep K O H' d v->Q v H'):aaV K name qual params body scope y c iy n FS GG σ Q vs H1
def afE (K:PySem.W.Frag) (name qual:Str) (params:Arguments) (body:List Stmt) (scope:Scope) (y:Str) (c:Addr) (iy n:Nat) (FS:Addr->(List D->R D)->List D->R D) (GG:Int->List D->R D) (ta:TA):TE:=λ σ H Q=>ta σ H λ vs H1=>aaV K name qual params body scope y c iy n FS GG σ Q vs H1
theorem ZJ (Sw:FnOk X.prog X.w X.K X.mg X.base CX0 kS fS Mw JX (spS X.prog X.w X.mg X.base kG X.K n q FS)) (hr:Room kS X.A) (hg:Gl X xS) (hm:X.mg xS=some (.ref fS)) (hk:PySem.W.keepIn X.K (.ref fS)=true) (hb:Binds X.K Mw JX [])
  (ZK:∀my a c H co uy,lB H a name qual params body scope [(y,c)]->H c=some (.frz co (.own c))->co.data= .cell (some uy)->RelV (.int my) uy->zG X.prog X.w X.K X.mg X.base kG (GG my) q a H)
  (hc:X.env.cells.lookup y=some c) (hyk:X.env.scope.names.lookup y=some .cell) (hfn:X.fn y=true) (hiy:X.N[iy]?=some y) (ha:PA X (e::es) ta) (hdb:(xS ==("__debug__" :Str))=false:=by decide)
  (he:starEach (e::es) X.env=(false,eval e X.env)::starEach es X.env:=by rfl) (hpl:(backTo pos (starEach es X.env)).any (·.1)=false:=by rfl):
  PE X (.Call (.Name xS p) (e::es) [] pos) (afE X.K name qual params body scope y c iy n FS GG ta):=by
 intro pins s σ H Q I h;refine wpAny_Call_Name_kw (ld_glob I hg hm ?_ hdb);refine PySem.W.callWith_K (h₀:=X.base) I.ok.mod.kin hk (thn (ha pos pins s σ H _ I h) λ us s1 ⟨vs,H1,I1,r,hq⟩=>⟨I1.kIn,?_⟩) he hpl;obtain⟨O,ds,xs,a,my,d,rfl,rs,hl,al,fh,hσ,hF,hQ⟩:=hq;obtain⟨m,hn,hl'⟩:=I1.loc;obtain⟨uy,ry,look⟩:=hl' iy y (.int my) hiy hσ (.inr (.inl hyk));have hcell:s1.heap.IsCell c (some uy):=by
  rcases look with⟨z,_⟩ |⟨_,c2,z,hz⟩
  ·have z:X.env.scope.names.lookup y=some .local:=z;rw[hyk] at z;cases z
  ·rw[hc] at z;cases z;exact hz
 obtain⟨co,hco,hcd⟩:=hcell;have hnc:H1 c=none:=I1.freeC y c hc;have cab:X.s₀.heap.objs.size<=c:=I1.ok.cab y c hfn hc;have sm:Same H1 (upd H1 c (.frz co (.own c))):=Same.upd hnc;have nfr:∀b∈frs X.stack,b≠c:=λ b hb z=>by
  rcases List.mem_cons.mp (I1.stkSub b hb) with e |hb'
  ·exact I1.cne y c hc (z.symm.trans e)
  ·obtain⟨_,o,ho,_⟩:=I1.ok.funs.mem hb';exact absurd (z0d (z2c ho) cab) (by rw[z];exact Nat.lt_irrefl _)
 have e0:=I1.env0;have e1:Env0 X.prog X.w X.K X.mg X.base X.A X.stack s1 (upd H1 c (.frz co (.own c))):=⟨e0.frames,e0.mod,λ b o z=>⟨(e0.bs b o z).1,by
  rw[upd_ne (λ w=>by
   have:=z2c (I1.ok.bs b o z).1;rw[w] at this;exact absurd (z0d this cab) (Nat.lt_irrefl _))]
  exact (e0.bs b o z).2⟩,e0.bsz,e0.funs,λ b hb=>by rw[upd_ne (nfr b hb)];exact e0.frf b hb,R4 e0.hok hnc hco,e0.bare⟩
 obtain⟨fo,doc,pm,c',ctv,oc,vq,t,f1,f2,f3,f4,f5⟩:=id fh;have fh1:=fh.fz λ b o u z=>sm b _ z;have sp:spS X.prog X.w X.mg X.base kG X.K n q FS (xs++[.ref a]) (upd H1 c (.frz co (.own c))) (λ v H'=>Same (upd H1 c (.frz co (.own c))) H'/\Rep X.K O H' d v) E0:=by
  refine⟨O,ds,xs,a,GG my,rfl,rs.same sm,hl,λ b z=>let ⟨o,w⟩:=al b z;⟨o,sm _ _ w⟩,⟨rfl,fo,_,sm _ _ f1,f2⟩,ZK my a c _ co uy fh1 upd_same hcd ry,?_⟩;rw[hF a];exact λ v H' s' r'=>⟨s',r'⟩
 have hll:us.length=JX.length:=by rw[<-r.length];exact Sw.len _ _ _ _ sp
 have hbb:=hb s1 us I1.kIn (by rw[List.append_nil];exact hll);rw[List.append_nil] at hbb;refine wpAny_call (codeAny_mono (Sw.run X.A X.stack s1 _ ⟨us,[]⟩ us _ _ E0 hr e1 hbb r sp) λ rr s' hq=>?_);cases rr with
 |error ev=>exact hq.elim
 | ok fl =>
  cases fl with
  |next=>exact False.elim hq
  |brk=>exact False.elim hq
  |cont=>exact False.elim hq
  | ret u =>
   obtain⟨v,H',os,bare,un,hok,rv,q1,q2⟩:=hq;have hc':H' c=some (.frz co (.own c)):=un.frzs c co _ upd_same;have up:∀b,b≠c->upd H1 c (.frz co (.own c)) b=H1 b:=λ b z=>upd_ne z;have un':Un (frs X.stack) [] H1 (del H' c) s1.heap s'.heap:=by
    refine⟨λ b o z nb hb hx=>?_,λ b o z nb hb hx=>?_,λ b o z nb hx=>?_,un.there,λ b xs z=>?_,λ b o u z=>?_,λ b ps z=>?_⟩
    ·by_cases bc:b=c
     ·subst bc;rw[hco] at z;cases z;exact (hok b _ hc').1
     ·exact un.keep b o z (by rw[up b bc];exact nb) hb hx
    ·exact un.slot b o z (by rw[up b (nfr b hb)];exact nb) hb hx
    ·by_cases bc:b=c
     ·rw[bc];exact jK
     ·rw[dB bc];exact un.free b o z (by rw[up b bc];exact nb) hx
    ·have bc:=ne_of_none z hnc;rw[dB bc];exact un.tups b xs (by rw[up b bc];exact z)
    ·have bc:=ne_of_none z hnc;rw[dB bc];exact un.frzs b o u (by rw[up b bc];exact z)
    ·have bc:=ne_of_none z hnc;rw[dB bc];exact un.tbls b ps (by rw[up b bc];exact z)
   have J:Inv X pins σ (del H' c) s':=I1.call' os un' (R3 hok hc' hcd) bare λ b z=>absurd z (by simp);refine⟨v,del H' c,J,rv,hQ v _ (λ b o z=>?_) ?_⟩
   ·have bc:=ne_of_none z hnc;rw[dB bc];exact q1 b o (by rw[up b bc];exact z)
   ·exact Rep.ext (R5 hc') (λ b xs nb _ z=>nb z) d v q2
end
open Classical in
def allOf (f:Addr->R D):R D:=if h:∃d,∀a,f a= .ok d then .ok h.choose else .bad
theorem ZL {f:Addr->R D} {d:D} (h:∀a,f a= .ok d):allOf f= .ok d:=by
 have e:∃d,∀a,f a= .ok d:=⟨d,h⟩;unfold allOf;rw[dif_pos e];have:=e.choose_spec 0;rw[h 0] at this;exact this.symm
theorem ZM {f:Addr->R D} {d:D} (h:allOf f= .ok d) (a:Addr):f a= .ok d:=by
 unfold allOf at h;by_cases e:∃d,∀a,f a= .ok d
 ·rw[dif_pos e] at h;cases h;exact e.choose_spec a
 ·rw[dif_neg e] at h;cases h
def Uh (i iy:Nat) (f1 f2 f3:ao->R D) (FS:Addr->(List D->R D)->List D->R D) (GG:Int->List D->R D):ao->So:=λ ρ=>match ρ[i]?,ρ[iy]? with
 | some none,some (some (.val (.int my)))=>(match f1 ρ,f2 ρ,f3 ρ with
  | .ok a,.ok b,.ok d=>(match allOf (λ x=>FS x (GG my) [a,b,d]) with
   | .ok r=> .rt r
   |_=> .bad)
  |_,_,_=> .bad)
 |_,_=> .bad
section
variable {X:Cx} {name qual:Str} {params:Arguments} {body:List Stmt} {scope:Scope} {y xS:Str} {c cc P fS:Addr} {Mw:FuncData} {JX:List Str} {kS kG q:Nat} {FS:Addr->(List D->R D)->List D->R D} {GG:Int->List D->R D} {p p4 pos pos2 adP:Pos} {e1 e2 e3:Expr} {f1 f2 f3:ao->R D}
theorem In.agD {O:Addr->Prop} {v:V} (j:In X O H ρ σ) (hn:ρ[i]?=some none):In X O H ρ (σ.set i (some v)):=by
 have ne:∀(k:Nat) e,ρ[k]?=some (some e)->i≠k:=λ k e h z=>by rw[<-z,hn] at h;cases h
 refine⟨⟨λ k e h=>?_,λ k l e e' u hkl hk hl ok ol sk sl=>?_⟩,j.al,by rw[List.length_set];exact j.len,j.m9⟩
 ·rw[z1e (ne k e h)];exact j.env.get k e h
 ·rw[z1e (ne k e hk)] at sk;rw[z1e (ne l e' hl)] at sl;exact j.env.sep k l e e' u hkl hk hl ok ol sk sl
theorem ZP (i iy:Nat) (hN:X.N.Nodup) (hB:qw X.base X.mg cc P) (hT:Tb [(P,qual)] X.H₀) (hcode:X.env.code= .ref cc) (Sw:FnOk X.prog X.w X.K X.mg X.base CX0 kS fS Mw JX (spS X.prog X.w X.mg X.base kG X.K 3 q FS)) (hr:Room kS X.A) (hm:X.mg xS=some (.ref fS)) (hk:PySem.W.keepIn X.K (.ref fS)=true) (hb:Binds X.K Mw JX [])
  (ZK:∀my a c H co uy,lB H a name qual params body scope [(y,c)]->H c=some (.frz co (.own c))->co.data= .cell (some uy)->RelV (.int my) uy->zG X.prog X.w X.K X.mg X.base kG (GG my) q a H)
  (h1:DE X e1 f1) (h2:DE X e2 f2) (h3:DE X e3 f3)
  (hcl:closureFor scope X.env=pure [(y,c)]) (hc:X.env.cells.lookup y=some c) (hyk:X.env.scope.names.lookup y=some .cell) (hfn:X.fn y=true) (hii:i≠iy) (hnv:Vis X.env.scope name)
  (hiy:X.N[iy]?=some y:=by rfl) (hi:X.N[i]?=some name:=by rfl) (hl:Loc X.env.scope name:=by first |exact Or.inl rfl |exact Or.inr rfl) (hq:qualnameIn X.env name name=qual:=by rfl) (hd0:params.defaults=[]:=by rfl) (hk0:params.kw_defaults=[]:=by rfl) (ha:annTrees params none X.env=[]:=by rfl)
  (hg:Gl X xS:=by rfl) (hdb:(xS ==("__debug__" :Str))=false:=by decide) (hdn:(name ==("__debug__" :Str))=false:=by decide) (hdc:(name ==("__classdict__" :Str))=false:=by decide)
  (he1:starEach [e1,e2,e3,.Name name p4] X.env=(false,eval e1 X.env)::starEach [e2,e3,.Name name p4] X.env:=by rfl) (he2:starEach [e2,e3,.Name name p4] X.env=(false,eval e2 X.env)::starEach [e3,.Name name p4] X.env:=by rfl)
  (he3:starEach [e3,.Name name p4] X.env=(false,eval e3 X.env)::starEach [.Name name p4] X.env:=by rfl) (he4:starEach [.Name name p4] X.env=(false,eval (.Name name p4) X.env)::starEach [] X.env:=by rfl)
  (hpl:(backTo pos2 (starEach [e2,e3,.Name name p4] X.env)).any (·.1)=false:=by rfl) (hf:X.fn name=true\/X.env.scope.names.lookup name=some .local:=by first |exact .inl rfl |exact .inr rfl):
  lY X [.FunctionDef name params body [] none [] scope none name pos,.Return (some (.Call (.Name xS p) [e1,e2,e3,.Name name p4] [] pos2)) adP] (Uh i iy f1 f2 f3 FS GG):=by
 have A:=pa_cons h1 (pa_cons h2 (pa_cons h3 (pa_cons (pe_var (X:=X) (pos:=p4) hi hnv hdn hdc) pa_nil he4) he3) he2) he1;refine PSs.imp (pss_cons (adL i hN hB hT hcode hcl hi hl hq hd0 hk0 ha hf) (pss_one (ps_ret (ZJ (iy:=iy) (p:=p) (pos:=pos2) Sw hr hg hm hk hb ZK hc hyk hfn hiy A hdb he1 hpl)))) λ σ H E h=>?_;obtain⟨H0,O0,O,ρ,j,h⟩:=h;intro a H1 sm fh;unfold Uh at h;split at h
 ·rename_i my en em;have hil:i < X.N.length:=(z1b hi).1;obtain⟨v,hv,rv⟩:=j.inn.env.get iy _ em;have rv:v= .int my:=Rep.int (show Rep X.K O H (.int my) v from rv);subst rv;split at h
  ·rename_i d1 d2 d3 q1 q2 q3;cases q4:allOf (λ x=>FS x (GG my) [d1,d2,d3]) with
   |bad=>rw[q4] at h;exact h.elim
   |err _=>rw[q4] at h;exact h.elim
   | ok d=>
    rw[q4] at h;have jn:In X O H1 ρ (σ.set i (some (.ref a))):=In.agD (j.inn.same sm) en;refine⟨ρ,O,jn,?_⟩;rw[q1];intro v1 H2 s2 r1;refine⟨ρ,O,jn.same s2,?_⟩;rw[q2];intro v2 H3 s3 r2;refine⟨ρ,O,(jn.same s2).same s3,?_⟩;rw[q3];intro v3 H4 s4 r3;have jl:i < σ.length:=by rw[j.inn.len];exact hil
    refine⟨.ref a,z2a jl,?_⟩;have s14:Same H1 H4:=(s2.trans s3).trans s4;refine⟨O,[d1,d2,d3],[v1,v2,v3],a,my,d,rfl,.cons (r1.same (s3.trans s4)) (.cons (r2.same s4) (.cons r3 .nil)),rfl,(jn.same s14).al,fh.fz λ b o u z=>s14 _ _ z,?_,ZM q4,λ v' H' s' r'=>?_⟩
    ·rw[z1e hii];exact hv
    ·exact h v' H' (j.same.trans (sm.trans (s14.trans s'))) (r'.fewer j.sub)
  ·exact h.elim
 ·exact h.elim
end
def nG (a:Addr) (o:Option HO) (T:Addr) (q:Str):Hp:=λ b=>if b=T then some (.tbl #[.str q 0]) else if b=a then o else none
theorem W4 {mb:Str→Option Value} {fa a c T:Addr} {q:Str} {x:Str} {sp:Sp} {s₁:Shared} {vs:List Value} {ns:List Int}
    (KX:K.In s₁.heap) (hns:s₁.heap.Ns mainGlobals mg) (hb:s₁.heap.Ns builtinsNs mb) (hbb:∀x:Str,x≠"__name__"→mb x=bootBuiltins x) (hlim:s₁.heap.NoLimit) (hg:s₁.gens= #[])
    (ha:s₁.heap.get? a=some {cls:= .type "list",data:= .seq vs.toArray}) (hi:IntsAre vs ns) (hl:ns.length≤sizeLine) (hr:Room k callerA)
    (hC:PySem.W.CodeHd s₁.heap c T) (hT:s₁.heap.get? T=some (PySem.W.tabObj #[])) (hnt:PySem.W.noTabs K=true)
    (hbm:∃bm ob,mg "__builtins__" =some (.ref bm)∧bm≠builtinsNs∧s₁.heap.get? bm=some ob∧ob.cls= .type "module"∧ob.dict=some builtinsNs∧ob.data= .plain)
    (F:∀base:Heap,K.In base→base.Ns mainGlobals mg→qw base mg c T→FnOk P w K mg base CX0 k fa fd [x] sp) (hbind:∀(s:Shared) (u:Value),BindsTo s fd ⟨[u],[]⟩ [(x,u)])
    (hsp:∀H:Hp,Tb [(T,q)] H→SqL K H a (ns.map V.int)→sp [.ref a] H (fun v _=>v= .bl true) fun _ _ _=>False):
    codeAny (model P w) callerA (.call (.ref fa) ⟨[.ref a],[]⟩) (fun r s'=>r= .ok (.ret (.bool true))∧OldK s₁.heap s'.heap∧s'.os=s₁.os∧AllBare s'.gens) s₁:=by
  have rv:=vals_ints hi
  have lenV:=hi.length
  have aT:a≠T:=fun z=>by rw[z,hT] at ha;cases ha
  have core : ∀o:Option HO,(o=none∨o=some (.frz {cls:= .type "list",data:= .seq vs.toArray} (.lst (ns.map V.int))))→SqL K (nG a o T q) a (ns.map V.int)→(o≠none→K.lookup a=none)→
      codeAny (model P w) callerA (.call (.ref fa) ⟨[.ref a],[]⟩) (fun r s'=>r= .ok (.ret (.bool true))∧OldK s₁.heap s'.heap∧s'.os=s₁.os∧AllBare s'.gens) s₁:=by
    intro o ho hS hK
    have hH:∀b u,nG a o T q b=some u→(b=T∧u= .tbl #[.str q 0])∨(b=a∧u= .frz {cls:= .type "list",data:= .seq vs.toArray} (.lst (ns.map V.int))∧o≠none):=fun b u z=>by
      unfold nG at z
      by_cases h1:b=T
      · rw[if_pos h1] at z;cases z;exact .inl ⟨h1,rfl⟩
      · rw[if_neg h1] at z
        by_cases h2:b=a
        · rw[if_pos h2] at z
          rcases ho with ho |ho
          · rw[ho] at z;cases z
          · rw[ho] at z;cases z;exact .inr ⟨h2,rfl,by rw[ho];simp⟩
        · rw[if_neg h2] at z;cases z
    have hok:HOk P w (nG a o T q) s₁.heap:=fun b u z=>by
      rcases hH b u z with⟨rfl,rfl⟩ |⟨rfl,rfl,_⟩
      · exact⟨#[],hT,trivial,fun p cv y=>by cases y⟩
      · exact⟨ha,by rw[List.length_map];exact hl,vs,_,rv,ha⟩
    have tb:Tb [(T,q)] (nG a o T q):=fun p hp=>by
      have e:p=(T,q):=by simpa using hp
      subst e
      exact⟨#[.str q 0],0,if_pos rfl,rfl⟩
    have base_of:∀{b:Addr} {u:Obj},s₁.heap.get? b=some u→nG a o T q b=none→(hidT s₁.heap (nG a o T q)).get? b=some u:=fun e n=>hidT_get e n
    have free:∀{b:Addr} {u:Obj},s₁.heap.get? b=some u→u.cls≠.type "list"→u.cls≠.none→nG a o T q b=none:=fun {b u} e n1 n2=>by
      cases z:nG a o T q b with
      |none=>rfl
      | some y=>
        rcases hH b y z with⟨rfl,_⟩ |⟨rfl,_,_⟩
        · rw[hT] at e;cases e;exact absurd rfl n2
        · rw[ha] at e;cases e;exact absurd rfl n1
    have afF:∀{b:Addr} {u:Obj} {es:Array DictEntry} {ep:Nat},s₁.heap.get? b=some u→u.data= .dict es ep→nG a o T q b=none:=fun {b u es ep} e d=>by
      cases z:nG a o T q b with
      |none=>rfl
      | some y=>
        rcases hH b y z with⟨rfl,_⟩ |⟨rfl,_,_⟩
        · rw[hT] at e;cases e;cases d
        · rw[ha] at e;cases e;cases d
    have nsK:∀{b:Addr} {m:Str→Option Value},s₁.heap.Ns b m→(hidT s₁.heap (nG a o T q)).Ns b m:=fun {b m} ⟨u,es,ep,e,d,r⟩=>⟨u,es,ep,base_of e (afF e d),d,r⟩
    have hKb:K.In (hidT s₁.heap (nG a o T q)):=fun b u e=>base_of (KX b u e) (by
      cases z:nG a o T q b with
      |none=>rfl
      | some y=>
        rcases hH b y z with⟨rfl,_⟩ |⟨rfl,_,no⟩
        · have e1:=KX b u e
          rw[hT] at e1;cases e1
          have h2:=List.all_eq_true.mp hnt (b,PySem.W.tabObj #[]) (PySem.W.mem_of_lookupK e)
          exact absurd (show false=true from h2) Bool.false_ne_true
        · rw[hK no] at e;cases e)
    have hM:Mod K mg (hidT s₁.heap (nG a o T q)):=⟨hKb,nsK hns,⟨mb,nsK hb,hbb⟩,let ⟨mc,h1,h2⟩:=hlim;⟨mc,nsK h1,h2⟩⟩
    have nb:qw (hidT s₁.heap (nG a o T q)) mg c T:=by
      refine⟨?_,?_⟩
      · obtain⟨oc,v,file,tf,flags,tg,inF,text,tt,e1,e2,r⟩:=hC
        exact⟨oc,v,file,tf,flags,tg,inF,text,tt,base_of e1 (free e1 (by rw[e2];nofun) (by rw[e2];nofun)),e2,r⟩
      · obtain⟨bm,ob,b1,b2,b3,b4,r⟩:=hbm
        exact⟨bm,ob,b1,b2,base_of b3 (free b3 (by rw[b4];nofun) (by rw[b4];nofun)),b4,r⟩
    have e0:Env0 P w K mg (hidT s₁.heap (nG a o T q)) callerA [] s₁ (nG a o T q):=⟨rfl,hM,fun b o e=>of_hidT e,Nat.le_of_eq (hidT_size _ _),trivial,fun b hb=>absurd (show b∈([]:List Addr) from hb) (by simp),hok,.of_eq hg⟩
    refine codeAny_mono ((F _ hKb (nsK hns) nb).run callerA [] s₁ (nG a o T q) ⟨[.ref a],[]⟩ [.ref a] [.ref a] _ _ hr e0 (hbind s₁ (.ref a)) (.cons rfl .nil) (hsp _ tb hS)) fun r s' h=>?_
    cases r with
    |error e=>exact h.elim
    | ok fl =>
      cases fl with
      |next=>exact False.elim h
      |brk=>exact False.elim h
      |cont=>exact False.elim h
      | ret u =>
        obtain⟨v,H',os,bare,un,hok',r',z⟩:=h
        have z:v= .bl true:=z
        subst z
        obtain rfl:u=Value.bool true:=r'
        have each:∀b o,s₁.heap.get? b=some o→s'.heap.get? b=some o∨(b=T∧o=PySem.W.tabObj #[]∧∃qs,s'.heap.get? b=some (PySem.W.tabObj qs)):=fun b ob e=>by
          cases z:nG a o T q b with
          |none=>exact .inl (un.keep b ob e z (by intro y;exact absurd (show b∈([]:List Addr) from y) (by simp)) (by simp))
          | some y=>
            rcases hH b y z with⟨rfl,rfl⟩ |⟨rfl,rfl,_⟩
            · obtain⟨more,z2⟩:=un.tbls _ _ z
              obtain⟨qs,e2,_⟩:=hok' _ _ z2
              rw[hT] at e;cases e
              exact .inr ⟨rfl,rfl,qs,e2⟩
            · have z2:=un.frzs _ _ _ z
              obtain⟨e1,_⟩:=hok _ _ z
              obtain⟨e2,_⟩:=hok' _ _ z2
              rw[e] at e1;cases e1
              exact .inl e2
        refine⟨rfl,⟨fun b ob e=>?_,fun b ob e=>?_⟩,os,bare⟩
        · rcases each b ob e with z |⟨rfl,rfl,qs,z⟩
          · exact .inl z
          · exact .inr (.inl ⟨(hC.tab hT).isCodeTable,rfl,#[],qs,rfl,by rw[Array.empty_append];exact z⟩)
        · rcases each b ob e with z |⟨rfl,rfl,qs,z⟩
          · exact⟨_,z⟩
          · exact⟨_,z⟩
  cases hk:K.lookup a with
  | some o=>
    have e:=KX a o hk
    rw[ha] at e
    cases e
    exact core none (.inl rfl) (.inr ⟨_,vs.toArray,_,hk,rfl,rfl,rfl,by rw[List.size_toArray,lenV];exact hl,by simpa using rv⟩) fun z=>absurd rfl z
  |none=>exact core _ (.inr rfl) (.inl (.inr ⟨_,(if_neg aT).trans (if_pos rfl)⟩)) fun _=>hk
def zH (K:PySem.W.Frag) (mg:Str->Option Value) (x:Str) (c:Addr):Prop:=∀f oc od fd osl,mg x=some (.ref f)->K.lookup f=some ⟨oc,od,.func fd,osl⟩->fd.code= .ref c
theorem afG {l:PySem.W.OpenLaw} {p:Program} {loose:List Str} {XP:(Str->Option Value)->Heap->Prop} {YP:World->Heap->Prop} {d:DefRec} {K:Params->PySem.W.Frag} {x q:Str} {FL:List D->R D}
  (hn:l.most=some n) (hn2:n<=sizeLine) (hdf:d.params.defaults=[]) (hr:Room k callerA)
  (hY:∀(w:World) (h:Heap),YP w h->(K w.params).In h) (hnt:∀w:World,PySem.W.noTabs (K w.params)=true) (hrec:∃dy∈recsOf p,dy.name=y)
  (F:∀(w:World) (mg:Str->Option Value) (fa:Addr) (h:Heap),(K w.params).In h->h.Ns mainGlobals mg->mg d.name=some (.ref fa)->
   ∃ fd:FuncData,(∀(s:Shared) (u:Value),BindsTo s fd ⟨[u],[]⟩ [(x,u)])/\
    ∀(base:Heap) (c T:Addr),(K w.params).In base->base.Ns mainGlobals mg->qw base mg c T->zH (K w.params) mg y c->FnOk l.prog w (K w.params) mg base CX0 k fa fd [x] (spT [(T,q)] (K w.params) 1 FL))
  (hL:∀ns:List Int,ns.length<=n->FL [.lst (ns.map D.int)]= .ok (.bl true)):
  PySem.W.WalkO p loose XP YP l.row.toRowW d [] (λ f vs=>PySem.call f vs):=by
 refine Att.attach_call hn hdf λ w s₀ s₁ mg mb fa o pm cd doc a vs ns G Y ho hd hcd hmg hobj hints hlen hg=>?_;have KX:=hY w _ Y;obtain⟨fd,hb,hF⟩:=F w mg fa _ KX G.T.g hmg;obtain⟨dy,Wu,rfl⟩:=hrec;obtain⟨f',o',fd',c,T,t1,t2,t3,t4,t5,t6⟩:=G.T.tab dy Wu;have hci:zH (K w.params) mg dy.name c:=λ f oc od fd2 osl e1 e2=>by
  rw[t1] at e1;cases e1;have e3:=KX _ _ e2;rw[t2] at e3;cases e3;cases t3;exact t4
 exact W4 (q:=q) KX G.T.g G.T.b G.T.builtins G.T.nolimit hg hobj hints (z0b hlen hn2) hr (PySem.W.CodeHd.of t5 t6) t6.2 (hnt w) G.T.bmain (λ base h1 h2 h3=>hF base c T h1 h2 h3 hci) hb λ H tb hS=>⟨tb,sp_law hS (hL ns hlen)⟩
section
variable {X:Cx} {e lo hi:Expr} {f g:ao->R D} {fl fu:ao->R (Option Int)} {pos p2 p3 p4:Pos}
def abO (d:D) (lo hi:Option Int):R D:=match d with
 | .lst ds=> .ok (.lst (j9 ds lo hi))
 |_=> .bad
def nJ (f:ao->R D) (fl fu:ao->R (Option Int)):ao->R D:=λ ρ=>(f ρ).bind λ d=>(fl ρ).bind λ l=>(fu ρ).bind λ u=>abO d l u
theorem zJ {lo hi:Option Expr} (he:DE X e f) (hl:RL X lo fl) (hu:RL X hi fu):DE X (.Subscript e (.Slice lo hi none p2) pos) (nJ f fl fu):=by
 refine PE.imp (pe_slice sl_list he hl hu) λ σ H Q h=>?_;obtain⟨ρ,O,j,h⟩:=h;refine go j h λ d v H1 e1 s1 r1 j1 h1=>?_;refine go j1 h1 λ l l' H2 e2 s2 r2 j2 h2=>?_;refine go j2 h2 λ u u' H3 e3 s3 r3 j3 h3=>?_;have r2:l=l':=r2;have r3:u=u':=r3;subst r2 r3;cases d with
 | lst ds=>
  have r1':=(r1.same s2).same s3;obtain⟨a,xs,rfl,hq,hn,rs⟩:=r1'.lst;have hlen:=rs.length;refine⟨a,xs,rfl,hq,λ p hp=>?_⟩;refine h3 _ _ (Same.upd hp) (Rep.nD hp (j3.qR hp) ?_);unfold j9 cutV;rw[hlen];exact (rs.drop _).take _
 |_=>exact h3.elim
theorem abP {kk} {te:TE} (he:PE X e te):PE X (.Subscript e (.Slice none none (some (.UnaryOp .USub (.Constant (.int 1) kk p3) p4)) p2) pos) (λ σ H Q=>te σ H λ x H1=>∃a xs,x= .ref a/\SqL X.K H1 a xs/\∀p,H1 p=none->Q (.ref p) (upd H1 p (.lst xs.reverse))):=by
 intro pins s σ H Q I h;refine Subscript_ (thn (he pins s σ H _ I h) λ v s1 bH=>?_);obtain⟨x,H1,I1,r1,q1⟩:=bH;obtain⟨a,xs,rfl,hq,q⟩:=q1;cases r1;refine wpAny_Slice ?_;rw[evalPart_none,evalPart_some];refine wpAny_pure (wpAny_pure ?_);refine thn (pe_un (X:=X) un_neg pe_int pins s1 σ H1 (λ y H2=>y= .int (-1)/\H2=H1) I1 ⟨1,rfl,rfl,rfl⟩) λ vs s2 bH=>?_;obtain⟨y,H2,I2,r2,ey,eH⟩:=bH;subst ey;subst eH;obtain⟨t,rfl⟩:=r2;have I4:Inv X pins σ H2 {s2 with heap:=s2.heap.push {cls:= .type "slice",data:= .fields #[.none,.none,.int (-1) t]}}:=I2.kept (t':=s2.toks) λ b ob q=>z1a _ q;obtain⟨its,rv,ht,hz⟩:=I4.list hq;have hlen:=rv.length;show wpAny (model X.prog X.w) X.A (subscriptTail e (.Slice none none (some (.UnaryOp .USub (.Constant (.int 1) kk p3) p4)) p2) (.ref a) (.ref s2.heap.objs.size)) (EP X pins σ Q) X.xe {s2 with heap:=s2.heap.push {cls:= .type "slice",data:= .fields #[.none,.none,.int (-1) t]}};refine tail_any (ops:=[.ref a,.ref s2.heap.objs.size]) ht.isList.typeIs slot_list_getitem.lookup (wpAny_getItem_list_slice ht.isList (Heap.IsSliceOf.new ..) .none .none (.int (-1) t) (by simp) ?_ (by rw[z1c];omega)) (by with_unfolding_all rfl);rw[PySem.W.krv_pick];refine⟨.ref _,_,I4.laid (t':=s2.toks) (o:= .lst xs.reverse) (λ b ob q=>z1a _ q) (z0g _) ?_,rfl,q _ (I4.hok.fresh (z0g _))⟩;exact⟨by rw[List.length_reverse];exact hz,its.reverse,0,Vals.rev rv,(by have e:its.toArray.toList.reverse=its.reverse:=(by simp);rw[e];exact z1f _ rfl)⟩
def afH:D->R D
 | .lst ds=> .ok (.lst ds.reverse)
 |_=> .bad
def Lh (f:ao->R D):ao->R D:=λ ρ=>(f ρ).bind afH
theorem abQ {kk} (he:DE X e f):DE X (.Subscript e (.Slice none none (some (.UnaryOp .USub (.Constant (.int 1) kk p3) p4)) p2) pos) (Lh f):=by
 refine PE.imp (abP he) λ σ H Q h=>?_;obtain⟨ρ,O,j,h⟩:=h;refine go j h λ d v H1 e1 s1 r1 j1 h1=>?_;cases d with
 | lst ds=>
  obtain⟨a,xs,rfl,hq,hn,rs⟩:=r1.lst;exact⟨a,xs,rfl,hq,λ p hp=>h1 _ _ (Same.upd hp) (Rep.nD hp (j1.qR hp) rs.reverse)⟩
 |_=>exact h1.elim
def R8 (i:Nat) (f:ao->R D):ao->R D:=λ ρ=>match ρ[i]? with
 |some (some (.lst ds))=>(f ρ).bind λ d=>bF (.lst ds) d
 |_=> .bad
theorem W5 (i:Nat) {x:Str} (hb:DE X e f) (hs:PlainIx e:=by exact λ _ _=>rfl) (hN:X.N[i]?=some x:=by rfl) (hv:Vis X.env.scope x:=by first |exact Or.inl rfl |exact Or.inr (Or.inl rfl) |exact Or.inr (Or.inr rfl))
  (hd:(x ==("__debug__" :Str))=false:=by decide) (hcd:(x ==("__classdict__" :Str))=false:=by decide):DE X (.Subscript (.Name x px) e pos) (R8 i f):=by
 refine PE.imp (pe_ix ix_seq (pe_var hN hv hd hcd) hb hs) λ σ H Q h=>?_;obtain⟨ρ,O,j,h⟩:=h;unfold R8 at h;split at h
 ·rename_i ds q;obtain⟨v,hv1,a,xs,rfl,hO,hH,rs⟩:=j.env.get i _ q;refine⟨.ref a,hv1,?_⟩;refine go j h λ d y H1 e1 s1 r1 j1 h1=>?_;cases d with
  | int k=>
   have h':good X (rD X) O (match L2.atI ds k with |some d=>R.ok d |none=>R.bad) σ H1 Q:=h1;cases e2:L2.atI ds k with
   |none=>rw[e2] at h';exact h'.elim
   | some d=>
    rw[e2] at h';obtain⟨v,e3,rv⟩:=(rs.same s1).atI e2;exact .inl ⟨a,xs,k,v,rfl,r1.int,SqL.of (s1 _ _ hH),e3,fin h' rv⟩
  |_=>exact h1.elim
 ·exact h.elim
end
section
variable {X:Cx} {pos:Pos}
def Mx (i k:Nat):ao->So:=λ ρ=>match ρ[i]?,ρ[k]? with
 |some (some (.lst ds)),some (some (.lst es))=>if ds.length < 1000000 then .nx ((ρ.set i (some (.lst (ds++[.lst es])))).set k (some (.val (.lst es)))) else .bad
 |_,_=> .bad
theorem At.give {H0:Hp} {O0 O:Addr->Prop} (j:At X H0 O0 O H ρ σ) {es:List D} {b:Addr} (hk:ρ[k]?=some (some (.lst es))) (hb:σ[k]?=some (some (.ref b))):
  At X H0 O0 (λ a=>O a/\a≠b) H (ρ.set k (some (.val (.lst es)))) σ/\eF X.K O H (λ a=>O a/\a≠b) H:=by
 obtain⟨hH0,hO0⟩:=j.mine k _ b hk rfl hb;have rc:eF X.K O H (λ a=>O a/\a≠b) H:=⟨⟨λ _ _ z=>z,λ _ _ _ z=>z⟩,λ a z=> .inl z.1,λ _ z=>z⟩;have hkl:k < ρ.length:=(z1b hk).1;obtain⟨v,hv,b',xs,e1,hO,hH,rs⟩:=j.inn.env.get k _ hk;rw[hb] at hv;cases hv;cases e1;refine⟨⟨j.same,j.dJ.trans rc,λ a z=>⟨j.sub a z,λ e=>hO0 (e▸z)⟩,⟨⟨λ m e q=>?_,λ m l e e' u hml hm hl om ol sm sl=>?_⟩,λ a z=>j.inn.al a z.1,j.inn.len,by rw[List.length_set];exact j.inn.m9⟩,λ m e a q ho hs=>?_⟩,rc⟩
 ·by_cases hmk:m=k
  ·subst hmk;rw[z2a hkl] at q;cases q;exact⟨_,hb,gG (SqL.of hH) (λ z=>z.2 rfl) (rs.go rc)⟩
  ·rw[z1e (Ne.symm hmk)] at q;obtain⟨v,q1,q2⟩:=j.inn.env.get m e q;refine⟨v,q1,?_⟩;have nb:e.own=true->v≠.ref b:=λ oe z=>by subst z;exact j.inn.env.sep m k _ _ _ hmk q hk oe rfl q1 hb
   cases e with
   |val d=>exact Rep.go rc q2
   |obj t=>exact q2
   | lst ds=>
    obtain⟨a,ys,e2,o2,h2,r2⟩:=q2;exact⟨a,ys,e2,⟨o2,λ z=>nb rfl (by rw[e2,z])⟩,h2,r2.go rc⟩
   | za kvs=>
    obtain⟨a,ys,e2,o2,h2,kk,r2⟩:=q2;exact⟨a,ys,e2,⟨o2,λ z=>nb rfl (by rw[e2,z])⟩,h2,kk,r2.go rc⟩
 ·have un:∀{m:Nat} {x:Ent},(ρ.set k (some (.val (.lst es))))[m]?=some (some x)->x.own=true->ρ[m]?=some (some x):=λ {m x} h ho=>by
   by_cases hmk:m=k
   ·subst hmk;rw[z2a hkl] at h;cases h;cases ho
   ·rw[z1e (Ne.symm hmk)] at h;exact h
  exact j.inn.env.sep m l e e' u hml (un hm om) (un hl ol) om ol sm sl
 ·by_cases hmk:m=k
  ·subst hmk;rw[z2a hkl] at q;cases q;cases ho
  ·rw[z1e (Ne.symm hmk)] at q;exact j.mine m e a q ho hs
theorem abR (i k:Nat) {x:Str} {py apos cpos:Pos} (hik:i≠k) (hN:X.N[i]?=some x:=by rfl) (hNk:X.N[k]?=some y:=by rfl) (hv:Vis X.env.scope x:=by first |exact Or.inl rfl |exact Or.inr (Or.inl rfl) |exact Or.inr (Or.inr rfl)) (hvk:Vis X.env.scope y:=by first |exact Or.inl rfl |exact Or.inr (Or.inl rfl) |exact Or.inr (Or.inr rfl))
  (hd:(x ==("__debug__" :Str))=false:=by decide) (hcd:(x ==("__classdict__" :Str))=false:=by decide) (hdk:(y ==("__debug__" :Str))=false:=by decide) (agE:(y ==("__classdict__" :Str))=false:=by decide)
  (hbase:attributeBase (.Name x px) "append" X.env (eval (.Name x px) X.env)=eval (.Name x px) X.env:=by rfl)
  (hfew:((backTo cpos (starEach [.Name y py] X.env)).all (λ x=> !x.1) && (backToKw cpos (keywordEach [] X.env)).all (λ x=>x.1.isSome)
   && decide ([Expr.Name y py].length+([]:List Keyword).length+(if ([]:List Keyword).isEmpty then 0 else 1) < 30))=true:=by rfl)
  (hline:(apos.endLine ==cpos.line)=true:=by rfl) (hs1:starEach [.Name y py] X.env=(false,eval (.Name y py) X.env)::starEach [] X.env:=by rfl) (hplain:(backTo cpos (starEach [] X.env)).any (·.1)=false:=by rfl)
  (hs:swapsWith (.Call (.Attribute (.Name x px) "append" apos) [.Name y py] [] cpos) none pos.line X.env=pure false:=by rfl):
  DS X (.Expr (.Call (.Attribute (.Name x px) "append" apos) [.Name y py] [] cpos) pos) (Mx i k):=by
 refine PS.imp (ps_expr (pe_bm PySem.F.plainAttrs_list PySem.F.slot_list_append PySem.F.type_list_append mt_append (pe_var hN hv hd hcd) (pa_cons (pe_var hNk hvk hdk agE) pa_nil hs1) hbase hfew hline hs1 hplain) hs) λ σ H E h=>?_;obtain⟨H0,O0,O,ρ,j,h⟩:=h;unfold Mx at h;split at h
 ·rename_i ds es q1 q2;by_cases hl:ds.length < 1000000
  ·rw[if_pos hl] at h;obtain⟨v,hv1,a,xs,rfl,hO,hH,rs⟩:=j.inn.env.get i _ q1;obtain⟨v,hv2,b,ys,rfl,hO2,hH2,yO⟩:=j.inn.env.get k _ q2;have hab:a≠b:=λ z=>j.inn.env.sep i k _ _ _ hik q1 q2 rfl rfl hv1 (by rw[z];exact hv2);refine⟨.ref a,hv1,.inl ⟨rfl,xs,SqL.of hH⟩,.ref b,hv2,?_⟩;have hlen:=rs.length;refine⟨a,xs,.ref b,rfl,rfl,hH,by have:=gW;omega,?_⟩;obtain⟨j1,r1⟩:=j.give q2 hv2;have q1':(ρ.set k (some (.val (.lst es))))[i]?=some (some (.lst ds)):=by rw[z1e (Ne.symm hik)];exact q1
   obtain⟨j2,r2⟩:=j1.chg (o:= .lst (xs++[.ref b])) (en:= .lst (ds++[.lst es])) q1' rfl hv1 ⟨hO,hab⟩ hH trivial rfl λ r=>⟨a,xs++[.ref b],rfl,⟨hO,hab⟩,upd_same,by
    have z1:aN X.K (λ c=>O c/\c≠b) H (ds++[.lst es]) (xs++[.ref b]):=(rs.go r1).append (.cons (gG (SqL.of hH2) (λ z=>z.2 rfl) (yO.go r1)) .nil);exact z1.go r⟩
   rw[List.set_comm _ _ (Ne.symm hik)] at j2;exact h _ _ _ j2 (r1.trans r2)
  ·rw[if_neg hl] at h;exact h.elim
 ·exact h.elim
end
section
open PySem
theorem Ui (l b:Addr) (items:Array Value) (n:Nat) (items2:Array Value) (n2:Nat) (dd:Option Addr) (sl:Array (Option Value)) (hs0:¬(!items.isEmpty && Builtin.List.listTooLong (items.size+items2.size))=true) (hs1:items.size<=sizeLine) (hs2:items.size+items2.size<=sizeLine+1):
  Meets (Builtin.«list.__iadd__» ⟨[.ref l,.ref b],[]⟩) (λ _ R s=>s.heap.get? l=some {cls:= .type "list",dict:=none,data:= .seq items n,slots:= #[]}/\s.heap.get? b=some {cls:= .type "list",dict:=dd,data:= .seq items2 n2,slots:=sl}/\R (.ok (.ret (Value.ref l))) {s with heap:=s.heap.update l (Obj.mapSeq λ x=>x++items2),toks:=s.toks}):=
 .of_wp λ prog w A R s h=>by
  obtain⟨hp,g,d,tk,os⟩:=s;obtain⟨hl,hb,h⟩:=h;have f1:=AutoSeq1.idx_int;have f2:=AutoSeq1.sub_tuple_tuple;have f3:=AutoSeq1.sub_list_list;have f4:=AutoSeq1.sub_tuple_list;have f5:=AutoSeq1.sub_list_tuple;
  have hz':(items++items2).size<=sizeLine+1:=by rw[Array.size_append];exact hs2
  wp_walk using (wpAny_updateSeq hl rfl (hz:=hs1) (_hz':=hz')),wpAny_loadPart' hl,wpAny_loadPart' hb;exact⟨_,rfl,h⟩
end
section
variable {X:Cx} {e:Expr} {f:ao->R D} {pos:Pos}
theorem abS:PIp X .Add (λ x y H Q=>∃a b xs ys,x= .ref a/\y= .ref b/\H a=some (.lst xs)/\SqL X.K H b ys/\xs.length+ys.length<=1000000/\Q (.ref a) (upd H a (.lst (xs++ys)))):=by
 intro pins s σ H x y v u Q I rx ry h;obtain⟨a,b,xs,ys,rfl,rfl,ha,hb,hz,q⟩:=h;cases rx;cases ry;obtain⟨its,n,r,ho,hzl⟩:=I.lst ha;obtain⟨its2,r2,p2,hz2⟩:=I.list hb;obtain⟨⟨cls2,dd2,data2,sl2⟩,ho2,hc2,n2,hd2⟩:=id p2.isList;simp only at hc2 hd2;subst hc2 hd2;have l1:=r.length;have l2:=r2.length;have hsl:=gW;have hT:s.TypeIs (.ref a) "list" :=⟨_,ho,rfl⟩;have hT2:s.TypeIs (.ref b) "list" :=⟨_,ho2,rfl⟩;unfold inplaceOp;refine wpAny_holding ?_;have hfi:fillsInplaceSlot (.type "list") "add" (Operator.Add == .Add)=pure false:=by
  unfold fillsInplaceSlot;show (typeLookup (.type "list") (dunderI "add") >>=λ fi=>pure (fi.isSome && !isSeqSlot fi))=pure false;rw[PySem.F.slot_list_iadd.lookup,pure_bind,show isSeqSlot (some (.builtin "list.__iadd__"))=true from by decide +kernel];rfl
 refine wpAny_bind (wpAny_typeOf hT (wpAny_bind (wpAny_of_eq hfi ?_)));show wpAny _ _ (if false=true then _ else _) _ _ s;rw[if_neg Bool.false_ne_true];refine wpAny_bind (binaryOp1_none (nm:= "add") hT hT2 PySem.noFill_list_add ?_);refine wpAny_bind (wpAny_of_eq (PySem.seqSlot_of (T:= "list") (name:=dunderI "add") (id:= "list.__iadd__") PySem.F.slot_list_iadd.lookup (by decide +kernel)) ?_);refine wpAny_bind (wpAny_rule ?_);refine call_meets PySem.F.slot_list_iadd hT PySem.F.entry_list_iadd (PySem.F.args_list_iadd_2 _ _) (Ui a b its.toArray n its2.toArray n2 dd2 sl2 ?_ (by rw[z1c];omega) (by rw[z1c,z1c];omega)) ⟨ho,ho2,?_⟩
 ·rw[z1c,z1c];have:Builtin.List.listTooLong (its.length+its2.length)=false:=by unfold Builtin.List.listTooLong;exact decide_eq_false (by omega)
  rw[this];simp
 ·refine⟨.ref a,upd H a (.lst (xs++ys)),I.lset (its':=its++its2) ha ho (by simp) (r.append r2) (by rw[z1d];omega),rfl,q⟩
def xX (i:Nat) (f:ao->R D):ao->So:=λ ρ=>match ρ[i]? with
 | some (some (.lst ds))=>fj (Cj (f ρ)) ρ λ d=>match d with
  | .lst es=>if ds.length+es.length<=1000000 then .nx (ρ.set i (some (.lst (ds++es)))) else .bad
  |_=> .bad
 |_=> .bad
theorem Bv (i:Nat) {x:Str} (hN:X.N.Nodup) (he:DE X e f) (hi:X.N[i]?=some x:=by rfl) (hx:Loc X.env.scope x:=by first |exact Or.inl rfl |exact Or.inr rfl)
  (hf:X.fn x=true\/X.env.scope.names.lookup x=some .local:=by first |exact .inl rfl |exact .inr rfl):DS X (.AugAssign (.Name x pos') .Add e pos) (xX i f):=by
 refine PS.imp (ps_aug hN hi hx he abS hf) λ σ H E h=>?_;obtain⟨H0,O0,O,ρ,j,h⟩:=h;unfold xX at h;split at h
 ·rename_i ds q;obtain⟨v,hv1,a,xs,rfl,hO,hH,rs⟩:=j.inn.env.get i _ q;refine⟨.ref a,hv1,ρ,O,j.inn,?_⟩;unfold fj at h;cases e1:f ρ with
  |bad=>rw[e1] at h;exact h.elim
  |err c=>rw[e1] at h;exact h.elim
  | ok d =>
   rw[e1] at h;intro w H1 s1 rw1;cases d with
   | lst es=>
    have h:rN X H0 O0 O H E (if ds.length+es.length<=1000000 then .nx (ρ.set i (some (.lst (ds++es)))) else .bad):=h;by_cases hl:ds.length+es.length<=1000000
    ·rw[if_pos hl] at h;have j1:=j.grow s1;obtain⟨b,ys,rfl,hb,hnb,yO⟩:=rw1.lst;have rs1:=rs.same s1;have hH1:=s1 _ _ hH;refine⟨a,b,xs,ys,rfl,rfl,hH1,hb,by rw[<-rs1.length,<-yO.length];exact hl,?_⟩;obtain⟨j2,r2⟩:=j1.chg (o:= .lst (xs++ys)) (en:= .lst (ds++es)) q rfl hv1 hO hH1 trivial rfl λ r=>⟨a,xs++ys,rfl,hO,upd_same,(rs1.append yO).go r⟩;have eσ:σ.set i (some (V.ref a))=σ:=by
      apply List.ext_getElem?;intro m;by_cases hm:m=i
      ·subst hm;rw[z2a (z1b hv1).1,hv1]
      ·rw[z1e (Ne.symm hm)]
     rw[eσ];exact h _ _ _ j2 ((Same.dJ s1).trans r2)
    ·rw[if_neg hl] at h;exact h.elim
   |_=>exact h.elim
 ·exact h.elim
end
def Its (lo:Int) (n:Nat) (c:Int):It:=⟨λ i _=>i < n,λ i H x H'=>H'=H/\x= .int (lo+i*c),λ i _=>n<=i⟩
theorem W6 (it:Addr) (lo:Int) (n:Nat) (c:Int):Turn P w K tg (Its lo n c) [it] it (λ i h=>IsRangeIter h it (lo+(i:Nat)*c) ((n:Int) - (i:Nat)) c) where
 mem:=by simp
 obj :=λ i h st b hb=>by
  have e:b=it:=by simpa using hb
  subst e;exact⟨_,st,λ v z=>by
   have z':Data.fields _=Data.cell v:=z;cases z'⟩
 keep:=λ i h h' st k=>k it (by simp) _ st
 item:=by
  intro X hP hw hK hc i pins s σ H E I hf st hg;subst hP hw hK;obtain⟨f0,f1,f2,f3,f4,f5⟩:=hf it (by simp);have W:=Walks.range (prog:=X.prog) (w:=X.w) (I.ok.hd hc) it lo c n;refine W.item i s _ _ hg st λ v h' tk hv st' kk=>?_;obtain⟨t,rfl⟩:=hv;have I1:Inv X pins σ H {s with heap:=h',toks:=tk}:=I.turned (λ b o hb e=>kk b o (by simpa using hb) e) f0 f1 f3 f4 f5;exact⟨_,rfl,go_of (s:={s with heap:=h',toks:=tk}) (n:= "range_iterator") st' rfl rfl (by decide) ⟨.int (lo+i*c),H,I1,⟨t,rfl⟩,⟨rfl,rfl⟩,st',λ b hb=>(hf b hb).1⟩⟩
 done:=by
  intro X hP hw hK hc i pins s σ H E I hf st hg;subst hP hw hK;obtain⟨f0,f1,f2,f3,f4,f5⟩:=hf it (by simp);exact wpAny_pyNext_range_end (I.ok.hd hc) st (by have:n<=i:=hg;omega) λ h' eb=>⟨rfl,I.turned (t':=s.toks) (λ b o hb e=>eb b o hb e) f0 f1 f3 f4 f5⟩
 self:=λ _ _ _ _ _ st h=>wpAny_pyIter_rangeiter st h
def qI (hi:Int) (n:Nat):List D:=(List.range n).map λ (i:Nat)=>D.int (hi - (i:Int))
theorem YR.step {O:Addr->Prop} (hi:Int) (n:Nat):YR K O H (Its hi n (-1)) (qI hi n):=by
 intro O' H' _;intro i;refine⟨λ d e=>?_,λ e=>?_⟩
 ·unfold qI at e;rw[z2b] at e;cases q:(List.range n)[i]? with
  |none=>rw[q] at e;cases e
  | some k=>
   rw[q] at e;have hk:i < n/\i=k:=by simpa[List.getElem?_range] using (z1b q)
   obtain⟨h1,rfl⟩:=hk;cases e;refine⟨h1,λ x H2 y=>?_⟩;obtain⟨rfl,rfl⟩:=y;exact⟨Same.refl _,by rw[show hi+(i:Int)*(-1)=hi - (i:Int) by omega];exact cB _⟩
 ·show n<=i;unfold qI at e;simpa using e
section
variable {X:Cx} {tg a b c:Expr} {p pos p2 pos2:Pos} {fa:ao->R (List D)} {ta:TA}
def agQ:List D->R (List D)
 |[.int i,.int j,.int k]=>if k= -1/\-(2 ^ 62)<=i/\i < 2 ^ 62/\-(2 ^ 62)<=j/\j < 2 ^ 62 then .ok (qI i (i - j).toNat) else .bad
 |_=> .bad
end
section
variable {prog:Program} {w:World} {A:Around} {E:Value->Shared->Prop} {s:Shared}
theorem FQ (r:Addr) (j:Int) (t u v:Tok) (h0:0<=j) (h1:j<=1000):Meets (Builtin.«range.__reversed__» ⟨[.ref r],[]⟩) (λ _ R s=>IsRange s.heap r 0 j 1 t u v/\R (.ok (.ret (.ref s.heap.objs.size))) {s with heap:=s.heap.push {cls:= .type "range_iterator",data:= .fields #[rawInt (j - 1),rawInt j,rawInt (-1)]}}):=
 .of_wp λ prog w A R s h=>by
  obtain⟨hp,g,d,tk,os⟩:=s;obtain⟨hr,h⟩:=h;have e1:Builtin.Range.rangeSize 0 j 1=j:=by rw[rangeSize_one];split <;> omega
  have e2:(Builtin.Range.rangeFitsLong 0 && Builtin.Range.rangeFitsLong j && Builtin.Range.rangeFitsLong 1 && Builtin.Range.rangeFitsLong (-1) && Builtin.Range.rangeFitsLong (0 - 1) && Builtin.Range.rangeFitsLong j)=true:=by
   simp only[Builtin.Range.rangeFitsLong,Bool.and_eq_true,decide_eq_true_eq];omega
  have e3:(0:Int)+(j - 1)*1=j - 1:=by omega
  unfold Builtin.«range.__reversed__» Builtin.Range.rangeFields
  wp_walk using wpAny_loadPart' hr
  rw[e1];simp only[e2,e3,Bool.not_true,Bool.false_eq_true,if_false,if_true];unfold newFields;refine wpAny_bind (wpAny_newObj_type (wpAny_pure ⟨_,rfl,h⟩) (by size_fits))
theorem FW:isSubtype (.type "range_iterator") (.type "reversed")=pure false:=by rw[isSubtype_type];kernel_rfl
theorem Ir {r:Addr} {j:Int} {t u v:Tok} {Q₁:Value->Shared->Prop} (h0:0<=j) (h1:j<=1000) (hr:IsRange s.heap r 0 j 1 t u v)
  (h:Q₁ (.ref s.heap.objs.size) {s with heap:=s.heap.push {cls:= .type "range_iterator",data:= .fields #[rawInt (j - 1),rawInt j,rawInt (-1)]}}):
  codeAny (model prog w) A (.call (.builtin "reversed.__new__") ⟨[.type "reversed",.ref r],[]⟩) (wants Q₁ E) s:=by
 have hT:s.TypeIs (.ref r) "range" :=⟨_,hr,rfl⟩;refine codeAny_of_tree ?_;show wpAny _ A.in1 (do checkBuiltinCall "reversed.__new__" ⟨[.type "reversed",.ref r],[]⟩;again (.builtin "reversed.__new__" ⟨[.type "reversed",.ref r],[]⟩)) _ _ s;refine wpAny_bind (wpAny_of_eq (PySem.F.newCall_reversed_1 _) (wpAny_pure ⟨plainId_quiet PySem.F.plain_reversed_new _,codeAny_builtin PySem.F.entry_reversed_new ?_⟩));rw[Around.under_plainId PySem.F.plain_reversed_new _];unfold Builtin.«reversed.__new__»;refine wpAny_bind (wpAny_of_eq (newClass_reversed _) ?_)
 try dsimp only
 refine wpAny_bind (wpAny_of_eq (a:=()) (by first |rfl |kernel_rfl) ?_);refine wpAny_bind (wpAny_of_eq (a:=()) (by first |rfl |kernel_rfl) ?_)
 try dsimp only
 refine wpAny_bind (wpAny_specialOf hT PySem.F.slot_range_reversed.lookup ?_)
 try dsimp only
 refine wpAny_bind (wpAny_of_eq (PySem.F.slot_range_reversed.bind _) ?_)
 try dsimp only
 first
 |rw [if_neg (show ¬((Value.builtin "range.__reversed__" ==Value.none)=true) from Bool.false_ne_true)]
 |(show wpAny _ _ (if (Value.builtin "range.__reversed__" ==Value.none)=true then _ else _) _ _ _;rw[if_neg (show ¬((Value.builtin "range.__reversed__" ==Value.none)=true) from Bool.false_ne_true)])
 refine wpAny_bind (wpAny_rule ?_);refine wpAny_bind (m:=runValue (.call (.builtin "range.__reversed__") ⟨[.ref r],[]⟩)) (show wpAny _ _ (call (.builtin "range.__reversed__") [.ref r]) _ _ _ from call_meets PySem.F.slot_range_reversed hT PySem.F.entry_range_reversed (PySem.F.args_range_reversed_1 _) (FQ r j t u v h0 h1) ⟨hr,?_⟩)
 first
 |exact wpAny_pure h
 |exact wpAny_bind (wpAny_pure (wpAny_pure h))
theorem Iu {r:Addr} {j:Int} {t u v:Tok} (h0:0<=j) (h1:j<=1000) (hr:IsRange s.heap r 0 j 1 t u v)
  (h:Q (.ref s.heap.objs.size) {s with heap:=s.heap.push {cls:= .type "range_iterator",data:= .fields #[rawInt (j - 1),rawInt j,rawInt (-1)]}}):wpAny (model prog w) A (call (.type "reversed") [.ref r]) Q E s:=by
 refine callType_other (U:= "range_iterator") (Q₁:=λ obj s₁=>obj= .ref s.heap.objs.size/\s₁={s with heap:=s.heap.push {cls:= .type "range_iterator",data:= .fields #[rawInt (j - 1),rawInt j,rawInt (-1)]}}) (by decide +kernel) PySem.F.create_reversed ⟨_,_,PySem.F.mro_reversed⟩ PySem.F.made_reversed FW (PySem.F.typeCall_reversed_1 _) (Ir h0 h1 hr ⟨rfl,rfl⟩) ?_
 rintro obj s₁ ⟨rfl,rfl⟩
 exact⟨⟨_,z1f _ rfl,rfl⟩,h⟩
end
section
variable {X:Cx} {tg a:Expr} {p pos p2 pos2:Pos} {fa:ao->R (List D)}
def zK:List D->R (List D)
 |[.int j]=>if 0<=j/\j<=1000 then .ok (qI (j - 1) j.toNat) else .bad
 |_=> .bad
theorem R9 (hg:Gl X "reversed") (hm:X.mg "reversed" =none) (hg2:Gl X "range") (hm2:X.mg "range" =none) (ha:DA X [a] fa) (hs:starEach [a] X.env=[(false,eval a X.env)]:=by rfl)
  (he:starEach [.Call (.Name "range" p2) [a] [] pos2] X.env=(false,eval (.Call (.Name "range" p2) [a] [] pos2) X.env)::starEach [] X.env:=by rfl) (hpl:(backTo pos (starEach [] X.env)).any (·.1)=false:=by rfl):
  DI X tg (.Call (.Name "reversed" p) [.Call (.Name "range" p2) [a] [] pos2] [] pos) (λ ρ=>(fa ρ).bind zK):=by
 intro pins s σ H R I h;have A:=pa_cons (adF (p:=p2) (pos:=pos2) hg2 hm2 ha hs) pa_nil he;obtain⟨ρ,O,jn,h⟩:=h;have key:tCons (adE X.K (tG X (Rw X) fa)) tNil σ H (λ vs H1=>∃q j,vs=[.ref q]/\H1 q=some (.rng 0 j)/\0<=j/\j<=1000/\R (Its (j - 1) j.toNat (-1)) H1):=by
  refine go jn h λ ds vs H1 e1 s1 r1 j1 h1=>?_;unfold zK at h1;split at h1
  ·rename_i j;by_cases hh:0<=j/\j<=1000
   ·rw[if_pos hh] at h1;obtain⟨v,rfl,w⟩:=r1.one;exact⟨j,by rw[w.int],hh.1,hh.2,λ q hq=>⟨q,j,rfl,upd_same,hh.1,hh.2,h1 _ _ (Same.upd hq) (YR.step _ _)⟩⟩
   ·rw[if_neg hh] at h1;exact h1.elim
  ·exact h1.elim
 refine Call_ (ld_blt I hg hm boot_reversed (PyProof.Rows.callWith_type1 (thn (A pos pins s σ H _ I key) λ us s1 ⟨vs,H1,I1,r1,q1⟩=>?_) he hpl));obtain⟨q,j,e,hq,h0,h1,q⟩:=q1;subst e;cases r1 with
 | cons r rr=>
  cases rr;cases r;obtain⟨t,u,v,hr⟩:=I1.hok _ _ hq;refine Iu h0 h1 hr ?_;have hit:IsRangeIter (s1.heap.push {cls:= .type "range_iterator",data:= .fields #[rawInt (j - 1),rawInt j,rawInt (-1)]}) s1.heap.objs.size (j - 1) j (-1):=z1f _ rfl;refine wpAny_pyIter_rangeiter (s:={s1 with heap:=s1.heap.push {cls:= .type "range_iterator",data:= .fields #[rawInt (j - 1),rawInt j,rawInt (-1)]}}) hit ?_;refine⟨s1.heap.objs.size,[s1.heap.objs.size],_,_,H1,rfl,I1.kept (t':=s1.toks) λ b o e=>z1a _ e,W6 _ (j - 1) j.toNat (-1),?_,λ b hb=>?_,q⟩
  ·show IsRangeIter _ _ (j - 1+((0:Nat):Int)*(-1)) (((j.toNat:Nat):Int) - ((0:Nat):Int)) (-1);rw[show j - 1+((0:Nat):Int)*(-1)=j - 1 by simp,show ((j.toNat:Nat):Int) - ((0:Nat):Int)=j by omega];exact hit
  ·have e:b=s1.heap.objs.size:=by simpa using hb
   subst e;exact I1.fpOk (z0g _) (I1.hok.fresh (z0g _))
end
end Pu
namespace Pu
open PySem PySem.Spec PySem.W L2
open PyProof.Rows hiding St
variable {a:Addr} {ts:List (List Int)} {ns:List Int}
def fZ:List Int->List Int->Bool
 |[],[]=>false
 |[],_::_=>true
 |_::_,[]=>false
 |x::xs,y::ys=>if x=y then fZ xs ys else decide (x < y)
theorem sV:∀a:List Int,fZ a a=false
 |[]=>rfl
 |x::xs=>by rw[fZ,if_pos rfl];exact sV xs
theorem nM:∀{a b c:List Int},fZ a b=true->fZ b c=true->fZ a c=true
 |[],[],_,h,_=>by cases h
 |[],_::_,[],_,h=>by cases h
 |[],_::_,_::_,_,_=>rfl
 |_::_,[],_,h,_=>by cases h
 |_::_,_::_,[],_,h=>by cases h
 | x ::a,y::b,z::c,h1,h2=>by
  rw[fZ] at h1 h2 |-;by_cases e1:x=y
  ·rw[if_pos e1] at h1;subst e1;by_cases e2:x=z
   ·rw[if_pos e2] at h2 |-;exact nM h1 h2
   ·rw[if_neg e2] at h2 |-;exact h2
  ·rw[if_neg e1] at h1;have h1:x < y:=of_decide_eq_true h1;by_cases e2:y=z
   ·subst e2;rw[if_neg e1];exact decide_eq_true h1
   ·rw[if_neg e2] at h2;have h2:y < z:=of_decide_eq_true h2;rw[if_neg (by omega)];exact decide_eq_true (by omega)
theorem Bw:∀{a b:List Int},a≠b->fZ a b=false->fZ b a=true
 |[],[],h,_=>absurd rfl h
 |[],_::_,_,h=>by cases h
 |_::_,[],_,_=>rfl
 | x ::a,y::b,h,e=>by
  rw[fZ] at e |-;by_cases e1:x=y
  ·subst e1;rw[if_pos rfl] at e |-;exact Bw (λ z=>h (by rw[z])) e
  ·rw[if_neg e1] at e;rw[if_neg (λ z=>e1 z.symm)];have e:¬x < y:=of_decide_eq_false e;exact decide_eq_true (by omega)
section
variable {prog:Program} {w:World} {A:Around} {E:Value->Shared->Prop} {s:Shared}
theorem Qn {b:Addr} {oa ob:Obj} {xs ys:Array Value} {na nb:Nat} {ms:List Int} {P:PySem.Fin->Shared->Prop} (hoa:s.heap.get? a=some oa) (hda:oa.data= .seq xs na) (hob:s.heap.get? b=some ob) (hcb:ob.cls= .type "tuple") (hdb:ob.data= .seq ys nb)
  (hia:IntsAre xs.toList ns) (hib:IntsAre ys.toList ms) (h:P (.done (.ret (.bool (fZ ns ms)))) s):
  wpAny (model prog w) A (Builtin.«tuple.__lt__» ⟨[.ref a,.ref b],[]⟩) P E s:=by
 have hTb:s.TypeIs (.ref b) "tuple" :=⟨ob,hob,hcb⟩;show wpAny _ _ (isInstance (.ref b) (.type "tuple") >>=_) _ _ s;refine wpAny_bind (wpAny_isInstance hTb isSubtype_tuple_tuple ?_);simp only[Bool.not_true,Bool.false_eq_true,if_false];refine wpAny_bind (wpAny_tupleItemsOf hoa hda ?_);refine wpAny_bind (wpAny_tupleItemsOf hob hdb ?_);refine wpAny_bind ?_;refine wpAny_forIn_list _
  (λ rest r s'=>r.1=none/\s'=s/\∃xs' ys' ns' ms',rest=List.zip xs' ys'/\IntsAre xs' ns'/\IntsAre ys' ms'/\fZ ns' ms'=fZ ns ms/\decide (xs'.length < ys'.length)=decide (xs.size < ys.size))
  _ ?_ ?_ _ _ ⟨rfl,rfl,xs.toList,ys.toList,ns,ms,rfl,hia,hib,rfl,by simp⟩
 ·rintro ⟨u,v⟩ rest r s' ⟨hr,rfl,xs',ys',ns',ms',hz,hx',hy',hdec,hlen⟩
  cases hx' with
  |nil=>simp at hz
  | cons k1 t1 hx''=>
   cases hy' with
   |nil=>simp at hz
   | cons k2 t2 hy''=>
    simp only[List.zip_cons_cons,List.cons.injEq,Prod.mk.injEq] at hz;obtain⟨⟨rfl,rfl⟩,rfl⟩:=hz;refine wpAny_bind (wpAny_eqBool_int ?_);rw[fZ] at hdec;by_cases hk:k1=k2
    ·subst hk;rw[if_pos rfl] at hdec;simp only[beq_self_eq_true,Bool.not_true,Bool.false_eq_true,if_false];exact wpAny_pure ⟨rfl,rfl,_,_,_,_,rfl,hx'',hy'',hdec,by simpa using hlen⟩
    ·rw[if_neg hk] at hdec;have e:(k1 ==k2)=false:=by simpa using hk
     rw[e];simp only[Bool.not_false,if_true];rw[<-hdec] at h;refine wpAny_bind (wpAny_rule ?_);refine wpAny_bind (m:=richCompare .Lt (.int k1 t1) (.int k2 t2)) (show wpAny _ _ (compareOp .Lt (.int k1 t1) (.int k2 t2)) _ _ _ from lt_int ?_)
     first
      |exact wpAny_pure (wpAny_pure h)
      |exact wpAny_bind (wpAny_pure (wpAny_pure (wpAny_pure h)))
      |exact wpAny_bind (wpAny_pure (wpAny_pure h))
 ·rintro⟨r1,r2⟩ s' ⟨hr,rfl,xs',ys',ns',ms',hz,hx',hy',hdec,hlen⟩
  simp only at hr;subst hr;refine wpAny_pure ?_;have hfin:decide (xs.size < ys.size)=fZ ns ms:=by
   rw[<-hdec,<-hlen];cases hx' with
   | nil=>
    cases hy' with
    |nil=>rfl
    |cons _ _ _=>simp[fZ]
   | cons _ _ _=>
    cases hy' with
    |nil=>simp[fZ]
    |cons _ _ _=>simp at hz
  show P (.done (.ret (.bool (decide (xs.size < ys.size))))) s';rw[hfin];exact h
theorem abT {b:Addr} {oa ob:Obj} {xs ys:Array Value} {na nb:Nat} {ms:List Int} {Q:Value->Shared->Prop} (hu:A.units < cLine) (hoa:s.heap.get? a=some oa) (hca:oa.cls= .type "tuple") (hda:oa.data= .seq xs na) (hob:s.heap.get? b=some ob) (hcb:ob.cls= .type "tuple") (hdb:ob.data= .seq ys nb)
  (hia:IntsAre xs.toList ns) (hib:IntsAre ys.toList ms) (h:Q (.bool (fZ ns ms)) s):wpAny (model prog w) A (compareOp .Lt (.ref a) (.ref b)) Q E s:=by
 show wpAny _ _ (richCompare .Lt (.ref a) (.ref b)) _ _ _;exact wpAny_richCompare_same_room (op:= .Lt) ⟨oa,hoa,hca⟩ ⟨ob,hob,hcb⟩ PySem.F.slot_tuple_lt
   (wpAny_call_entry PySem.F.slot_tuple_lt ⟨oa,hoa,hca⟩ PySem.F.entry_tuple_lt (Qn hoa hda hob hcb hdb hia hib ⟨_,rfl,(λ e=>nomatch e),h⟩) (PySem.F.args_tuple_lt_2 _ _)) hu
end
section
variable {X:Cx}
end
def DR (p:List Int):List (List Int)->List (List Int)
 |[]=>[p]
 |q::r=>if fZ p q then p::q::r else q::DR p r
def lC:List (List Int)->List (List Int)
 |[]=>[]
 |p::r=>DR p (lC r)
theorem zL (p:List Int):∀l,(DR p l).Perm (p::l)
 |[]=> .refl _
 | q::r=>by
  unfold DR;split
  ·exact .refl _
  ·exact ((zL p r).cons q).trans (List.Perm.swap p q r)
theorem jD:∀l,(lC l).Perm l
 |[]=> .refl _
 |p::r=>(zL p _).trans ((jD r).cons p)
abbrev FZ (l:List (List Int)):Prop:=l.Pairwise λ a b=>fZ a b=true
theorem JZ (p:List Int):∀{l:List (List Int)},FZ l->p∉l->FZ (DR p l)
 |[],_,_=>by unfold DR;simp
 | q ::r,h,hn=>by
  obtain⟨h1,h2⟩:=List.pairwise_cons.mp h;unfold DR;by_cases e:fZ p q=true
  ·rw[if_pos e];refine List.pairwise_cons.mpr ⟨λ z hz=>?_,h⟩;rcases List.mem_cons.mp hz with z1 |z1
   ·rw[z1];exact e
   ·exact nM e (h1 z z1)
  ·rw[if_neg e];have e2:fZ q p=true:=Bw (λ z=>hn (by rw[z];exact List.mem_cons_self)) (by simpa using e);refine List.pairwise_cons.mpr ⟨λ z hz=>?_,JZ p h2 λ z=>hn (z2f _ z)⟩;rcases List.mem_cons.mp ((zL p r).mem_iff.mp hz) with z1 |z1
   ·rw[z1];exact e2
   ·exact h1 z z1
theorem zM:∀{l:List (List Int)},l.Nodup->FZ (lC l)
 |[],_=> .nil
 | p::r,h=>by
  obtain⟨h1,h2⟩:=List.nodup_cons.mp h;exact JZ p (zM h2) λ z=>h1 ((jD r).mem_iff.mp z)
theorem Ga:∀{a b:List (List Int)},a.Perm b->FZ a->FZ b->a=b
 |[],b,p,_,_=>(List.nil_perm.mp p).symm
 |x::a,[],p,_,_=>absurd (List.perm_nil.mp p) (by simp)
 | x :: a,y::b,p,ha,hb=>by
  have ha':=List.pairwise_cons.mp ha;have hb':=List.pairwise_cons.mp hb;have h1:x=y:=by
   rcases List.mem_cons.mp (p.mem_iff.mp (List.mem_cons_self (a:=x) (l:=a))) with h |h
   ·exact h
   ·rcases List.mem_cons.mp (p.mem_iff.mpr (List.mem_cons_self (a:=y) (l:=b))) with k |k
    ·exact k.symm
    ·have:=nM (ha'.1 y k) (hb'.1 x h);rw[sV] at this;cases this
  subst h1;rw[Ga ((List.perm_cons x).mp p) ha'.2 hb'.2]
theorem Uj (hn:ts.Nodup) {a b:Nat} (ha:a < ts.length) (hb:b < ts.length) (hab:a≠b):ts.getD a []≠ts.getD b []:=by
 simp only[List.getD,List.getElem?_eq_getElem ha,List.getElem?_eq_getElem hb,Option.getD_some];intro z;exact hab ((List.getElem_inj hn).mp z)
theorem abU (hn:ts.Nodup):Ord ts.length (λ i j=>fZ (ts.getD i []) (ts.getD j [])):=
 ⟨λ a b c _ _ _ h1 h2=>nM h1 h2,λ a b ha hb hab h=>Bw (Uj hn ha hb hab) h⟩
theorem Mz (hn:ts.Nodup) {q:Array Nat} (h:Pm ts.length q) (hs:S (λ i j=>fZ (ts.getD i []) (ts.getD j [])) q ts.length):q.toList.map (λ i=>ts.getD i [])=lC ts:=by
 refine Ga ?_ ?_ (zM hn)
 ·have e:(List.range ts.length).map (λ i=>ts.getD i [])=ts:=by
   apply List.ext_getElem?;intro i;by_cases hi:i < ts.length
   ·simp[hi]
   ·simp[hi]
  have:=h.perm.map λ i=>ts.getD i [];rw[e] at this;exact this.trans (jD ts).symm
 ·refine List.pairwise_iff_getElem.mpr λ i j hi hj hij=>?_;have hl:(q.toList.map λ i=>ts.getD i []).length=ts.length:=by simp[h.size]
  have:=hs i j hij (by rw[<-hl];exact hj);have e:∀(k:Nat) (hk:k < (q.toList.map λ i=>ts.getD i []).length),(q.toList.map λ i=>ts.getD i [])[k]=ts.getD (q.getD k 0) []:=λ k hk=>by
   have hk':k < q.size:=by simpa using hk
   simp[Array.getD,hk']
  rw[e i hi,e j hj];exact this
section
variable {prog:Program} {w:World} {A:Around} {E:Value->Shared->Prop} {s:Shared}
inductive oJ (h:Heap) (a:Addr) (l c:Int) (ps:List Int):Prop
 |mk (o o2:Obj) (n n2:Nat) (t u:Tok) (p:Addr) (vs:Array Value) (h1:h.get? a=some o) (h2:o.cls= .type "tuple") (h3:o.data= .seq #[.int l t,.int c u,.ref p] n) (h4:h.get? p=some o2) (h5:o2.cls= .type "tuple") (h6:o2.data= .seq vs n2) (h7:IntsAre vs.toList ps):oJ h a l c ps
theorem oJ.keeps {h h':Heap} {l c:Int} {ps:List Int} (x:oJ h a l c ps) (k:∀b o,h.get? b=some o->o.cls= .type "tuple"->h'.get? b=some o):oJ h' a l c ps:=
 by
 obtain⟨o,o2,n,n2,t,u,p,vs,h1,h2,h3,h4,h5,h6,h7⟩:=x;exact⟨o,o2,n,n2,t,u,p,vs,k _ _ h1 h2,h2,h3,k _ _ h4 h5,h5,h6,h7⟩
theorem DY {prog:Program} {w:World}:∀{vs:List Value} {ns:List Int},IntsAre vs ns->ItemsAre (intKind prog w) ns vs
 |_,_,.nil=> .nil
 |_,_,.cons n t h=> .cons (intKind_is _ _ _ _) (DY h)
theorem abV {x y:Addr} {l c l' c':Int} {ps qs:List Int} {Q:Bool->Shared->Prop} (hu:A.units < cLine) (hx:oJ s.heap x l c ps) (hy:oJ s.heap y l' c' qs) (h:Q (fZ (l::c::ps) (l'::c'::qs)) s):
  wpAny (model prog w) A (keyLt' (tuples' true) (.ref x) (.ref y)) Q E s:=by
 obtain⟨o,o2,n,n2,t,u,p,vs,h1,h2,h3,h4,h5,h6,h7⟩:=hx;obtain⟨o',o2',n',n2',t',u',p',vs',g1,g2,g3,g4,g5,g6,g7⟩:=hy;refine kat_lt h1 h3 g1 g3 ?_;show KatLex prog w A true (decide (3 < 3)) Q [(.int l t,.int l' t'),(.int c u,.int c' u'),(.ref p,.ref p')] 0 s;rw[fZ,fZ] at h;refine kat_cons (SeqAt.EqAt.int_int l t l' t' prog w _ _ ?_);by_cases e1:l=l'
 ·rw [if_pos e1] at h;rw[show (l ==l')=true by simpa using e1];refine kat_yes (kat_cons (SeqAt.EqAt.int_int c u c' u' prog w _ _ ?_));by_cases e2:c=c'
  ·rw[if_pos e2] at h;rw[show (c ==c')=true by simpa using e2];refine kat_yes (kat_cons (wpAny_eqBool_tuple (knd:=intKind prog w) hu ⟨o2,vs,n2,h4,h5,h6,DY h7⟩ ⟨o2',vs',n2',g4,g5,g6,DY g7⟩ ?_));by_cases e3:ps=qs
   ·rw[e3,sV] at h;rw[decide_eq_true e3];exact kat_yes (kat_nil (by simpa using h))
   ·rw[decide_eq_false e3];refine kat_no ?_;show wpAny (model prog w) A (oneLt' false _ _) Q _ s;exact kat_one _ _ (abT hu h4 h5 h6 g4 g5 g6 h7 g7 h)
  ·rw[if_neg e2] at h;rw[show (c ==c')=false by simpa using e2];refine kat_no ?_;show wpAny (model prog w) A (oneLt' false _ _) Q _ s;exact kat_one _ _ (lt_int h)
 ·rw[if_neg e1] at h;rw[show (l ==l')=false by simpa using e1];refine kat_no ?_;show wpAny (model prog w) A (keyLt' oneType' (.int l t) (.int l' t')) Q _ s;exact kat_lt_int h
end
theorem MF {h:Heap}:∀(as:List Addr),(∀a∈as,∃l c ps,oJ h a l c ps)->∃fs,KatTups h (as.map Value.ref) fs/\fs.length=as.length/\∀f∈fs,∃k t,f=Value.int k t
 |[],_=>⟨[],.nil,rfl,λ f hf=>by simp at hf⟩
 | a::as,hx=>by
  obtain⟨l,c,ps,o,o2,n,n2,t,u,p,vs,h1,h2,h3,_⟩:=hx a List.mem_cons_self;obtain⟨fs,k1,k2,k3⟩:=MF as λ b hb=>hx b (z2f _ hb);refine⟨.int l t::fs,KatTups.cons h1 h2 h3 rfl k1,by simp[k2],λ f hf=>?_⟩;rcases List.mem_cons.mp hf with z |z
  ·exact⟨l,t,z⟩
  ·exact k3 f z
section
variable {X:Cx}
def Li (K:PySem.W.Frag) (H:Hp) (a:Addr) (ns:List Int):Prop:=∃l c ps p,ns=l::c::ps/\SqT K H a [.int l,.int c,.ref p]/\SqT K H p (ps.map V.int)
theorem abW {pins:List (Addr×Obj)} {σ:St} {H:Hp} {s:Shared} (I:Inv X pins σ H s) (h:Li X.K H a ns):∃l c ps,ns=l::c::ps/\oJ s.heap a l c ps:=by
 obtain⟨l,c,ps,p,rfl,h1,h2⟩:=h;obtain⟨its,r1,⟨o,ho,hc,n,hd⟩,_⟩:=I.tuple h1;obtain⟨its2,r2,⟨o2,ho2,hc2,n2,hd2⟩,_⟩:=I.tuple h2;refine⟨l,c,ps,rfl,?_⟩;cases r1 with
 | cons a1 r1=>
  cases r1 with
  | cons a2 r1=>
   cases r1 with
   | cons a3 r1=>
    cases r1;obtain⟨t,rfl⟩:=a1;obtain⟨u,rfl⟩:=a2;cases a3;exact⟨o,o2,n,n2,t,u,p,its2.toArray,ho,hc,hd,ho2,hc2,hd2,by simpa using Il r2⟩
theorem Uk (hu:X.A.units+2 < cLine):CallR X (.builtin "sorted") (λ xs H Q=>∃(a:Addr) (as:List Addr) (ts:List (List Int)),xs=[.ref a]/\SqL X.K H a (as.map V.ref)/\as.length=ts.length/\ts.length < 64/\ts.Nodup/\(∀(i:Nat) b t,as[i]?=some b->ts[i]?=some t->Li X.K H b t)/\
  ∀(B:Addr) (bs:List Addr),H B=none->bs.length=ts.length->(∀(i:Nat) b t,bs[i]?=some b->(lC ts)[i]?=some t->b∈as/\∃j:Nat,as[j]?=some b/\ts[j]?=some t)->Q (.ref B) (upd H B (.lst (bs.map V.ref)))):=by
 intro pins s σ H xs us Q I r h;obtain⟨a,as,ts,rfl,hq,hl,h64,hn,ht,q⟩:=h;obtain⟨u,rfl,rx⟩:=vals1 r;cases rx;obtain⟨its,rv,pl,hz⟩:=I.list hq;have hits:its=as.map Value.ref:=by
  have:∀(as:List Addr) (its:List Value),Vals (as.map V.ref) its->its=as.map Value.ref:=by
   intro as
   induction as with
   |nil=>intro its r;cases r;rfl
   |cons b as ih=>intro its r;cases r with |cons r1 r2=>cases r1;rw[ih _ r2];rfl
  exact this as its rv
 subst hits;have lenV:(as.map Value.ref).length=ts.length:=by rw[z1g,hl]
 refine Calls.call_function_entry kind_sorted plain_sorted entry_sorted (args_sorted1 _) ?_;unfold Builtin.«sorted»;refine wpAny_bind (m:=checkCount "sorted" 1 1 _) (wpAny_pure ?_);refine wpAny_bind (collect_list pl.isList ?_);refine wpAny_bind (wpAny_newList ?_ (by rw[lenV,sizeLine_eq];omega));have hsz:((s.heap.push (seqObj "list" #[] 0)).update s.heap.objs.size (Obj.mapSeq (· ++(as.map Value.ref).toArray))).objs.size=s.heap.objs.size+1:=by
  rw[Heap.size_update,size_push']
 have hB:(((s.heap.push (seqObj "list" #[] 0)).update s.heap.objs.size (Obj.mapSeq (· ++(as.map Value.ref).toArray))).push (seqObj "list" (as.map Value.ref).toArray 0)).get? (s.heap.objs.size+1)=some (seqObj "list" (as.map Value.ref).toArray 0):=by
  rw[<-hsz];exact z1f _ rfl
 show wpAny _ _ _ _ _ {s with heap:=((s.heap.push (seqObj "list" #[] 0)).update s.heap.objs.size (Obj.mapSeq (· ++(as.map Value.ref).toArray))).push (seqObj "list" (as.map Value.ref).toArray 0)};rw[hsz];have kp:∀b o,s.heap.get? b=some o->(((s.heap.push (seqObj "list" #[] 0)).update s.heap.objs.size (Obj.mapSeq (· ++(as.map Value.ref).toArray))).push (seqObj "list" (as.map Value.ref).toArray 0)).get? b=some o:=λ b o e=>by
  refine z1a _ ?_;rw[Heap.get?_update_ne _ _ _ _ (Nat.ne_of_lt (z2c e))];exact z1a _ e
 have MJ:∀(i:Nat) b,as[i]?=some b->∃l c ps,ts.getD i []=l::c::ps/\oJ s.heap b l c ps:=λ i b e=>by
  have hi:i < ts.length:=by rw[<-hl];exact (z1b e).1
  obtain⟨l,c,ps,e1,e2⟩:=abW I (ht i b ts[i] e (by simp[hi]));exact⟨l,c,ps,by simp[hi,e1],e2⟩
 have bne:∀b o,s.heap.get? b=some o->b≠s.heap.objs.size+1:=λ b o e=>Nat.ne_of_lt (Nat.lt_succ_of_lt (z2c e));refine wpAny_bind (wpAny_holding (wpAny_call_entry slot_list_sort ⟨_,hB,rfl⟩ entry_list_sort (abt (lt:=λ i j=>fZ (ts.getD i []) (ts.getD j [])) (kk:=tuples' true) hB (by rw[lenV];exact h64) (by rw[lenV];exact abU hn) ?kind ?ask λ qq hq hqs=>⟨_,rfl,?fin⟩) (args_list_sort _)))
 case kind=>
  intro h2 h6 keep Q' hQ';obtain⟨fs,kt,fl,fi⟩:=MF (h:=h6) as λ b hb=>by
   obtain⟨i,hi⟩:=List.mem_iff_getElem?.mp hb;obtain⟨l,c,ps,_,e⟩:=MJ i b hi;exact⟨l,c,ps,e.keeps λ d o hd _=>keep d o (bne d o hd) (kp d o hd)⟩
  refine kat_kind (T:= .type "int") kt (by rw[fl,hl];rw[lenV] at h2;omega) (λ f hf=>by obtain⟨k,t,rfl⟩:=fi f hf;exact .now) rfl hQ'
 case ask=>
  intro h6 keep i j C hi hj hC;rw[lenV] at hi hj;have hi':i < as.length:=by omega
  have hj':j < as.length:=by omega
  obtain⟨l,c,ps,e1,t1⟩:=MJ i as[i] (by simp[hi']);obtain⟨l',c',ps',e2,t2⟩:=MJ j as[j] (by simp[hj']);unfold kas_ask;rw[show (as.map Value.ref).getD i Value.none= .ref as[i] by simp[hi'],show (as.map Value.ref).getD j Value.none= .ref as[j] by simp[hj']];refine abV ?_ (t1.keeps λ d o hd _=>keep d o (bne d o hd) (kp d o hd)) (t2.keeps λ d o hd _=>keep d o (bne d o hd) (kp d o hd)) ?_
  ·first |exact Nat.lt_of_le_of_lt (by simp) hu |(show X.A.units+_ < cLine;omega)
  ·rw[e1,e2] at hC;exact hC
 case fin=>
  rw[lenV] at hq hqs;refine wpAny_pure ⟨_,rfl,?_⟩;have hout:(qq.toList.map λ i=>(as.map Value.ref).getD i Value.none)=(qq.toList.map λ i=>as.getD i 0).map Value.ref:=by
   rw[List.map_map];refine List.map_congr_left λ i hi=>?_;have hi':i < as.length:=by rw[hl];exact z2e (hq.perm.mem_iff.mp hi)
   simp[hi']
  rw[hout];obtain⟨cc,hFB⟩:=sortedHeap_at (vs:=as.map Value.ref) (out:=List.toArray ((qq.toList.map λ i=>as.getD i 0).map Value.ref)) hB;have hf:H (s.heap.objs.size+1)=none:=I.hok.fresh (Nat.le_succ _);refine⟨.ref (s.heap.objs.size+1),upd H (s.heap.objs.size+1) (.lst ((qq.toList.map λ i=>as.getD i 0).map V.ref)),I.laid (t':=s.toks) (λ b o e=>Fe (bne b o e) (kp b o e)) (Nat.le_succ _) ?_,rfl,q _ _ hf ?_ λ i b t eb et=>?_⟩
  ·refine⟨?_,_,cc,RD _,hFB⟩;rw[z1g,z1g,Array.length_toList,hq.size,sizeLine_eq];omega
  ·rw[z1g,Array.length_toList,hq.size]
  ·rw[<-Mz hn hq hqs] at et;rw[z2b] at eb et;cases ei:qq.toList[i]? with
   |none=>rw[ei] at eb;cases eb
   | some k=>
    rw[ei] at eb et;have eb:as.getD k 0=b:=Option.some.inj eb;have et:ts.getD k []=t:=Option.some.inj et;have hk:k < ts.length:=z2e (hq.perm.mem_iff.mp (List.mem_of_getElem? ei));have hk':k < as.length:=by omega
    have ea:as[k]?=some b:=by simp[List.getD,hk'] at eb |-;exact eb
    exact⟨List.mem_of_getElem? ea,k,ea,by simp[List.getD,hk] at et |-;exact et⟩
end
end Pu
namespace Pu
open PySem PySem.Spec L2
open PyProof.Rows hiding St
def jr:List Int->D
 |l::c::ps=> .tup [.int l,.int c,.tup (ps.map .int)]
 |_=> .non
def wA:D->Option (List Int)
 | .tup [.int l,.int c,.tup ps]=>(intsOf ps).map λ ns=>l::c::ns
 |_=>none
def pP:List D->Option (List (List Int))
 |[]=>some []
 | d::ds=>match wA d,pP ds with
  |some t,some ts=>some (t::ts)
  |_,_=>none
def oK:List D->R D
 | [.lst ds]=>match pP ds with
  |some ts=>if ts.length < 64/\ts.Nodup then .ok (.lst ((lC ts).map jr)) else .bad
  |none=> .bad
 |_=> .bad
theorem Ul (ns:List Int):intsOf (ns.map D.int)=some ns:=by simpa using qH (c:=λ i:Int=>i) (l:=ns)
theorem MK {l c:Int} {ps:List Int}:wA (jr (l::c::ps))=some (l::c::ps):=by simp[jr,wA,Ul]
section
variable {K:PySem.W.Frag} {O:Addr->Prop} {H:Hp}
theorem ZQ {d:D} {v:V} {t:List Int} (e:wA d=some t) (r:Rep K O H d v):∃b,v= .ref b/\Li K H b t/\Rep K O H (jr t) v:=by
 unfold wA at e;split at e
 ·rename_i l c ps;cases q:intsOf ps with
  |none=>rw[q] at e;cases e
  | some ns=>
   rw[q] at e;cases e;obtain⟨a,xs,rfl,hq,rs⟩:=r.tup;obtain⟨v1,v2,v3,rfl,r1,r2,r3⟩:=rs.three;have r1:=r1.int;have r2:=r2.int;subst r1 r2;obtain⟨p,ys,rfl,hq2,yO⟩:=r3.tup;have e2:=zB q yO;subst e2;refine⟨a,rfl,⟨l,c,ns,p,rfl,hq,hq2⟩,iV hq (.cons (cB l) (.cons (cB c) (.cons (iV hq2 uh) .nil)))⟩
 ·cases e
theorem J0:∀{ds:List D} {vs:List V} {ts:List (List Int)},pP ds=some ts->aN K O H ds vs->∃as:List Addr,vs=as.map V.ref/\as.length=ts.length/\∀(i:Nat) b t,as[i]?=some b->ts[i]?=some t->Li K H b t/\Rep K O H (jr t) (.ref b)
 | [],vs,ts,e,r=>by
  cases e;exact⟨[],r.nil_inv,rfl,λ i b t h=>by simp at h⟩
 | d ::ds,vs,ts,e,r=>by
  obtain⟨x,r',rfl,h1,h2⟩:=r.cons_inv;unfold pP at e;split at e
  ·rename_i t ts' e1 e2;cases e;obtain⟨b,rfl,h3,h4⟩:=ZQ e1 h1;obtain⟨as,rfl,h5,h6⟩:=J0 e2 h2;refine⟨b::as,rfl,by simp[h5],λ i b' t' eb et=>?_⟩;cases i with
   |zero=>simp at eb et;subst eb et;exact⟨h3,h4⟩
   |succ i=>exact h6 i b' t' (by simpa using eb) (by simpa using et)
  ·cases e
theorem Cq:∀{ds:List D} {vs:List V},ds.length=vs.length->(∀(i:Nat) d v,ds[i]?=some d->vs[i]?=some v->Rep K O H d v)->aN K O H ds vs
 |[],[],_,_=> .nil
 |[],_::_,h,_=>by simp at h
 |_::_,[],h,_=>by simp at h
 |d::ds,v::vs,h,p=> .cons (p 0 d v rfl rfl) (Cq (by simpa using h) λ i d' v' e1 e2=>p (i+1) d' v' (by simpa using e1) (by simpa using e2))
end
section
variable {X:Cx}
theorem MN (hu:X.A.units+2 < cLine):CallD X (.builtin "sorted") oK:=by
 refine⟨_,Uk hu,λ ρ O σ H Q xs ds j r h=>?_⟩;unfold oK at h;split at h
 ·rename_i es;obtain⟨x,rfl,rx⟩:=r.one;obtain⟨a,ys,rfl,hq,hna,rs⟩:=rx.lst;cases e:pP es with
  |none=>rw[e] at h;exact h.elim
  | some ts =>
   rw[e] at h;have h:good X (rD X) O (if ts.length < 64/\ts.Nodup then R.ok (.lst ((lC ts).map jr)) else .bad) σ H Q:=h;by_cases hl:ts.length < 64/\ts.Nodup
   ·rw [if_pos hl] at h;obtain⟨as,rfl,h1,h2⟩:=J0 e rs;refine⟨a,as,ts,rfl,hq,h1,hl.1,hl.2,λ i b t eb et=>(h2 i b t eb et).1,λ B bs hB hbl hp=>?_⟩;refine h _ _ (Same.upd hB) (Rep.nD hB (j.qR hB) (Cq ?_ λ i d v ed ev=>?_))
    ·rw[z1g,z1g,(jD ts).length_eq,hbl]
    ·rw [z2b] at ed ev;cases q1:(lC ts)[i]? with
     |none=>rw[q1] at ed;cases ed
     | some t=>
      cases q2:bs[i]? with
      |none=>rw[q2] at ev;cases ev
      | some b=>
       rw[q1] at ed;rw[q2] at ev;cases ed;cases ev;obtain⟨_,k,z1,z2⟩:=hp i b t q2 q1;exact (h2 k b t z1 z2).2
   ·rw[if_neg hl] at h;exact h.elim
 ·exact h.elim
end
section
variable {X:Cx} {e:Expr} {f:ao->R D} {pos:Pos}
theorem abX (i k m:Nat) {x y z:Str} {px py pz pt:Pos} {kt} (hc:X.calm=true) (hN:X.N.Nodup) (he:DE X e f) (hi:X.N[i]?=some x:=by rfl) (hk:X.N[k]?=some y:=by rfl) (hm:X.N[m]?=some z:=by rfl)
  (hx:Loc X.env.scope x:=by first |exact Or.inl rfl |exact Or.inr rfl) (hy:Loc X.env.scope y:=by first |exact Or.inl rfl |exact Or.inr rfl) (hz:Loc X.env.scope z:=by first |exact Or.inl rfl |exact Or.inr rfl)
  (hfx:X.fn x=true\/X.env.scope.names.lookup x=some .local:=by first |exact .inl rfl |exact .inr rfl) (EY:X.fn y=true\/X.env.scope.names.lookup y=some .local:=by first |exact .inl rfl |exact .inr rfl) (hfz:X.fn z=true\/X.env.scope.names.lookup z=some .local:=by first |exact .inl rfl |exact .inr rfl)
  (hs:swapsWithSole [.Tuple [.Name x px,.Name y py,.Name z pz] kt pt] e pos.line X.env=pure false:=by rfl) (hw:swappedStores [.Tuple [.Name x px,.Name y py,.Name z pz] kt pt] e X.env=pure none:=by rfl):
  DS X (.Assign [.Tuple [.Name x px,.Name y py,.Name z pz] kt pt] e pos) (bB f (cZ (c7 3 (aX (aF i) (aX (aF k) (aX (aF m) nilG)))))):=by
 refine PS.imp (ps_asg he (pg_tup hc (pgs_cons (pg_name hN hi hx hfx) (pgs_cons (pg_name hN hk hy EY) (pgs_cons (pg_name hN hm hz hfz) pgs_nil)))) hs hw) λ σ H E h=>?_;obtain⟨H0,O0,O,ρ,j,h⟩:=h;refine⟨ρ,O,j.inn,?_⟩;unfold bB fj at h;cases e1:f ρ with
 |bad=>rw[e1] at h;exact h
 |err c=>rw[e1] at h;exact h σ H O j
 | ok d=>
  rw[e1] at h;intro v H' s r;cases d with
  | tup ds=>
   match ds,h,r with
   |[],h,_=>exact h.elim
   |[_],h,_=>exact h.elim
   |[_,_],h,_=>exact h.elim
   |_::_::_::_::_,h,_=>exact (show False by simpa[cZ,c7,rN] using h).elim
   | [d1,d2,d3],h,r=>
    obtain⟨a,xs,rfl,hq,rs⟩:=r.tup;obtain⟨v1,v2,v3,rfl,r1,r2,r3⟩:=rs.three;refine⟨a,[v1,v2,v3],rfl,hq,rfl,v1,[v2,v3],rfl,v2,[v3],rfl,v3,[],rfl,rfl,?_⟩;exact h _ H' O ((((j.grow s).set (z1b hi).1 r1).set (z1b hk).1 r2).set (z1b hm).1 r3) (Same.dJ s)
  |_=>exact h.elim
end
section
variable {X:Cx} {e:Expr} {f:ao->R D}
def agF:D->R Bool
 | .lst ds=> .ok (!ds.isEmpty)
 | .tup ds=> .ok (!ds.isEmpty)
 |_=> .bad
def MP (f:ao->R D):ao->R Bool:=λ ρ=>(f ρ).bind agF
theorem aN.empty {K:PySem.W.Frag} {O:Addr->Prop} {H:Hp} {ds:List D} {vs:List V} (r:aN K O H ds vs):ds.isEmpty=vs.isEmpty:=by
 have:=r.length;cases ds <;> cases vs <;> simp_all
theorem W7 (h:DE X e f) (he:∀whole,isTrue e X.env whole=(do let v <-whole;standAt e.pos;holding [v] (truthy v)):=by intro _;rfl):DT X e (MP f):=by
 refine PT.imp (pt_truth h he) λ σ H Q h=>?_;obtain⟨ρ,O,j,h⟩:=h;refine go j h λ d v H1 e1 s1 r1 j1 h1=>?_;cases d with
 | lst ds=>
  obtain⟨a,xs,rfl,hq,hn,rs⟩:=r1.lst;exact⟨!xs.isEmpty,.inl ⟨xs,hq,rfl⟩,by rw[<-rs.empty];exact fin h1 rfl⟩
 | tup ds=>
  obtain⟨a,xs,rfl,hq,rs⟩:=r1.tup;exact⟨!xs.isEmpty,.inr (.inl ⟨xs,hq,rfl⟩),by rw[<-rs.empty];exact fin h1 rfl⟩
 |_=>exact h1.elim
end
theorem W8 {A:Around} {k:Nat} (hr:Room k A):A.units+2 < cLine:=by have:=hr.un;omega
def FnS (P:Program) (w:World) (K:PySem.W.Frag) (mg:Str->Option Value) (base:Heap) (k:Nat) (x:Str) (kG n q:Nat) (F:Addr->(List D->R D)->List D->R D):Prop:=
 ∃f fd ps,FnOk P w K mg base CX0 k f fd ps (spS P w mg base kG K n q F)/\mg x=some (.ref f)/\PySem.W.keepIn K (.ref f)=true/\Binds K fd ps []
theorem Cr:∀{xs:List V} {us:List Value},xs.length=us.length->(∀(i:Nat) x u,xs[i]?=some x->us[i]?=some u->RelV x u)->Vals xs us
 |[],[],_,_=> .nil
 |[],_::_,h,_=>by simp at h
 |_::_,[],h,_=>by simp at h
 |x::xs,u::us,h,p=> .cons (p 0 x u rfl rfl) (Cr (by simpa using h) λ i d' v' e1 e2=>p (i+1) d' v' (by simpa using e1) (by simpa using e2))
theorem W9 {lo:Int} {acc:Array Value} {n:Nat} (h:ItemsOf (λ i v=>∃t,v= .int (lo+i*1) t) acc n):Vals ((List.range n).map λ (i:Nat)=>V.int (lo+(i:Int))) acc.toList:=by
 refine Cr (by simp[h.1]) λ i x u e1 e2=>?_;rw[Array.getElem?_toList] at e2;obtain⟨t,rfl⟩:=h.2 i u e2;rw[z2b] at e1;cases q:(List.range n)[i]? with
 |none=>rw[q] at e1;cases e1
 | some k=>
  rw[q] at e1;have hk:i < n/\i=k:=by simpa[List.getElem?_range] using (z1b q)
  obtain⟨_,rfl⟩:=hk;cases e1;exact⟨t,by rw[Int.mul_one]⟩
section
variable {X:Cx} {a b:Expr} {p pos p2 pos2:Pos} {fa:ao->R (List D)} {ta:TA}
def afI (ta:TA):TE:=λ σ H Q=>ta σ H λ vs H1=>∃i j:Int,vs=[.int i,.int j]/\∀q,H1 q=none->Q (.ref q) (upd H1 q (.rng i j))
theorem abY (hg:Gl X "range") (hm:X.mg "range" =none) (ha:PA X [a,b] ta) (hs:starEach [a,b] X.env=[(false,eval a X.env),(false,eval b X.env)]:=by rfl) (hs2:starEach [b] X.env=[(false,eval b X.env)]:=by rfl):PE X (.Call (.Name "range" p) [a,b] [] pos) (afI ta):=by
 intro pins s σ H Q I h;refine Call_ (ld_blt I hg hm boot_range (PyProof.Rows.callWith_type1 (thn (ha pos pins s σ H _ I h) λ us s1 ⟨vs,H1,I1,r1,q1⟩=>?_) (by rw[hs,hs2]) (by rw[hs2];rfl)));obtain⟨i,j,e,q⟩:=q1;subst e;cases r1 with
 | cons r rr=>
  cases rr with
  | cons r' rr=>
   cases rr;obtain⟨t,rfl⟩:=r;obtain⟨t',rfl⟩:=r';refine call_range_2 ?_;exact⟨.ref s1.heap.objs.size,upd H1 s1.heap.objs.size (.rng i j),I1.laid (λ b o e=>z1a _ e) (z0g _) ⟨_,_,_,z1f _ rfl⟩,rfl,q _ (I1.hok.fresh (z0g _))⟩
theorem Xa (hc:X.calm=true):CallR X (.type "list") (λ xs H Q=>∃(b:Addr) (i j:Int),xs=[.ref b]/\H b=some (.rng i j)/\-1000<=i/\i<=1000/\-1000<=j/\j<=1000/\∀B,H B=none->Q (.ref B) (upd H B (.lst ((List.range (j - i).toNat).map λ (k:Nat)=>V.int (i+(k:Int)))))):=by
 intro pins s σ H xs us Q I r h;obtain⟨b,i,j,rfl,hb,h0,h1,h2,h3,q⟩:=h;obtain⟨u,rfl,rx⟩:=vals1 r;cases rx;obtain⟨t,u,v,hr⟩:=(show ObjOk X.prog X.w H s.heap b (.rng i j) from I.hok b _ hb);have hn:Builtin.Range.rangeSize i j 1=(((j - i).toNat:Nat):Int):=by rw[rangeSize_one];split <;> omega
 refine call_list_range (I.ok.hd hc) hr (small_one (by omega) (by omega) (by omega) (by omega)) hn (by omega) λ h' tk acc c' hk he hacc=>?_;have hf:H s.heap.objs.size=none:=I.hok.fresh (z0g _);refine⟨.ref s.heap.objs.size,_,I.laid (t':=tk) (o:= .lst ((List.range (j - i).toNat).map λ (k:Nat)=>V.int (i+(k:Int)))) hk (z0g _) ⟨?_,acc.toList,c',W9 hacc,by simpa using he⟩,rfl,q _ hf⟩;rw[z1g,z2d];exact z0b (by omega) (z0e gW)
theorem Um {K:PySem.W.Frag} {O:Addr->Prop} {H:Hp} {lo:Int} {n:Nat}:aN K O H (upto lo n) ((List.range n).map λ (i:Nat)=>V.int (lo+(i:Int))):=by
 unfold upto
 generalize List.range n=l
 induction l with
 |nil=>exact .nil
 |cons x l ih=>exact .cons (cB _) ih
def ag0:List D->R D
 |[.int j]=>if 0<=j/\j<=1000 then .ok (.lst (upto 0 j.toNat)) else .bad
 |_=> .bad
def Uo:List D->R D
 |[.int i,.int j]=>if -1000<=i/\i<=1000/\-1000<=j/\j<=1000 then .ok (.lst (upto i (j - i).toNat)) else .bad
 |_=> .bad
theorem ZR (hc:X.calm=true) (hg:Gl X "list") (hm:X.mg "list" =none) (hg2:Gl X "range") (hm2:X.mg "range" =none) (ha:DA X [a,b] fa) (hs2:starEach [a,b] X.env=[(false,eval a X.env),(false,eval b X.env)]:=by rfl) (hs3:starEach [b] X.env=[(false,eval b X.env)]:=by rfl)
  (he:starEach [.Call (.Name "range" p) [a,b] [] pos] X.env=(false,eval (.Call (.Name "range" p) [a,b] [] pos) X.env)::starEach [] X.env:=by rfl) (hpl:(backTo pos2 (starEach [] X.env)).any (·.1)=false:=by rfl):
  DE X (.Call (.Name "list" p2) [.Call (.Name "range" p) [a,b] [] pos] [] pos2) (aB Uo fa):=by
 refine PE.imp (pe_callTy (Xa hc) hg hm boot_list (pa_cons (abY hg2 hm2 ha hs2 hs3) pa_nil he) (by decide) (by decide) he hpl) λ σ H Q q=>?_;obtain⟨ρ,O,j,q⟩:=q;refine go j q λ ds vs H1 e1 s1 r1 j1 h1=>?_;unfold Uo at h1;split at h1
 ·rename_i i k;obtain⟨x,y,rfl,rx,ry⟩:=r1.two;by_cases hi: -1000<=i/\i<=1000/\-1000<=k/\k<=1000
  ·rw[if_pos hi] at h1;refine⟨i,k,by rw[rx.int,ry.int],λ q hq=>⟨q,i,k,rfl,upd_same,hi.1,hi.2.1,hi.2.2.1,hi.2.2.2,λ B hB=>?_⟩⟩;have s2:Same H1 (upd H1 q (.rng i k)):=Same.upd hq;exact h1 _ _ (s2.trans (Same.upd hB)) (Rep.nD hB ((j1.same s2).qR hB) Um)
  ·rw[if_neg hi] at h1;exact h1.elim
 ·exact h1.elim
end
end Pu
namespace Pu
open PySem PySem.Spec PySem.W L2
open PyProof.Rows hiding St
section
variable {prog:Program} {w:World} {A:Around} {s:Shared}
end
section
variable {X:Cx}
end
end Pu
namespace Pu
open PySem PySem.Spec L2
open PyProof.Rows hiding St
section
variable {X:Cx} {pins:List (Addr×Obj)} {σ:St} {H:Hp} {s:Shared}
end
section
variable {X:Cx} {qual:Str} {params:Arguments} {body:Expr} {scope:Scope} {xS:Str} {cc P fS:Addr} {Mw:FuncData} {JX:List Str} {kS kG q:Nat} {FS:Addr->(List D->R D)->List D->R D} {GG:List D->R D} {p p4 pos2 adP:Pos} {e1 e2 e3:Expr} {f1 f2 f3:ao->R D}
end
end Pu
namespace Pu
open PySem PySem.Spec PySem.W L2
open PyProof.Rows hiding St
section
variable {prog:Program} {w:World} {A:Around} {R:Result->Shared->Prop} {I l S:Addr} {its:Array Value} {h0:Heap} {bt:Nat->Nat->Bool}
end
section
variable {prog:Program} {w:World} {A:Around} {E:Value->Shared->Prop} {s:Shared} {l:Addr} {its:Array Value} {bt:Nat->Nat->Bool} {Q:Value->Shared->Prop}
end
section
variable {X:Cx}
end
end Pu
namespace Pu
open PySem PySem.Spec PySem.W L2
open PyProof.Rows hiding St
open PySem.SeqAt
section
variable {X:Cx} {e1 e2:Expr} {f g:ao->R D}
end
end Pu
namespace Pu
open PySem PySem.Spec L2
open PyProof.Rows hiding St
section
variable {X:Cx}
end
section
variable {X:Cx} {e:Expr} {f:ao->R D} {pos:Pos}
end
end Pu
namespace Pu
open PySem PySem.Spec PySem.W L2
open PyProof.Rows hiding St
section
variable {prog:Program} {w:World} {A:Around} {E:Value->Shared->Prop} {s:Shared}
end
section
variable {X:Cx}
end
end Pu
namespace Pu
open PySem PySem.Spec L2
open PyProof.Rows hiding St
section
variable {P:Program} {w:World} {K:PySem.W.Frag} {mg:Str->Option Value} {base:Heap}
end
section
variable {X:Cx} {k m n:Nat} {f:Addr} {fd:FuncData} {ps ks:List Str} {F:List D->R D} {x:Str} {p pos:Pos} {e:Expr} {es:List Expr} {kws:List Keyword} {fa fk:ao->R (List D)} {ts:List (Addr×Str)}
end
section
variable {X:Cx} {tg a b c:Expr} {p pos p2 pos2:Pos} {fa:ao->R (List D)} {ta:TA}
end
end Pu
namespace Pu
open PySem PySem.Spec PySem.W L2
open PyProof.Rows hiding St
open PySem.SeqAt
section
variable {X:Cx} {e1 e2:Expr} {f g:ao->R D}
end
end Pu
namespace Pu
open PySem PySem.Spec L2
open PyProof.Rows hiding St
section
variable {X:Cx}
end
end Pu
namespace Pu
open PySem PySem.Spec PySem.W L2
open PyProof.Rows hiding St
section
variable {prog:Program} {w:World} {A:Around} {s:Shared}
end
section
variable {X:Cx}
end
section
variable {X:Cx}
end
end Pu
namespace Pu
open PySem PySem.Spec L2
open PyProof.Rows hiding St
variable {O:Addr->Prop} {d:D} {gt:D->ao->R ao} {tg iter elt:Expr} {H:Hp} {rows:List (List Bool)} {rs:List Addr} {ds:List D} {ifs:List Expr} {N:List Str} {i m:Nat} {pos pos' px:Pos} {K:PySem.W.Frag} {fi:ao->R (List D)} {ft:ao->R Bool} {fe f:ao->R D} {scope:Scope} {x:Str}
section
variable {X:Cx}
def reF (K:PySem.W.Frag):Hp->(Addr->Prop)->Hp->D->V->Prop:=λ H0 O H' d v=>∃a ys ds,d= .lst ds/\v= .ref a/\H0 a=none/\K.lookup a=none/\H' a=some (.lst ys)/\aN K (λ b=>O b\/b=a) H' ds ys
abbrev DEF (X:Cx) (e:Expr) (f:ao->R D):Prop:=W0 X (reF X.K) e f
theorem M4 {Re:Hp->(Addr->Prop)->Hp->D->V->Prop} {Ac:Hp->Addr->(Addr->Prop)->Hp->List D->List V->Prop} (AC:AcR X.K Re Ac) (ts:List Str) (caps:List Nat)
  (hc:X.calm=true) (hb:vm X.env.scope scope ts X.N=true) (hcap:(dF scope).map (λ x=>jZ x X.N)=caps)
  (hi:DI X tg iter fi) (hk:kW ts.length gt) (hg:∀C s H ex,(bY X scope ts C s H ex).N.Nodup->DG (bY X scope ts C s H ex) tg gt) (ht:∀C s H ex,Ck (bY X scope ts C s H ex) ifs ft) (he:∀C s H ex,W0 (bY X scope ts C s H ex) Re elt fe)
  (hs:∀x,foldedSetIterable iter X.env x=pure x:=by intro _;rfl):
  PE X (.ListComp elt [⟨tg,iter,ifs,0⟩] scope pos) (λ σ H Q=>∃ρ O,In X O H ρ σ/\good X (RV X H Ac) O (bA ts.length caps fi gt ft fe ρ) σ H Q):=by
 intro pins s σ H Q I h;obtain⟨ρ,O,j,h⟩:=h;rw[eval_ListComp];refine zE (Q:=Q) (Qr:=EP X pins σ Q) AC ts caps hc hb hcap hi hk hg ht he hs I j ?_ h;intro v H' s5 C m f acc hq I5 hns fC rel;exact⟨m,hns,λ h' sb=>⟨v,H',I5.fp fC sb,rel,hq⟩⟩
theorem ZS (ts:List Str) (caps:List Nat)
  (hc:X.calm=true) (hb:vm X.env.scope scope ts X.N=true) (hcap:(dF scope).map (λ x=>jZ x X.N)=caps)
  (hi:DI X tg iter fi) (hk:kW ts.length gt) (hg:∀C s H ex,(bY X scope ts C s H ex).N.Nodup->DG (bY X scope ts C s H ex) tg gt) (ht:∀C s H ex,Ck (bY X scope ts C s H ex) ifs ft) (he:∀C s H ex,DE (bY X scope ts C s H ex) elt fe)
  (hs:∀x,foldedSetIterable iter X.env x=pure x:=by intro _;rfl):DEF X (.ListComp elt [⟨tg,iter,ifs,0⟩] scope pos) (bA ts.length caps fi gt ft fe):=by
 refine PE.imp (M4 Ms ts caps hc hb hcap hi hk hg ht (λ C s H ex=>(he C s H ex).toP) hs) λ σ H Q h=>?_;obtain⟨ρ,O,j,h⟩:=h;exact⟨ρ,O,j,good.rel (λ d v H' sm ⟨Hs,a,ys,ds,e1,e2,s1,n1,k1,s2,e3,r⟩=>⟨a,ys,ds,e1,e2,Same.free s1 n1,k1,e3,r⟩) h⟩
theorem At.adQ {H0 H':Hp} {O0:Addr->Prop} {ρ:ao} {σ:St} (j:At X H0 O0 O H ρ σ) (hi:i < X.N.length) {a:Addr} {ys:List V} (sm:Same H H') (hp:H a=none) (hk:X.K.lookup a=none) (e:H' a=some (.lst ys)) (r:aN X.K (λ b=>O b\/b=a) H' ds ys):
  At X H0 O0 (λ b=>O b\/b=a) H' (ρ.set i (some (.lst ds))) (σ.set i (some (.ref a)))/\eF X.K O H (λ b=>O b\/b=a) H':=by
 have s1:Same H (λ b=>if b=a then none else H' b):=λ b o q=>by
  show (if b=a then none else H' b)=_;rw[if_neg (ne_of_none q hp)];exact sm _ _ q
 have eu:upd (λ b=>if b=a then none else H' b) a (.lst ys)=H':=funext λ b=>by
  by_cases z:b=a
  ·rw[z,upd_same,e]
  ·rw[upd_ne z];exact if_neg z
 have h:=(j.grow s1).own hi (p:=a) (o:= .lst ys) (en:= .lst ds) (if_pos rfl) hk rfl (by rw[eu];exact⟨a,ys,rfl,.inr rfl,e,r⟩);rw[eu] at h;exact⟨h.1,(Same.dJ s1).trans h.2⟩
def xY (f:ao->R D) (i:Nat):ao->So:=λ ρ=>fj (f ρ) ρ λ d=>match d with
 | .lst ds=> .nx (ρ.set i (some (.lst ds)))
 |_=> .bad
theorem Xb (i:Nat) {e:Expr} (hN:X.N.Nodup) (he:DEF X e f) (hi:X.N[i]?=some x:=by rfl) (hx:Loc X.env.scope x:=by first |exact Or.inl rfl |exact Or.inr rfl) (hs:swapsWith e (some (.Name x pos')) pos.line X.env=pure false:=by rfl)
  (hf:X.fn x=true\/X.env.scope.names.lookup x=some .local:=by first |exact .inl rfl |exact .inr rfl):DS X (.Assign [.Name x pos'] e pos) (xY f i):=by
 refine PS.imp (ps_set hN hi hx he hs hf) λ σ H E h=>?_;obtain⟨H0,O0,O,ρ,j,h⟩:=h;refine⟨ρ,O,j.inn,?_⟩;unfold xY fj at h;cases e1:f ρ with
 |bad=>rw[e1] at h;exact h
 |err c=>rw[e1] at h;exact h σ H O j
 | ok d=>
  rw[e1] at h
  rintro v H' sm ⟨a,ys,ds,rfl,rfl,n1,k1,e3,r⟩
  obtain⟨j2,r2⟩:=j.adQ (z1b hi).1 sm n1 k1 e3 r;exact h _ _ _ j2 r2
theorem ZV (i:Nat) {cpos:Pos} (hN:X.N.Nodup) (ts:List Str) (caps:List Nat)
  (hc:X.calm=true) (hb:vm X.env.scope scope ts X.N=true) (hcap:(dF scope).map (λ x=>jZ x X.N)=caps)
  (hi:DI X tg iter fi) (hk:kW ts.length gt) (hg:∀C s H ex,(bY X scope ts C s H ex).N.Nodup->DG (bY X scope ts C s H ex) tg gt) (ht:∀C s H ex,Ck (bY X scope ts C s H ex) ifs ft) (he:∀C s H ex,DE (bY X scope ts C s H ex) elt fe)
  (hix:X.N[i]?=some x:=by rfl) (hx:Loc X.env.scope x:=by first |exact Or.inl rfl |exact Or.inr rfl) (hf:X.fn x=true\/X.env.scope.names.lookup x=some .local:=by first |exact .inl rfl |exact .inr rfl)
  (hsw:swapsWith (.ListComp elt [⟨tg,iter,ifs,0⟩] scope cpos) (some (.Name x pos')) pos.line X.env=pure true:=by rfl)
  (hs:∀x,foldedSetIterable iter X.env x=pure x:=by intro _;rfl):
  DS X (.Assign [.Name x pos'] (.ListComp elt [⟨tg,iter,ifs,0⟩] scope cpos) pos) (xY (bA ts.length caps fi gt ft fe) i):=by
 intro pins s σ H E I h;obtain⟨H0,O0,O,ρ,j,h⟩:=h;rw[exec_Assign_Name_used _ _ _ _ hsw];refine wpAny_bind (wpAny_standAt (wpAny_bind ?_));show wpAny _ _ (comprehension (.ListComp elt [⟨tg,iter,ifs,0⟩] scope cpos) scope X.env _ (newList []) false (eval iter X.env) (some (assign (.Name x pos') X.env)) >>=λ _=>pure ()) _ _ _;unfold xY fj at h;refine wpAny_bind (zE (Q:=λ v H'=>∃d,bA ts.length caps fi gt ft fe ρ= .ok d/\Same H H'/\RV X H (acP X.K) O H' d v) (Qr:=λ _ s'=>wpAny (model X.prog X.w) X.A (pure ()) (λ _ s1=>wpAny (model X.prog X.w) X.A (pure Flow.next) (SP X pins E) X.xe s1) X.xe s') Ms ts caps hc hb hcap hi hk hg ht (λ C s H ex=>(he C s H ex).toP) hs I j.inn ?_ ?_)
 ·intro v H' s5 C m f acc hq I5 hns fC rel;obtain⟨d,ed,sm,Hs,a,ys,ds,rfl,rfl,s1,n1,k1,s2,e3,r⟩:=hq;rw[ed] at h;have h:rN X H0 O0 O H E (.nx (ρ.set i (some (.lst ds)))):=h;obtain⟨o,es,ep,ho,hd,hr⟩:=hns;have Ip:=I5.pinned (fp:=[C]) (λ b hb=>by rw[List.mem_singleton.mp hb];exact fC) (λ b hb=>by rw[List.mem_singleton.mp hb];exact⟨o,ho,λ v z=>by rw[hd] at z;cases z⟩);show wpAny (model X.prog X.w) X.A (assign (.Name x pos') X.env acc) _ X.xe s5;refine wpAny_mono (pg_name hN hix hx hf _ s5 σ H' (.ref a) acc (λ σ' wz=>σ'=σ.set i (some (.ref a))/\wz=H') Ip rel ⟨rfl,rfl⟩) (λ _ s6 ⟨σ',wz,I',e1,e2⟩=>?_) λ _ _ z=>z;subst e1 e2;have pn:=(I'.pin (C,o) (List.mem_append_right _ (List.mem_append_right _ (mem_pinsAt (List.mem_singleton.mpr rfl) ho)))).1;obtain⟨j2,r2⟩:=j.adQ (z1b hix).1 sm (Same.free s1 n1) k1 e3 r;refine⟨m,⟨o,es,ep,pn,hd,hr⟩,λ h' sb=>wpAny_pure (wpAny_pure ⟨_,wz,(I'.unpinned).fp fC sb,h _ _ _ j2 r2⟩)⟩
 ·cases e1:bA ts.length caps fi gt ft fe ρ with
  |bad=>rw[e1] at h;exact h
  |err c=>rw[e1] at h;exact h σ H O j
  |ok d=>exact λ v H' sm r=>⟨d,rfl,sm,r⟩
theorem ZW:OpR X (binaryOp .Add) (λ x y H Q=>∃a b xs ys,x= .ref a/\y= .ref b/\SqL X.K H a xs/\SqL X.K H b ys/\xs.length+ys.length<=sizeLine/\∀p,H p=none->X.K.lookup p=none->Q (.ref p) (upd H p (.lst (xs++ys)))):=by
 intro pins s σ H x y v u Q I rx ry h;obtain⟨a,b,xs,ys,rfl,rfl,ha,hb,hz,q⟩:=h;cases rx;cases ry;obtain⟨its,r1,p1,_⟩:=I.list ha;obtain⟨its2,r2,p2,_⟩:=I.list hb;obtain⟨⟨cls,dd,data,sl⟩,n,ho,hc,hdd,hd⟩:=id p1;obtain⟨⟨cls2,dd2,data2,sl2⟩,n2,ho2,hc2,agu,hd2⟩:=id p2;simp only at hc hd hc2 hd2;subst hc hd hc2 hd2;refine concat_meets ⟨_,ho,rfl⟩ ⟨_,ho2,rfl⟩ noFill_list_add seq_list_add PySem.F.slot_list_add PySem.F.entry_list_add (PySem.F.args_list_add_2 _ _)
   (list_addW a b _ _ n n2 dd dd2 sl sl2 (by rw[z1c,z1c,<-r1.length,<-r2.length];exact hz)) ⟨ho,ho2,?_⟩
 have ea:its.toArray++its2.toArray=(its++its2).toArray:=by simp
 rw[ea];exact⟨.ref _,_,I.lnew (t':=s.toks) (r1.append r2) (by rw[z1d];omega),rfl,q _ I.fresh (Inv.Zh I)⟩
theorem ZX:OpR X (binaryOp .Mult) (λ x y H Q=>∃a k xs,x= .ref a/\y= .int k/\SqL X.K H a xs/\1<=k/\k < 2 ^ 63/\xs.length*k.toNat<=1000000/\∀p,H p=none->X.K.lookup p=none->Q (.ref p) (upd H p (.lst (List.replicate k.toNat xs).flatten))):=by
 intro pins s σ H x y v u Q I rx ry h;obtain⟨a,k,xs,rfl,rfl,hq,h1,h2,hz,q⟩:=h;cases rx;obtain⟨t,rfl⟩:=ry;obtain⟨its,r,p1,_⟩:=I.list hq;obtain⟨⟨cls,dd,data,sl⟩,ho,hc,n,hd⟩:=id p1.isList;simp only at hc hd;subst hc hd;have hlen:=r.length;have hz':its.toArray.size*k.toNat<=1000000:=by rw[z1c,<-hlen];exact hz
 have hz2:its.length*k.toNat<=1000000:=by rw[<-hlen];exact hz
 refine wpAny_binaryOp_repeat_ref (T:= "list") (U:= "int") (by decide) ⟨_,ho,rfl⟩ (λ s'=>typeIs_int s' k t) noFill_list_mul F.fills_int_mul F.slot_int_rmul repeat_list F.slot_int_index.lookup
  (call_meets F.slot_int_rmul (typeIs_int s k t) F.entry_int_rmul (F.args_int_rmul_2 _ _) (lm_int_rmul_list_any k t a its.toArray n dd sl) ⟨ho,rfl,⟨_,ho,rfl⟩,?_⟩)
 refine call_meets F.slot_list_mul ⟨_,ho,rfl⟩ F.entry_list_mul (F.args_list_mul_2 _ _) (lm_list_mul_any a its.toArray n dd sl k t (by simp[Builtin.List.listFitsIndex];omega) (by omega) (by simp[Builtin.List.listTooLong,sizeLine];omega)) ⟨ho,?_⟩;rw[listMul_foldl_if];refine⟨.ref s.heap.objs.size,_,I.laid (t':=s.toks) (o:= .lst (List.replicate k.toNat xs).flatten) (λ b ob z=>z1a _ z) (z0g _) ?_,rfl,q _ (I.hok.fresh (z0g _)) (Inv.Zh I)⟩;exact⟨by rw[len_rep,Nat.mul_comm];exact z0b hz dO,_,_,r.rep k.toNat,z1f _ rfl⟩
theorem aN.adR {p:Addr} {o:HO} {vs:List V} (h:aN K O H ds vs) (hp:H p=none) (hk:K.lookup p=none):aN K (λ b=>O b\/b=p) (upd H p o) ds vs:=
 h.go ⟨(Same.dJ (K:=K) (O:=O) (Same.upd hp)).ext,λ a z=>z.elim .inl λ e=> .inr (by rw[e];exact⟨hp,hk⟩),(Same.dJ (K:=K) (O:=O) (Same.upd hp)).dom⟩
def Z0:D->D->R D
 | .lst xs,.lst ys=>if xs.length+ys.length<=1000000 then .ok (.lst (xs++ys)) else .bad
 |_,_=> .bad
def Z1:D->D->R D
 | .lst ds,.int k=>if ds≠[]/\1<=k/\k < 2 ^ 63/\ds.length*k.toNat<=1000000 then .ok (.lst (List.replicate k.toNat ds).flatten) else .bad
 |_,_=> .bad
theorem abZ {a b:Expr} {g:ao->R D} (ha:DE X a f) (hb:DE X b g):DEF X (.BinOp a .Add b pos) (bin f g Z0):=by
 refine PE.imp (pe_op ZW ha hb) λ σ H Q h=>?_;obtain⟨ρ,O,j,h⟩:=h;refine go j h λ dx x H1 e1 s1 r1 j1 h1=>go j1 h1 λ dy y H2 e2 s2 r2 j2 h2=>?_;unfold Z0 at h2;split at h2
 ·rename_i xs ys;by_cases hc:xs.length+ys.length<=1000000
  ·rw[if_pos hc] at h2;obtain⟨a,us,rfl,ha,_,q1⟩:=(r1.same s2).lst;obtain⟨b,ws,rfl,hb,_,q2⟩:=r2.lst;exact⟨a,b,us,ws,rfl,rfl,ha,hb,by rw[<-q1.length,<-q2.length];exact z0b hc dO,λ p hp hk=>h2 _ _ (Same.upd hp) ⟨p,_,_,rfl,rfl,Same.free (s1.trans s2) hp,hk,upd_same,(q1.append q2).adR hp hk⟩⟩
  ·rw[if_neg hc] at h2;exact h2.elim
 ·exact h2.elim
theorem ab0 {a b:Expr} {g:ao->R D} (ha:DE X a f) (hb:DE X b g):DEF X (.BinOp a .Mult b pos) (bin f g Z1):=by
 refine PE.imp (pe_op ZX ha hb) λ σ H Q h=>?_;obtain⟨ρ,O,j,h⟩:=h;refine go j h λ dx x H1 e1 s1 r1 j1 h1=>go j1 h1 λ dy y H2 e2 s2 r2 j2 h2=>?_;unfold Z1 at h2;split at h2
 ·rename_i ds k;by_cases hc:ds≠[]/\1<=k/\k < 2 ^ 63/\ds.length*k.toNat<=1000000
  ·rw[if_pos hc] at h2;obtain⟨a,us,rfl,ha,_,q1⟩:=(r1.same s2).lst;obtain⟨h0,h1',h2',h3⟩:=hc;exact⟨a,k,us,rfl,r2.int,ha,h1',h2',by rw[<-q1.length];exact h3,λ p hp hk=>h2 _ _ (Same.upd hp) ⟨p,_,_,rfl,rfl,Same.free (s1.trans s2) hp,hk,upd_same,(xR q1 _).adR hp hk⟩⟩
  ·rw[if_neg hc] at h2;exact h2.elim
 ·exact h2.elim
def Iv (i:Nat) (fk fv:ao->R D):ao->So:=λ ρ=>fj (Cj (fv ρ)) ρ λ d=>match ρ[i]? with
 | some (some (.lst ds))=>fj (Cj (fk ρ)) ρ λ k=>match k with
  | .int k=>if 0<=k/\k < ds.length then .nx (ρ.set i (some (.lst (ds.set k.toNat d)))) else .bad
  |_=> .bad
 |_=> .bad
theorem aN.set {v:V} (rv:Rep K O H d v):∀{ds:List D} {vs:List V} (k:Nat),aN K O H ds vs->aN K O H (ds.set k d) (vs.set k v)
 |[],vs,_,h=>by rw[h.nil_inv];exact .nil
 | x::ds,vs,k,h=>by
  obtain⟨w,r,rfl,h1,h2⟩:=h.cons_inv;cases k with
  |zero=>exact .cons rv h2
  |succ k=>exact .cons h1 (aN.set rv k h2)
theorem Sd (i:Nat) {ek ev:Expr} {fk fv:ao->R D} (hk:DE X ek fk) (hv:DE X ev fv) (hN:X.N[i]?=some x:=by rfl) (hvs:Vis X.env.scope x:=by first |exact Or.inl rfl |exact Or.inr (Or.inl rfl) |exact Or.inr (Or.inr rfl))
  (hd:(x ==("__debug__" :Str))=false:=by decide) (hcd:(x ==("__classdict__" :Str))=false:=by decide)
  (ha:∀v,assign (.Subscript (.Name x px) ek pos') X.env v=(do
   let ov <-holding [v] (eval (.Name x px) X.env)
   let iv <-holding [v,ov] (eval ek X.env)
   standAt pos'
   holding [v,ov,iv] (setItem ov iv v)
   release [v,ov,iv] []):=by intro _;rfl)
  (hs:swapsWithSole [.Subscript (.Name x px) ek pos'] ev pos.line X.env=pure false:=by rfl) (hw:swappedStores [.Subscript (.Name x px) ek pos'] ev X.env=pure none:=by rfl)
  (h1:(assignEach [.Subscript (.Name x px) ek pos'] X.env).map (·.2)=[assign (.Subscript (.Name x px) ek pos') X.env]:=by rfl):
  DS X (.Assign [.Subscript (.Name x px) ek pos'] ev pos) (Iv i fk fv):=by
 refine PS.imp (ps_asg hv (pg_sub (pe_var hN hvs hd hcd) hk set_list ha) hs hw h1) λ σ H E h=>?_;obtain⟨H0,O0,O,ρ,j,h⟩:=h;unfold Iv at h;refine⟨ρ,O,j.inn,?_⟩;cases q2:fv ρ with
 |bad=>rw[q2] at h;exact h.elim
 |err c=>rw[q2] at h;exact h.elim
 | ok d =>
  rw[q2] at h;intro v H1 s1 rv;have h:rN X H0 O0 O H E (match ρ[i]? with
   | some (some (.lst ds))=>fj (Cj (fk ρ)) ρ λ k=>match k with
    | .int k=>if 0<=k/\k < ds.length then .nx (ρ.set i (some (.lst (ds.set k.toNat d)))) else .bad
    |_=> .bad
   |_=> .bad):=h
  split at h
  ·rename_i ds q;obtain⟨w,hw1,a,xs,rfl,hO,hH,rs⟩:=j.inn.env.get i _ q;refine⟨.ref a,hw1,?_⟩;have j1:=j.grow s1;refine⟨ρ,O,j1.inn,?_⟩;cases q1:fk ρ with
   |bad=>rw[q1] at h;exact h.elim
   |err c=>rw[q1] at h;exact h.elim
   | ok k=>
    rw[q1] at h;intro y H2 s2 ry;cases k with
    | int k=>
     have h:rN X H0 O0 O H E (if 0<=k/\k < ds.length then .nx (ρ.set i (some (.lst (ds.set k.toNat d)))) else .bad):=h;by_cases hc:0<=k/\k < ds.length
     ·rw[if_pos hc] at h;have j2:=j1.grow s2;have hH2:=s2 _ _ (s1 _ _ hH);have yO:=(rs.same s1).same s2;have hlen:=yO.length;refine⟨a,xs,k,k.toNat,rfl,ry.int,hH2,by unfold ixN;rw[if_pos hc.1,if_pos (by omega)],?_⟩;obtain⟨j3,r3⟩:=j2.chg (o:= .lst (xs.set k.toNat v)) (en:= .lst (ds.set k.toNat d)) q rfl hw1 hO hH2 trivial rfl λ r=>⟨a,_,rfl,hO,upd_same,(aN.set (rv.same s2) k.toNat yO).go r⟩;exact h _ _ _ j3 ((Same.dJ (s1.trans s2)).trans r3)
     ·rw[if_neg hc] at h;exact h.elim
    |_=>exact h.elim
  ·exact h.elim
end
inductive dM (K:PySem.W.Frag) (O:Addr->Prop) (H:Hp):List Addr->List D->Prop
 |nil:dM K O H [] []
 |cons {r:Addr} {zs:List V} {es:List D} {rs:List Addr} {ds:List D}:H r=some (.lst zs)->aN K O H es zs->dM K O H rs ds->dM K O H (r::rs) (.lst es::ds)
section
variable {K:PySem.W.Frag} {O O':Addr->Prop} {H H':Hp} {rs:List Addr} {ds:List D}
theorem dM.same (s:Same H H') (h:dM K O H rs ds):dM K O H' rs ds:=by
 induction h with
 |nil=>exact .nil
 |cons e r _ ih=>exact .cons (s _ _ e) (r.same s) ih
theorem dM.fewer (w:∀a,O' a->O a) (h:dM K O H rs ds):dM K O' H rs ds:=by
 induction h with
 |nil=>exact .nil
 |cons e r _ ih=>exact .cons e (r.fewer w) ih
theorem dM.app {r:Addr} {zs:List V} {es:List D} (e:H r=some (.lst zs)) (q:aN K O H es zs) (h:dM K O H rs ds):dM K O H (rs++[r]) (ds++[.lst es]):=by
 induction h with
 |nil=>exact .cons e q .nil
 |cons e' r' _ ih=>exact .cons e' r' ih
theorem dM.len (h:dM K O H rs ds):rs.length=ds.length:=by
 induction h with
 |nil=>rfl
 |cons _ _ _ ih=>rw[List.length_cons,List.length_cons,ih]
theorem dM.go (rc:eF K O H O' H') (st:∀r∈rs,∀zs,H r=some (.lst zs)->H' r=some (.lst zs)) (h:dM K O H rs ds):dM K O' H' rs ds:=by
 induction h with
 |nil=>exact .nil
 |cons e q _ ih=>exact .cons (st _ (List.mem_cons_self ..) _ e) (q.go rc) (ih λ r hr=>st r (z2f _ hr))
theorem dM.there (h:dM K O H rs ds):∀r∈rs,∃zs,H r=some (.lst zs):=by
 induction h with
 |nil=>exact λ r hr=>absurd hr (by simp)
 | cons e q _ ih=>
  intro r hr;rcases List.mem_cons.mp hr with z |z
  ·rw[z];exact⟨_,e⟩
  ·exact ih r z
theorem dM.reps (h:dM K O H rs ds) (n:∀r∈rs,¬O r):aN K O H ds (rs.map V.ref):=by
 induction h with
 |nil=>exact .nil
 |cons e q _ ih=>exact .cons (gG (SqL.of e) (n _ (List.mem_cons_self ..)) q) (ih λ r hr=>n r (z2f _ hr))
end
def acN (K:PySem.W.Frag):Hp->Addr->(Addr->Prop)->Hp->List D->List V->Prop:=λ H2 a O H' ds ys=>
 ∃rs:List Addr,ys=rs.map V.ref/\rs.Nodup/\(∀r∈rs,H2 r=none/\K.lookup r=none/\r≠a)/\dM K (λ b=>O b\/b=a) H' rs ds
theorem adS:AcR K (reF K) (acN K) where
 nil:=⟨[],rfl,.nil,λ _ h=>absurd h (by simp),.nil⟩
 same:=λ ⟨rs,e,nd,al,rr⟩ _ s=>⟨rs,e,nd,al,rr.same s⟩
 len:=λ ⟨rs,e,_,_,rr⟩=>by rw[e,z1g,rr.len]
 app :=by
  rintro H2 a O H7 H8 ds ys d v ⟨rs,e,nd,al,rr⟩ ha h7 s1 s2 ⟨r,zs,es,rfl,rfl,n7,nk,e8,q⟩ rc
  have hra:r≠a:=λ z=>by rw[z,h7] at n7;cases n7
  have hnr:r∉rs:=λ z=>by
   obtain⟨zs',e'⟩:=rr.there r z;rw[n7] at e';cases e'
  subst e;refine⟨rs++[r],by rw[List.map_append];rfl,?_,λ x hx=>?_,?_⟩
  ·refine List.nodup_append.mpr ⟨nd,List.nodup_cons.mpr ⟨by simp,.nil⟩,λ x hx y hy z=>?_⟩;rw[List.mem_singleton] at hy;subst hy;subst z;exact hnr hx
  ·rcases List.mem_append.mp hx with z |z
   ·exact al x z
   ·rw[List.mem_singleton.mp z];exact⟨Same.free s1 n7,nk,hra⟩
  ·refine ((rr.same s2).go rc λ x hx zs e=>?_).app ?_ ((q.fewer λ b z=> .inl z).go rc)
   ·rw[upd_ne (al x hx).2.2];exact e
   ·rw[upd_ne hra];exact e8
def reN (K:PySem.W.Frag):Hp->(Addr->Prop)->Hp->D->V->Prop:=λ H0 O H' d v=>
 ∃(a:Addr) (rs:List Addr) (ds:List D),d= .lst ds/\v= .ref a/\H0 a=none/\K.lookup a=none/\H' a=some (.lst (rs.map V.ref))/\rs.Nodup/\(∀r∈rs,H0 r=none/\K.lookup r=none/\r≠a)/\dM K O H' rs ds
section
variable {X:Cx}
theorem Z4 (ts:List Str) (caps:List Nat)
  (hc:X.calm=true) (hb:vm X.env.scope scope ts X.N=true) (hcap:(dF scope).map (λ x=>jZ x X.N)=caps)
  (hi:DI X tg iter fi) (hk:kW ts.length gt) (hg:∀C s H ex,(bY X scope ts C s H ex).N.Nodup->DG (bY X scope ts C s H ex) tg gt) (ht:∀C s H ex,Ck (bY X scope ts C s H ex) ifs ft) (he:∀C s H ex,DEF (bY X scope ts C s H ex) elt fe)
  (hs:∀x,foldedSetIterable iter X.env x=pure x:=by intro _;rfl):W0 X (reN X.K) (.ListComp elt [⟨tg,iter,ifs,0⟩] scope pos) (bA ts.length caps fi gt ft fe):=by
 refine PE.imp (M4 adS ts caps hc hb hcap hi hk hg ht he hs) λ σ H Q h=>?_;obtain⟨ρ,O,j,h⟩:=h;exact⟨ρ,O,j,good.rel (λ d v H' sm ⟨Hs,a,ys,ds,e1,e2,s1,n1,k1,s2,e3,rs,e4,nd,al,rr⟩=>⟨a,rs,ds,e1,e2,Same.free s1 n1,k1,by rw[e3,e4],nd,λ r hr=>⟨Same.free s1 (al r hr).1,(al r hr).2⟩,rr.fewer λ _ z=> .inl z⟩) h⟩
def spN (K:PySem.W.Frag) (n:Nat) (F:List D->R D):Sp:=λ vs H Q _=>∃O ds,aN K O H ds vs/\ds.length=n/\(∀a,O a->∃o,H a=some o)/\match F ds with
 | .ok d=>∀v H',Same H H'->reN K H O H' d v->Q v H'
 |_=>False
theorem M5 {X:Cx} {vs:List V} (hN:X.N=N) (r:aN X.K O H ds vs) (al:∀a,O a->∃o,H a=some o) (hm:N.length=ds.length+m):
  At X H O O H (ds.map (λ d=>some (.val d))++List.replicate m none) (L2.start N vs):=by
 have hst:L2.start N vs=vs.map some++List.replicate m none:=by
  unfold L2.start;rw[show N.length - vs.length=m by rw[<-r.length];omega]
 refine⟨Same.refl _,.refl,λ _ z=>z,⟨⟨λ i e q=>?_,λ i k e e' v _ hi _ oi=>?_⟩,al,?_,?_⟩,λ i e a q ho=>?_⟩
 ·obtain⟨v,h1,h2,_⟩:=sJ r m i e q;exact⟨v,by rw[hst];exact h1,h2⟩
 ·obtain⟨_,_,_,h3⟩:=sJ r m i e hi;rw[h3] at oi;cases oi
 ·rw[hst,z1d,z1g,List.length_replicate,<-r.length,hN];omega
 ·rw[z1d,z1g,List.length_replicate,hN];omega
 ·obtain⟨_,_,_,h3⟩:=sJ r m i e q;rw[h3] at ho;cases ho
end
section
variable {P:Program} {w:World} {K:PySem.W.Frag} {mg:Str->Option Value} {base:Heap}
theorem fnN {qual:Str} {st:Stmt} {f:Addr} {fd:FuncData} {ps:List Str} {k n:Nat} {g1:ao->So} (Fn:Fun K x qual st f fd) (S:FnScope N ps (defScope st)) (hn:ps.length=n) (hm:N.length=n+m)
  (hb:∀(cdv:Value) (A:Around) (outer:List PySem.Env) (s:Shared) (H:Hp) (E:XK),Room k (A.deeper (envOfC qual (defScope st) s.heap.objs.size f cdv))->PSs (cxOf CX0 P w K mg base N qual (defScope st) f cdv A outer s H E).nox (defBody st) (tSeq (tS (cxOf CX0 P w K mg base N qual (defScope st) f cdv A outer s H E).nox g1) (tRet (tGr (cxOf CX0 P w K mg base N qual (defScope st) f cdv A outer s H E).nox (reN K) fe))))
  (hg1:∀ρ d,g1 ρ≠.rt d):FnOk P w K mg base CX0 (k+1) f fd ps (spN K n (cj m (aO g1 (retS fe)))):=by
 refine Fn.ok S (λ vs H Q E h=>?_) (λ cdv A outer s H vs Q E hr h=>?_)
 ·obtain⟨O,ds,r,hl,_⟩:=h;rw[hn,<-hl,r.length]
 ·obtain⟨O,ds,r,hl,al,h⟩:=h;refine⟨_,hb cdv A outer s H E hr,H,O,O,ds.map (λ d=>some (.val d))++List.replicate m none,M5 (X:=(cxOf CX0 P w K mg base N qual (defScope st) f cdv A outer s H E).nox) (N:=N) rfl r al (by omega),?_⟩;cases e:cj m (aO g1 (retS fe)) ds with
  |bad=>rw[e] at h;exact h.elim
  |err c=>rw[e] at h;exact h.elim
  | ok d=>
   rw[e] at h;unfold cj aO at e;cases e2:g1 (ds.map (λ d=>some (.val d))++List.replicate m none) with
   |bad=>rw[e2] at e;cases e
   |rt d'=>exact absurd e2 (hg1 _ _)
   |bk _=>rw[e2] at e;cases e
   |ct _=>rw[e2] at e;cases e
   |ex _ _=>rw[e2] at e;cases e
   | nx ρ1=>
    rw[e2] at e;intro σ' H' O' j' _;refine⟨cG ρ1,Ez ρ1 σ' O',j'.inn.cG,?_⟩;have e:(match fj (fe (cG ρ1)) ρ1 .rt with
     | .rt d=>R.ok d
     | .nx _=> .ok .non
     | .ex c _=> .err c
     |_=> .bad)= .ok d:=e
    cases e3:fe (cG ρ1) with
    |bad=>rw[e3] at e;cases e
    |err c=>rw[e3] at e;cases e
    | ok d'=>
     rw[e3] at e;cases e
     rintro v wz sm ⟨a,rs,es,e4,e5,n1,k1,e6,nd,al',rr⟩
     exact h v wz (j'.same.trans sm) ⟨a,rs,es,e4,e5,Same.free j'.same n1,k1,e6,nd,λ r hr=>⟨Same.free j'.same (al' r hr).1,(al' r hr).2⟩,rr.fewer j'.adp⟩
def Uq (P:Program) (w:World) (K:PySem.W.Frag) (mg:Str->Option Value) (base:Heap) (k:Nat) (x:Str) (n:Nat) (F:List D->R D):Prop:=
 ∃f fd ps,FnOk P w K mg base CX0 k f fd ps (spN K n F)/\mg x=some (.ref f)/\PySem.W.keepIn K (.ref f)=true/\Binds K fd ps []
end
def tk (rows:List (List Bool)):D:= .lst (rows.map λ r=> .lst (r.map D.bl))
def il (zs:List Int):D:= .lst (zs.map D.int)
structure m6 (H:Hp) (rs:List Addr) (rows:List (List Bool)):Prop where
 len:rs.length=rows.length
 at_:∀(i:Nat) r row,rs[i]?=some r->rows[i]?=some row->H r=some (.lst (row.map V.bl))
def But (rs:List Addr) (H H':Hp):Prop:=∀b u,b∉rs->H b=some u->H' b=some u
theorem But.trans {H1 H2:Hp} (h:But rs H H1) (k:But rs H1 H2):But rs H H2:=λ b u n e=>k b u n (h b u n e)
theorem But.of {H1:Hp} (h:Same H H1):But rs H H1:=λ b u _ e=>h b u e
theorem m6.same {H':Hp} (h:m6 H rs rows) (s:Same H H'):m6 H' rs rows:=⟨h.len,λ i r row e1 e2=>s _ _ (h.at_ i r row e1 e2)⟩
theorem Sg {K:PySem.W.Frag} {O:Addr->Prop} {H:Hp}:∀(row:List Bool),aN K O H (row.map D.bl) (row.map V.bl)
 |[]=> .nil
 |b::row=> .cons (gM b) (Sg row)
theorem Cu {K:PySem.W.Frag} {O:Addr->Prop} {H:Hp}:∀{row:List Bool} {vs:List V},aN K O H (row.map D.bl) vs->vs=row.map V.bl
 |[],vs,h=>h.nil_inv
 | b::row,vs,h=>by
  obtain⟨x,r,rfl,h1,h2⟩:=h.cons_inv;rw[h1.bl,Cu h2];rfl
theorem vp {K:PySem.W.Frag} {O:Addr->Prop} {H:Hp}:∀{zs:List Int} {vs:List V},aN K O H (zs.map D.int) vs->vs=zs.map V.int
 |[],vs,h=>h.nil_inv
 | b::row,vs,h=>by
  obtain⟨x,r,rfl,h1,h2⟩:=h.cons_inv;rw[h1.int,vp h2];rfl
theorem Iw {K:PySem.W.Frag} {O:Addr->Prop} {H:Hp}:∀(zs:List Int),aN K O H (zs.map D.int) (zs.map V.int)
 |[]=> .nil
 |b::row=> .cons (cB b) (Iw row)
theorem m6.reps {K:PySem.W.Frag} {O:Addr->Prop} {H:Hp}:∀{rs:List Addr} {rows:List (List Bool)},m6 H rs rows->(∀r∈rs,¬O r)->aN K O H (rows.map λ r=>D.lst (r.map D.bl)) (rs.map V.ref)
 |[],[],_,_=> .nil
 |[],_::_,h,_=>by cases h.len
 |_::_,[],h,_=>by cases h.len
 | r ::rs,row::rows,h,n=> .cons (gG (SqL.of (h.at_ 0 r row rfl rfl)) (n r (List.mem_cons_self ..)) (Sg row))
     (m6.reps ⟨by simpa using h.len,λ i r row e1 e2=>h.at_ (i+1) r row e1 e2⟩ λ r hr=>n r (z2f _ hr))
structure wB (X:Cx) (a:Addr) (rs:List Addr) (rows:List (List Bool)) (H:Hp) (ρ:ao) (σ:St):Prop where
 inn:In X (λ _=>False) H ρ σ
 s0:σ[0]?=some (some (.ref a))
 r0:ρ[0]?=some (some (.val (tk rows)))
 r1:∃zs:List Int,zs≠[]/\ρ[1]?=some (some (.val (il zs)))
 rk:∀(k:Nat) e,2<=k->ρ[k]?=some (some e)->∃i,e= .val (.int i)
 ha:H a=some (.lst (rs.map V.ref))
 hr:m6 H rs rows
 nd:rs.Nodup
 off:∀r∈rs,X.K.lookup r=none/\r≠a
 ne:∀row∈rows,row≠[]
def rQ (X:Cx) (a:Addr) (rs:List Addr) (g:ao->So):TS:=λ E σ H=>∃rows ρ ρ',wB X a rs rows H ρ σ/\g ρ= .nx ρ'/\∀rows' σ' H',wB X a rs rows' H' ρ' σ'->But rs H H'->E.nx σ' H'
section
variable {X:Cx} {a:Addr} {rs:List Addr} {rows:List (List Bool)} {H H':Hp} {ρ:ao} {σ:St} {st:Stmt} {rest:List Stmt} {g k:ao->So} {e:Expr} {f:ao->R D} {pos:Pos}
theorem wB.same (c:wB X a rs rows H ρ σ) (s:Same H H'):wB X a rs rows H' ρ σ:=⟨c.inn.same s,c.s0,c.r0,c.r1,c.rk,s _ _ c.ha,c.hr.same s,c.nd,c.off,c.ne⟩
theorem wB.Z5 (c:wB X a rs rows H ρ σ) (h2:2<=i) (hi:i < X.N.length) (n:Int):wB X a rs rows H (ρ.set i (some (.val (.int n)))) (σ.set i (some (.int n))):=by
 refine⟨c.inn.set hi (cB n),?_,?_,?_,λ k e hk h=>?_,c.ha,c.hr,c.nd,c.off,c.ne⟩
 ·rw[z1e (by omega)];exact c.s0
 ·rw[z1e (by omega)];exact c.r0
 ·obtain⟨zs,z1,z2⟩:=c.r1;exact⟨zs,z1,by rw[z1e (by omega)];exact z2⟩
 ·by_cases z:k=i
  ·subst z;rw[z2a (by rw[c.inn.m9];exact hi)] at h;cases h;exact⟨n,rfl⟩
  ·rw[z1e (Ne.symm z)] at h;exact c.rk k e hk h
theorem adT:PSs X [] (rQ X a rs So.nx):=PSs.imp pss_nil λ σ H E h=>by
 obtain⟨rows,ρ,ρ',c,e,fin⟩:=h;cases e;exact fin rows σ H c λ _ _ _ z=>z
theorem M6 (h:PS X st (rQ X a rs g)):PSs X [st] (rQ X a rs g):=pss_one h
theorem sW (h1:PS X st (rQ X a rs g)) (h2:PSs X rest (rQ X a rs k)):PSs X (st::rest) (rQ X a rs (aO g k)):=by
 refine PSs.imp (pss_cons h1 h2) λ σ H E h=>?_;obtain⟨rows,ρ,ρ',c,e,fin⟩:=h;unfold aO at e;cases e1:g ρ with
 | nx ρ1=>
  rw[e1] at e;exact⟨rows,ρ,ρ1,c,e1,λ Bx σ1 H1 c1 b1=>⟨Bx,ρ1,ρ',c1,e,λ rows' σ' H' c' b'=>fin rows' σ' H' c' (b1.trans b')⟩⟩
 |_=>rw[e1] at e;cases e
def xZ (f:ao->R D) (i:Nat):ao->So:=λ ρ=>match f ρ with
 | .ok (.int n)=> .nx (ρ.set i (some (.val (.int n))))
 |_=> .bad
theorem zN (i:Nat) (h2:2<=i) (hN:X.N.Nodup) (he:DE X e f) (hi:X.N[i]?=some x:=by rfl) (hx:Loc X.env.scope x:=by first |exact Or.inl rfl |exact Or.inr rfl) (hs:swapsWith e (some (.Name x pos')) pos.line X.env=pure false:=by rfl)
  (hf:X.fn x=true\/X.env.scope.names.lookup x=some .local:=by first |exact .inl rfl |exact .inr rfl):PS X (.Assign [.Name x pos'] e pos) (rQ X a rs (xZ f i)):=by
 refine PS.imp (ps_set hN hi hx he hs hf) λ σ H E h=>?_;obtain⟨rows,ρ,ρ',c,q,fin⟩:=h;refine⟨ρ,_,c.inn,?_⟩;unfold xZ at q;split at q
 ·rename_i n e1;cases q;rw[e1];intro v H' s r;rw[r.int];exact fin rows _ H' ((c.same s).Z5 h2 (z1b hi).1 n) (But.of s)
 ·cases q
def M7 (i k:Nat) (f g:ao->R D):ao->So:=λ ρ=>match f ρ,g ρ with
 | .ok (.int n),.ok (.int m)=> .nx ((ρ.set i (some (.val (.int n)))).set k (some (.val (.int m))))
 |_,_=> .bad
theorem adU (i k:Nat) {y:Str} {b1 b2:Expr} {f g:ao->R D} {py pt:Pos} {kt k2 pt2} (hi2:2<=i) (hk2:2<=k) (hc:X.calm=true) (hN:X.N.Nodup) (ha:DE X b1 f) (hb:DE X b2 g) (hi:X.N[i]?=some x:=by rfl) (hk:X.N[k]?=some y:=by rfl) (hik:i≠k:=by decide)
  (hx:X.env.scope.names.lookup x=some .local:=by rfl) (hy:X.env.scope.names.lookup y=some .local:=by rfl)
  (h1:starEach [b1,b2] X.env=(false,eval b1 X.env)::starEach [b2] X.env:=by rfl) (h2:starEach [b2] X.env=(false,eval b2 X.env)::starEach [] X.env:=by rfl)
  (hw:swappedStores [.Tuple [.Name x px,.Name y py] kt pt] (.Tuple [b1,b2] k2 pt2) X.env=pure (some [x,y]):=by rfl)
  (hs:swapsWithSole [.Tuple [.Name x px,.Name y py] kt pt] (.Tuple [b1,b2] k2 pt2) pos.line X.env=pure false:=by rfl):
  PS X (.Assign [.Tuple [.Name x px,.Name y py] kt pt] (.Tuple [b1,b2] k2 pt2) pos) (rQ X a rs (M7 i k f g)):=by
 refine PS.imp (ps_par hc hN hi hk hik hx hy (pa_cons ha (pa_cons hb pa_nil h2) h1) hw hs) λ σ H E h=>?_;obtain⟨rows,ρ,ρ',c,q,fin⟩:=h;refine⟨ρ,_,c.inn,?_⟩;unfold M7 at q;split at q
 ·rename_i n m e1 e2;cases q;rw[e1];intro v H1 s1 r1;rw[r1.int];refine⟨ρ,_,c.inn.same s1,?_⟩;rw[e2];intro w H2 s2 r2;rw[r2.int];refine⟨.int n,.int m,rfl,?_⟩;exact fin rows _ H2 ((((c.same s1).same s2).Z5 hi2 (z1b hi).1 n).Z5 hk2 (z1b hk).1 m) (But.of (s1.trans s2))
 ·cases q
def M8 (p:ao->R Bool) (g k:ao->So):ao->So:=λ ρ=>match p ρ with
 | .ok true=>g ρ
 | .ok false=>k ρ
 |_=> .bad
theorem afJ {c:Expr} {p:ao->R Bool} {b1 b2:List Stmt} (hc:DT X c p) (ha:PSs X b1 (rQ X a rs g)) (hb:PSs X b2 (rQ X a rs k)):PS X (.If c b1 b2 pos) (rQ X a rs (M8 p g k)):=by
 refine PS.imp (ps_if hc ha hb) λ σ H E h=>?_;obtain⟨rows,ρ,ρ',cc,q,fin⟩:=h;refine⟨ρ,_,cc.inn,?_⟩;unfold M8 at q;split at q
 ·rename_i e1;rw[e1];intro b H1 s1 e2;have e2:true=b:=e2;subst e2;rw[if_pos rfl];exact⟨rows,ρ,ρ',cc.same s1,q,λ rows' σ' H' c' b'=>fin rows' σ' H' c' ((But.of s1).trans b')⟩
 ·rename_i e1;rw[e1];intro b H1 s1 e2;have e2:false=b:=e2;subst e2;rw[if_neg Bool.false_ne_true];exact⟨rows,ρ,ρ',cc.same s1,q,λ rows' σ' H' c' b'=>fin rows' σ' H' c' ((But.of s1).trans b')⟩
 ·cases q
def Cv (p:ao->R Bool) (b:ao->So):Nat->ao->So
 |0,_=> .bad
 | n +1,ρ=>match p ρ with
  | .ok true=>match b ρ with
   | .nx ρ'=>Cv p b n ρ'
   |_=> .bad
  | .ok false=> .nx ρ
  |_=> .bad
theorem Z6 (n:Nat) {c:Expr} {p:ao->R Bool} {body:List Stmt} (hp:PassesOwn (model X.prog X.w) X.A X.env X.xe) (hc:DT X c p) (hb:PSs X body (rQ X a rs g)):PS X (.While c body [] pos) (rQ X a rs (Cv p g n)):=by
 refine PS.imp (ps_while hp hc hb) λ σ H E h=>?_;obtain⟨rows,ρ,ρ',cc,q,fin⟩:=h;refine⟨λ m σ1 H1=>∃Bx ρ1,wB X a rs Bx H1 ρ1 σ1/\But rs H H1/\Cv p g m ρ1= .nx ρ',⟨n,rows,ρ,cc,λ _ _ _ z=>z,q⟩,?_⟩
 rintro m σ1 H1 ⟨Bx,ρ1,c1,b1,q1⟩
 refine⟨ρ1,_,c1.inn,?_⟩;cases m with
 |zero=>cases q1
 | succ m=>
  have q1:(match p ρ1 with
   | .ok true=>match g ρ1 with
    | .nx ρ'=>Cv p g m ρ'
    |_=> .bad
   | .ok false=> .nx ρ1
   |_=> .bad)= .nx ρ':=q1
  cases e1:p ρ1 with
  |bad=>rw[e1] at q1;cases q1
  |err c=>rw[e1] at q1;cases q1
  | ok t=>
   rw[e1] at q1;intro b H2 s2 e2;have e2:t=b:=e2;subst e2;cases t with
   | false=>
    cases q1;rw[if_neg Bool.false_ne_true];exact fin Bx σ1 H2 (c1.same s2) (b1.trans (But.of s2))
   | true=>
    rw[if_pos rfl];have q1:(match g ρ1 with
     | .nx ρ'=>Cv p g m ρ'
     |_=> .bad)= .nx ρ':=q1
    cases e3:g ρ1 with
    | nx ρ2=>
     rw[e3] at q1;refine⟨λ σ3 H3=>∃Ur,wB X a rs Ur H3 ρ2 σ3/\But rs H H3,λ σ3 H3 ⟨Ur,c3,b3⟩=>⟨m,Nat.lt_succ_self m,Ur,ρ2,c3,b3,q1⟩,?_⟩;exact⟨Bx,ρ1,ρ2,c1.same s2,e3,λ rows' σ' H' c' b'=>⟨rows',c',(b1.trans (But.of s2)).trans b'⟩⟩
    |_=>rw[e3] at q1;cases q1
def Gb (iy ix:Nat) (fv:ao->R D):ao->So:=λ ρ=>match fv ρ,bL ρ 0,bL ρ iy,bL ρ ix with
 | .ok (.bl b),.ok (.lst rows),.ok (.int y),.ok (.int x)=>match rows[y.toNat]? with
  |some (.lst cs)=>if 0<=y/\0<=x/\x < cs.length then .nx (ρ.set 0 (some (.val (.lst (rows.set y.toNat (.lst (cs.set x.toNat (.bl b)))))))) else .bad
  |_=> .bad
 |_,_,_,_=> .bad
theorem Xc {α:Type} {l:List α} (h:l.Nodup) {j:Nat} {x:α} (hi:l[i]?=some x) (hj:l[j]?=some x):i=j:=by
 obtain⟨h1,e1⟩:=z1b hi;obtain⟨h2,e2⟩:=z1b hj;rcases Nat.lt_trichotomy i j with z |z |z
 ·exact absurd (e1.trans e2.symm) (List.pairwise_iff_getElem.mp h i j h1 h2 z)
 ·exact z
 ·exact absurd (e2.trans e1.symm) (List.pairwise_iff_getElem.mp h j i h2 h1 z)
theorem wB.put (c:wB X a rs rows H ρ σ) {y x:Nat} {row:List Bool} {r:Addr} {b:Bool} (hr:rs[y]?=some r) (hy:rows[y]?=some row):
  wB X a rs (rows.set y (row.set x b)) (upd H r (.lst ((row.map V.bl).set x (.bl b)))) (ρ.set 0 (some (.val (tk (rows.set y (row.set x b)))))) σ/\But rs H (upd H r (.lst ((row.map V.bl).set x (.bl b)))):=by
 have hmr:r∈rs:=List.mem_of_getElem? hr;have hH:=c.hr.at_ y r row hr hy;have hne:row≠[]:=c.ne row (List.mem_of_getElem? hy);obtain⟨hk,hra⟩:=c.off r hmr;have hyl:y < rows.length:=(z1b hy).1;have h0l:0 < ρ.length:=(z1b c.r0).1;have bt:But rs H (upd H r (.lst ((row.map V.bl).set x (.bl b)))):=λ p u n e=>by
  rw[upd_ne λ z=>n (by rw[z];exact hmr)];exact e
 have hr':m6 (upd H r (.lst ((row.map V.bl).set x (.bl b)))) rs (rows.set y (row.set x b)):=by
  refine⟨by rw[List.length_set];exact c.hr.len,λ i r' M9 e1 e2=>?_⟩;by_cases z:i=y
  ·subst z;rw[hr] at e1;cases e1;rw[z2a hyl] at e2;cases e2;rw[upd_same,List.map_set]
  ·rw[z1e (Ne.symm z)] at e2;rw[upd_ne (λ w=>z (Xc c.nd e1 (by rw[w];exact hr)))];exact c.hr.at_ i r' M9 e1 e2
 have ha':(upd H r (.lst ((row.map V.bl).set x (.bl b)))) a=some (.lst (rs.map V.ref)):=by rw[upd_ne (Ne.symm hra)];exact c.ha
 refine⟨⟨⟨⟨λ k e h=>?_,λ i k e e' v hik hi hk' oi=>?_⟩,λ _ z=>z.elim,c.inn.len,by rw[List.length_set];exact c.inn.m9⟩,c.s0,z2a h0l,?_,λ k e hk2 h=>?_,ha',hr',c.nd,c.off,λ M9 h=>?_⟩,bt⟩
 ·by_cases z:k=0
  ·subst z;rw[z2a h0l] at h;cases h;exact⟨_,c.s0,gG (SqL.of ha') (λ z=>z) (hr'.reps λ _ _ z=>z)⟩
  ·rw [z1e (Ne.symm z)] at h;by_cases z1:k=1
   ·subst z1;obtain⟨zs,zne,e1⟩:=c.r1;rw[e1] at h;cases h;obtain⟨v,h1,h2⟩:=c.inn.env.get 1 _ e1;refine⟨v,h1,?_⟩;obtain⟨p,us,rfl,hq,_,rr⟩:=Rep.lst h2;have eu:=vp rr;subst eu;have hpr:p≠r:=λ z=>by
     subst z;rcases hq with hq |⟨o,_,_,hq,_⟩
     ·rcases hq with hq |⟨o,hq⟩ <;> rw[hH] at hq
      ·have e2:=Option.some.inj hq;have e2:row.map V.bl=zs.map V.int:=by injection e2
       cases row with
       |nil=>exact hne rfl
       | cons b row=>
        cases zs with
        |nil=>cases e2
        |cons z zs=>cases e2
      ·cases hq
     ·rw[hk] at hq;cases hq
    refine gG ?_ (λ z=>z) (Iw zs);rcases hq with hq |hq
    ·rcases hq with hq |⟨o,hq⟩
     ·exact .inl (.inl (by rw[upd_ne hpr];exact hq))
     ·exact .inl (.inr ⟨o,by rw[upd_ne hpr];exact hq⟩)
    ·exact .inr hq
   ·obtain⟨i,rfl⟩:=c.rk k e (by omega) h;obtain⟨v,h1,h2⟩:=c.inn.env.get k _ h;have h2:Rep X.K (λ _=>False) H (.int i) v:=h2;refine⟨v,h1,?_⟩;show Rep X.K (λ _=>False) (upd H r (.lst ((row.map V.bl).set x (.bl b)))) (.int i) v;rw[h2.int];exact cB i
 ·have vo:∀{m:Nat} {x:Ent},(ρ.set 0 (some (.val (tk (rows.set y (row.set ‹Nat› b))))))[m]?=some (some x)->True:=λ _=>trivial;by_cases z:i=0
  ·subst z;rw[z2a h0l] at hi;cases hi;cases oi
  ·rw[z1e (Ne.symm z)] at hi;by_cases z1:i=1
   ·subst z1;obtain⟨zs,_,e1⟩:=c.r1;rw[e1] at hi;cases hi;cases oi
   ·obtain⟨n,rfl⟩:=c.rk i e (by omega) hi;cases oi
 ·obtain⟨zs,z1,z2⟩:=c.r1;exact⟨zs,z1,by rw[z1e (by omega)];exact z2⟩
 ·rw[z1e (by omega)] at h;exact c.rk k e hk2 h
 ·rcases List.mem_or_eq_of_mem_set h with z |z
  ·exact c.ne M9 z
  ·rw[z];intro e;have:=congrArg List.length e;rw[List.length_set] at this;exact hne (List.eq_nil_of_length_eq_zero this)
theorem BJ {ρ:ao} (h:bL ρ i= .ok d):ρ[i]?=some (some (.val d)):=by
 unfold bL at h;split at h
 ·rename_i d' e;cases h;exact e
 ·cases h
theorem Z7 {α:Type} {xs:List α} {y:Int} {v:α} (h0:0<=y) (h:xs[y.toNat]?=some v):L2.atI xs y=some v:=by
 have hl:=(z1b h).1;unfold L2.atI ixN;rw[if_pos h0,if_pos (by omega)];exact h
theorem ab1 (iy ix:Nat) {t y:Str} {ev:Expr} {fv:ao->R D} {pt py ps:Pos} (hv:DE X ev fv) (hN:X.N[0]?=some t:=by rfl) (hNy:X.N[iy]?=some y:=by rfl) (hNx:X.N[ix]?=some x:=by rfl)
  (hvt:Vis X.env.scope t:=by first |exact Or.inl rfl |exact Or.inr (Or.inl rfl) |exact Or.inr (Or.inr rfl)) (hvy:Vis X.env.scope y:=by first |exact Or.inl rfl |exact Or.inr (Or.inl rfl) |exact Or.inr (Or.inr rfl)) (hvx:Vis X.env.scope x:=by first |exact Or.inl rfl |exact Or.inr (Or.inl rfl) |exact Or.inr (Or.inr rfl))
  (hd:(t ==("__debug__" :Str))=false:=by decide) (hcd:(t ==("__classdict__" :Str))=false:=by decide) (Wu:(y ==("__debug__" :Str))=false:=by decide) (agG:(y ==("__classdict__" :Str))=false:=by decide) (hdx:(x ==("__debug__" :Str))=false:=by decide) (agH:(x ==("__classdict__" :Str))=false:=by decide)
  (hp:PlainIx (.Name y py):=by exact λ _ _=>rfl)
  (ha:∀v,assign (.Subscript (.Subscript (.Name t pt) (.Name y py) ps) (.Name x px) pos') X.env v=(do
   let ov <-holding [v] (eval (.Subscript (.Name t pt) (.Name y py) ps) X.env)
   let iv <-holding [v,ov] (eval (.Name x px) X.env)
   standAt pos'
   holding [v,ov,iv] (setItem ov iv v)
   release [v,ov,iv] []):=by intro _;rfl)
  (hs:swapsWithSole [.Subscript (.Subscript (.Name t pt) (.Name y py) ps) (.Name x px) pos'] ev pos.line X.env=pure false:=by rfl) (hw:swappedStores [.Subscript (.Subscript (.Name t pt) (.Name y py) ps) (.Name x px) pos'] ev X.env=pure none:=by rfl)
  (h1:(assignEach [.Subscript (.Subscript (.Name t pt) (.Name y py) ps) (.Name x px) pos'] X.env).map (·.2)=[assign (.Subscript (.Subscript (.Name t pt) (.Name y py) ps) (.Name x px) pos') X.env]:=by rfl):
  PS X (.Assign [.Subscript (.Subscript (.Name t pt) (.Name y py) ps) (.Name x px) pos'] ev pos) (rQ X a rs (Gb iy ix fv)):=by
 refine PS.imp (ps_asg hv (pg_sub (pe_ix ix_seq (pe_var hN hvt hd hcd) (pe_var hNy hvy Wu agG) hp) (pe_var hNx hvx hdx agH) set_list ha) hs hw h1) λ σ H E h=>?_;obtain⟨rows,ρ,ρ',c,q,fin⟩:=h;refine⟨ρ,_,c.inn,?_⟩;unfold Gb at q;split at q
 ·rename_i b afK yi xi e1 e2 e3 e4;rw[e1];intro v H1 s1 rv;rw[rv.bl];have c1:=c.same s1;have e2':=BJ e2;rw[c1.r0] at e2';have e2':afK=rows.map λ r=>D.lst (r.map D.bl):=by
   have z:=Option.some.inj (Option.some.inj e2');injection z with z;injection z with z;exact z.symm
  subst e2';split at q
  ·rename_i cs e5;by_cases hc:0<=yi/\0<=xi/\xi < cs.length
   ·rw [if_pos hc] at q;rw[z2b] at e5;cases e6:rows[yi.toNat]? with
    |none=>rw[e6] at e5;cases e5
    | some row=>
     rw[e6] at e5;have e5:D.lst (row.map D.bl)=D.lst cs:=Option.some.inj e5;injection e5 with e5;subst e5;obtain⟨vy,hy1,hy2⟩:=c1.inn.env.get iy _ (BJ e3);obtain⟨vx,hx1,hx2⟩:=c1.inn.env.get ix _ (BJ e4);have hy2:vy= .int yi:=Rep.int (K:=X.K) (O:=λ _=>False) (H:=H1) hy2;have hx2:vx= .int xi:=Rep.int (K:=X.K) (O:=λ _=>False) (H:=H1) hx2;subst hy2 hx2;have hyr:yi.toNat < rs.length:=by rw[c1.hr.len];exact (z1b e6).1
     obtain⟨r,er⟩:∃r,rs[yi.toNat]?=some r:=⟨_,List.getElem?_eq_getElem hyr⟩;refine⟨.ref a,c1.s0,.int yi,hy1,.inl ⟨a,rs.map V.ref,yi,.ref r,rfl,rfl,SqL.of c1.ha,Z7 hc.1 (by rw[z2b,er];rfl),.int xi,hx1,?_⟩⟩;have hH:=c1.hr.at_ _ r row er e6;have hxl:xi < (row.map V.bl).length:=by rw[z1g];have:=hc.2.2;rw[z1g] at this;exact this
     refine⟨r,row.map V.bl,xi,xi.toNat,rfl,rfl,hH,by unfold ixN;rw[if_pos hc.2.1,if_pos hxl],?_⟩;obtain⟨c2,b2⟩:=c1.put (x:=xi.toNat) (b:=b) er e6;cases q;have et:(rows.map λ r=>D.lst (r.map D.bl)).set yi.toNat (.lst ((row.map D.bl).set xi.toNat (.bl b)))=(rows.set yi.toNat (row.set xi.toNat b)).map λ r=>D.lst (r.map D.bl):=by
      rw[List.map_set,List.map_set]
     refine fin (rows.set yi.toNat (row.set xi.toNat b)) _ _ ?_ ((But.of s1).trans b2);rw[et];exact c2
   ·rw[if_neg hc] at q;cases q
  ·cases q
 ·cases q
end
def spC (K:PySem.W.Frag) (g:ao->So) (m:Nat):Sp:=λ vs H Q _=>∃(a:Addr) (rs:List Addr) (rows rows':List (List Bool)) (zs:List Int) (v:V) (ρ':ao),vs=[.ref a,v]/\H a=some (.lst (rs.map V.ref))/\m6 H rs rows/\rs.Nodup/\(∀r∈rs,K.lookup r=none/\r≠a)/\(∀row∈rows,row≠[])/\
 Rep K (λ _=>False) H (il zs) v/\zs≠[]/\g (some (.val (tk rows))::some (.val (il zs))::List.replicate m none)= .nx ρ'/\ρ'[0]?=some (some (.val (tk rows')))/\∀H',But rs H H'->m6 H' rs rows'->Q .non H'
theorem adV:∀{r s:List (List Bool)},tk r=tk s->r=s:=by
 have b:∀{x y:List Bool},x.map D.bl=y.map D.bl->x=y:=by
  intro x
  induction x with
  | nil=>intro y h;cases y with
   |nil=>rfl
   |cons _ _=>cases h
  | cons p x ih=>intro y h;cases y with
   |nil=>cases h
   | cons q y=>
    rw[z1h,z1h] at h;injection h with h1 h2;injection h1 with h1;rw[h1,ih h2]
 intro r
 induction r with
 | nil=>intro s h;cases s with
  |nil=>rfl
  |cons _ _=>cases h
 | cons p r ih=>intro s h;cases s with
  |nil=>cases h
  | cons q s=>
   unfold tk at h;injection h with h;rw[z1h,z1h] at h;injection h with h1 h2;injection h1 with h1;rw[b h1,ih (congrArg D.lst h2)]
section
variable {P:Program} {w:World} {K:PySem.W.Frag} {mg:Str->Option Value} {base:Heap}
theorem fnC {qual:Str} {st:Stmt} {f:Addr} {fd:FuncData} {ps:List Str} {k:Nat} {g:ao->So} (Fn:Fun K x qual st f fd) (S:FnScope N ps (defScope st)) (hn:ps.length=2) (hm:N.length=2+m)
  (hb:∀(cdv:Value) (A:Around) (outer:List PySem.Env) (s:Shared) (H:Hp) (E:XK) (a:Addr) (rs:List Addr),Room k (A.deeper (envOfC qual (defScope st) s.heap.objs.size f cdv))->PSs (cxOf CX0 P w K mg base N qual (defScope st) f cdv A outer s H E).nox (defBody st) (rQ (cxOf CX0 P w K mg base N qual (defScope st) f cdv A outer s H E).nox a rs g)):
  FnOk P w K mg base CX0 (k+1) f fd ps (spC K g m):=by
 refine Fn.ok S (λ vs H Q E h=>?_) (λ cdv A outer s H vs Q E hr h=>?_)
 ·obtain⟨a,rs,rows,rows',zs,v,ρ',rfl,_⟩:=h;rw[hn];rfl
 ·obtain⟨a,rs,rows,rows',zs,v,ρ',rfl,h1,h2,h3,h4,h5,h6,h7,h8,h9,fin⟩:=h;refine⟨_,hb cdv A outer s H E a rs hr,rows,_,ρ',⟨?_,?_,rfl,⟨zs,h7,rfl⟩,λ i e hi hh=>?_,h1,h2,h3,h4,h5⟩,h8,λ ag1 σ' H' c' b'=>?_⟩
  ·have al:∀b,(λ _:Addr=>False) b->∃o,H b=some o:=λ _ z=>z.elim;have rr:aN K (λ _=>False) H [tk rows,il zs] [.ref a,v]:= .cons (gG (SqL.of h1) (λ z=>z) (h2.reps λ _ _ z=>z)) (.cons h6 .nil);exact (M5 (X:=(cxOf CX0 P w K mg base N qual (defScope st) f cdv A outer s H E).nox) (N:=N) rfl rr al (by show N.length=2+m;exact hm)).inn
  ·rfl
  ·rw[List.getElem?_cons,if_neg (by omega),List.getElem?_cons,if_neg (by omega),List.getElem?_replicate] at hh;split at hh <;> cases hh
  ·have e:=c'.r0;rw[h9] at e;have e:=Option.some.inj (Option.some.inj e);injection e with e;rw[<-adV e] at c';exact fin H' b' c'.hr
def Us (P:Program) (w:World) (K:PySem.W.Frag) (mg:Str->Option Value) (base:Heap) (k:Nat) (x:Str) (g:ao->So) (m:Nat):Prop:=
 ∃f fd ps,FnOk P w K mg base CX0 k f fd ps (spC K g m)/\mg x=some (.ref f)/\PySem.W.keepIn K (.ref f)=true/\Binds K fd ps []
end
def aaW:D->Option (List Bool)
 | .lst ds=>boolsOf ds
 |_=>none
def rowsOf:List D->Option (List (List Bool))
 |[]=>some []
 | d::ds=>match aaW d,rowsOf ds with
  |some r,some l=>some (r::l)
  |_,_=>none
def Iz:D->Option (List (List Bool))
 | .lst ds=>rowsOf ds
 |_=>none
def IK:D->Option (List Int)
 | .lst ds=>intsOf ds
 |_=>none
theorem Gd:∀{ds:List D} {bs:List Bool},boolsOf ds=some bs->ds=bs.map D.bl
 |[],bs,h=>by cases h;rfl
 | d ::ds,bs,h=>by
  cases d with
  | bl b=>
   have h:(boolsOf ds).map (b:: ·)=some bs:=h;cases e:boolsOf ds with
   |none=>rw[e] at h;cases h
   |some l=>rw[e] at h;cases h;rw[Gd e];rfl
  |_=>cases h
theorem J1:∀{ds:List D} {bs:List Int},intsOf ds=some bs->ds=bs.map D.int
 |[],bs,h=>by cases h;rfl
 | d ::ds,bs,h=>by
  cases d with
  | int b=>
   have h:(intsOf ds).map (b:: ·)=some bs:=h;cases e:intsOf ds with
   |none=>rw[e] at h;cases h
   |some l=>rw[e] at h;cases h;rw[J1 e];rfl
  |_=>cases h
theorem J2:∀{ds:List D} {rows:List (List Bool)},rowsOf ds=some rows->ds=rows.map λ r=>D.lst (r.map D.bl)
 |[],rows,h=>by cases h;rfl
 | d ::ds,rows,h=>by
  have h:(match aaW d,rowsOf ds with
   |some r,some l=>some (r::l)
   |_,_=>none)=some rows:=h
  split at h
  ·rename_i r l e1 e2;cases h;rw[J2 e2];cases d with
   |lst es=>rw[Gd (show boolsOf es=some r from e1)];rfl
   |_=>cases e1
  ·cases h
theorem Sh (h:Iz d=some rows):d=tk rows:=by
 cases d with
 |lst ds=>rw[J2 (show rowsOf ds=some rows from h)];rfl
 |_=>cases h
theorem Ss {zs:List Int} (h:IK d=some zs):d=il zs:=by
 cases d with
 |lst ds=>rw[J1 (show intsOf ds=some zs from h)];rfl
 |_=>cases h
theorem Cw:∀bs:List Bool,boolsOf (bs.map D.bl)=some bs
 |[]=>rfl
 |b::bs=>by show (boolsOf (bs.map D.bl)).map (b:: ·)=_;rw[Cw bs];rfl
theorem J3:∀bs:List Int,intsOf (bs.map D.int)=some bs
 |[]=>rfl
 |b::bs=>by show (intsOf (bs.map D.int)).map (b:: ·)=_;rw[J3 bs];rfl
theorem IV:∀rows:List (List Bool),Iz (tk rows)=some rows
 |[]=>rfl
 | r ::rows=>by
  have ih:rowsOf (rows.map λ r=>D.lst (r.map D.bl))=some rows:=IV rows;show (match boolsOf (r.map D.bl),rowsOf (rows.map λ r=>D.lst (r.map D.bl)) with
   |some r,some l=>some (r::l)
   |_,_=>none)=_
  rw[Cw,ih]
theorem Sv (zs:List Int):IK (il zs)=some zs:=J3 zs
def Xd (g:ao->So) (m:Nat) (dT dH:D):Option D:=match Iz dT,IK dH with
 | some rows,some zs=>if zs≠[]/\(∀row∈rows,row≠[]) then match g (some (.val dT)::some (.val dH)::List.replicate m none) with
  | .nx ρ'=>match bL ρ' 0 with
   | .ok d=>if (Iz d).isSome=true then some d else none
   |_=>none
  |_=>none
  else none
 |_,_=>none
def Ge (iT iA iL iH iS:Nat) (f1:ao->R (List D)) (n:Nat) (F1:List D->R D) (f2 f3:ao->R D) (gC:ao->So) (m:Nat) (f5:ao->R D):ao->So:=λ ρ=>
 match (f1 ρ).bind λ ds=>if ds.length=n then F1 ds else .bad with
 | .ok dT=>match f2 (ρ.set iT (some (.val dT))) with
  | .ok dA=>match f3 ((ρ.set iT (some (.val dT))).set iA (some (.val dA))) with
   | .ok (.tup [dL,dH])=>match Xd gC m dT dH,IK dL with
    | some J4,some (_::_)=>match f5 ((((ρ.set iT (some (.val J4))).set iA none).set iL (some (.val dL))).set iH none) with
     | .ok dS=> .nx (((((ρ.set iT (some (.val J4))).set iA none).set iL (some (.val dL))).set iH none).set iS (some (.val dS)))
     |_=> .bad
    |_,_=> .bad
   |_=> .bad
  |_=> .bad
 |_=> .bad
section
variable {X:Cx} {H H' H0:Hp} {O O0:Addr->Prop} {ρ:ao} {σ:St}
theorem At.drop (j:At X H0 O0 O H ρ σ) (i:Nat) (v:V):At X H0 O0 O H (ρ.set i none) (σ.set i (some v)):=by
 have un:∀{k:Nat} {e:Ent},(ρ.set i none)[k]?=some (some e)->k≠i/\ρ[k]?=some (some e):=λ {k e} h=>by
  by_cases z:k=i
  ·subst z;by_cases hl:k < ρ.length
   ·rw[z2a hl] at h;cases h
   ·rw[List.getElem?_eq_none (by rw[List.length_set];omega)] at h;cases h
  ·rw[z1e (Ne.symm z)] at h;exact⟨z,h⟩
 refine⟨j.same,j.dJ,j.sub,⟨⟨λ k e h=>?_,λ k l e e' u hkl hk hl ok ol sk sl=>?_⟩,j.inn.al,by rw[List.length_set];exact j.inn.len,by rw[List.length_set];exact j.inn.m9⟩,λ k e a h ho hs=>?_⟩
 ·obtain⟨z,h⟩:=un h;rw[z1e (Ne.symm z)];exact j.inn.env.get k e h
 ·obtain⟨z,hk⟩:=un hk;obtain⟨z',hl⟩:=un hl;rw[z1e (Ne.symm z)] at sk;rw[z1e (Ne.symm z')] at sl;exact j.inn.env.sep k l e e' u hkl hk hl ok ol sk sl
 ·obtain⟨z,h⟩:=un h;rw[z1e (Ne.symm z)] at hs;exact j.mine k e a h ho hs
theorem dM.aaX:∀{rs:List Addr} {rows:List (List Bool)},dM K O H rs (rows.map λ r=>D.lst (r.map D.bl))->m6 H rs rows
 |[],[],_=>⟨rfl,λ i r row e=>by cases e⟩
 |[],_::_,h=>by cases h
 |_::_,[],h=>by cases h
 | r ::rs,row::rows,h=>by
  rw[z1h] at h;cases h with
  | cons e q t=>
   have ih:=dM.aaX t;refine⟨by rw[List.length_cons,List.length_cons,ih.len],λ i r' M9 e1 e2=>?_⟩;cases i with
   |zero=>cases e1;cases e2;rw[e,Cu q]
   |succ i=>exact ih.at_ i r' M9 e1 e2
theorem adW {zs:List Int} {v:V} (hr:m6 H rs rows) (off:∀r∈rs,K.lookup r=none) (ne:∀row∈rows,row≠[]) (hz:zs≠[]) (h:Rep K O H (il zs) v) (b:But rs H H'):Rep K O H' (il zs) v:=by
 obtain⟨p,us,rfl,hq,hn,rr⟩:=Rep.lst h;have eu:=vp rr;subst eu;refine gG ?_ hn (Iw zs);rcases hq with hq |hq
 ·have hp:p∉rs:=λ z=>by
   obtain⟨i,hi,e⟩:=List.mem_iff_getElem.mp z;have hi':i < rows.length:=by rw[<-hr.len];exact hi
   have hH:=hr.at_ i p rows[i] (by rw[List.getElem?_eq_getElem hi,e]) (List.getElem?_eq_getElem hi');have hne:=ne _ (List.getElem_mem hi');rcases hq with hq |⟨o,hq⟩ <;> rw[hH] at hq
   ·have e2:=Option.some.inj hq;injection e2 with e2;cases hrow:rows[i] with
    |nil=>exact hne hrow
    | cons q row=>
     rw[hrow] at e2;cases zs with
     |nil=>cases e2
     |cons z zs=>cases e2
   ·cases hq
  rcases hq with hq |⟨o,hq⟩
  ·exact .inl (.inl (b _ _ hp hq))
  ·exact .inl (.inr ⟨o,b _ _ hp hq⟩)
 ·exact .inr hq
theorem Z8 {k1 k4 n:Nat} {F1:List D->R D} {gC:ao->So} {f1:ao->R (List D)} {f2 f3 f5:ao->R D} (iT iA iL iH iS:Nat) {tT tA tL tH tS x1 x4:Str} {e1 e2 e3 e5:Expr} {es1:List Expr} {p1 p2 p3 p4 p5 q1 q2 q3 q4 q5 r1 r3 r3' c1 c4 c4' Ea:Pos} {kt:Nat}
  (hN:X.N.Nodup) (hc:X.calm=true) (hr:Room k1 X.A) (hr4:Room k4 X.A) (G1:Uq X.prog X.w X.K X.mg X.base k1 x1 n F1) (G4:Us X.prog X.w X.K X.mg X.base k4 x4 gC m)
  (ha1:DA X (e1::es1) f1) (he2:DE X e2 f2) (he3:DE X e3 f3) (he5:DE X e5 f5) (hg1:Gl X x1:=by rfl) (hg4:Gl X x4:=by rfl)
  (hiT:X.N[iT]?=some tT:=by rfl) (hiA:X.N[iA]?=some tA:=by rfl) (hiL:X.N[iL]?=some tL:=by rfl) (hiH:X.N[iH]?=some tH:=by rfl) (hiS:X.N[iS]?=some tS:=by rfl) (hd:iT≠iA/\iT≠iL/\iT≠iH:=by decide) (hLH:iL≠iH:=by decide)
  (lT:Loc X.env.scope tT:=by first |exact Or.inl rfl |exact Or.inr rfl) (lA:Loc X.env.scope tA:=by first |exact Or.inl rfl |exact Or.inr rfl) (lL:Loc X.env.scope tL:=by first |exact Or.inl rfl |exact Or.inr rfl) (lH:Loc X.env.scope tH:=by first |exact Or.inl rfl |exact Or.inr rfl) (lS:Loc X.env.scope tS:=by first |exact Or.inl rfl |exact Or.inr rfl)
  (vT:Vis X.env.scope tT:=by first |exact Or.inl rfl |exact Or.inr (Or.inl rfl) |exact Or.inr (Or.inr rfl)) (vH:Vis X.env.scope tH:=by first |exact Or.inl rfl |exact Or.inr (Or.inl rfl) |exact Or.inr (Or.inr rfl))
  (nT:X.fn tT=true\/X.env.scope.names.lookup tT=some .local:=by first |exact .inl rfl |exact .inr rfl) (nA:X.fn tA=true\/X.env.scope.names.lookup tA=some .local:=by first |exact .inl rfl |exact .inr rfl) (nL:X.fn tL=true\/X.env.scope.names.lookup tL=some .local:=by first |exact .inl rfl |exact .inr rfl) (nH:X.fn tH=true\/X.env.scope.names.lookup tH=some .local:=by first |exact .inl rfl |exact .inr rfl) (nS:X.fn tS=true\/X.env.scope.names.lookup tS=some .local:=by first |exact .inl rfl |exact .inr rfl)
  (dT:(tT ==("__debug__" :Str))=false:=by decide) (J4:(tT ==("__classdict__" :Str))=false:=by decide) (dH:(tH ==("__debug__" :Str))=false:=by decide) (dH':(tH ==("__classdict__" :Str))=false:=by decide)
  (d1:(x1 ==("__debug__" :Str))=false:=by decide) (d4:(x4 ==("__debug__" :Str))=false:=by decide)
  (s1:starEach (e1::es1) X.env=(false,eval e1 X.env)::starEach es1 X.env:=by rfl) (b1:(backTo c1 (starEach es1 X.env)).any (·.1)=false:=by rfl)
  (s4:starEach [.Name tT c4',.Name tH Ea] X.env=(false,eval (.Name tT c4') X.env)::starEach [.Name tH Ea] X.env:=by rfl) (s4':starEach [.Name tH Ea] X.env=(false,eval (.Name tH Ea) X.env)::starEach [] X.env:=by rfl) (b4:(backTo c4 (starEach [.Name tH Ea] X.env)).any (·.1)=false:=by rfl)
  (w1:swapsWith (.Call (.Name x1 r1) (e1::es1) [] c1) (some (.Name tT q1)) p1.line X.env=pure false:=by rfl) (w2:swapsWith e2 (some (.Name tA q2)) p2.line X.env=pure false:=by rfl)
  (w3:swapsWithSole [.Tuple [.Name tL r3,.Name tH r3'] kt q3] e3 p3.line X.env=pure false:=by rfl) (w3':swappedStores [.Tuple [.Name tL r3,.Name tH r3'] kt q3] e3 X.env=pure none:=by rfl)
  (w4:swapsWith (.Call (.Name x4 q4) [.Name tT c4',.Name tH Ea] [] c4) none p4.line X.env=pure false:=by rfl) (w5:swapsWith e5 (some (.Name tS q5)) p5.line X.env=pure false:=by rfl):
  lY X [.Assign [.Name tT q1] (.Call (.Name x1 r1) (e1::es1) [] c1) p1,.Assign [.Name tA q2] e2 p2,.Assign [.Tuple [.Name tL r3,.Name tH r3'] kt q3] e3 p3,.Expr (.Call (.Name x4 q4) [.Name tT c4',.Name tH Ea] [] c4) p4,.Assign [.Name tS q5] e5 p5]
   (Ge iT iA iL iH iS f1 n F1 f2 f3 gC m f5):=by
 obtain⟨fa1,fd1,ps1,ok1,hm1,hk1,hb1⟩:=G1;obtain⟨fa4,fd4,ps4,ok4,hm4,hk4,hb4⟩:=G4;have kT:=(z1b hiT).1;have kA:=(z1b hiA).1;have kL:=(z1b hiL).1;have kH:=(z1b hiH).1;have kS:=(z1b hiS).1;refine PSs.imp (pss_cons (ps_set hN hiT lT (pe_call (dvs:=[]) ok1 hr hg1 hm1 hk1 hb1 .nil pass0 ha1 d1 s1 b1) w1 nT) (pss_cons (ps_set hN hiA lA he2 w2 nA)
  (pss_cons (ps_asg he3 (pg_tup hc (pgs_cons (pg_name hN hiL lL nL) (pgs_cons (pg_name hN hiH lH nH) pgs_nil))) w3 w3')
   (pss_cons (ps_expr (pe_call (dvs:=[]) ok4 hr4 hg4 hm4 hk4 hb4 .nil pass0 (pa_cons (pe_var hiT vT dT J4) (pa_cons (pe_var hiH vH dH dH') pa_nil s4') s4) d4 s4 b4) w4) (pss_one (ps_set hN hiS lS he5 w5 nS)))))) λ σ H E h=>?_
 obtain⟨H0,O0,O,ρ,j,h⟩:=h;unfold Ge at h;split at h
 case h_2=>exact h.elim
 rename_i dT1 q1;split at h
 case h_2=>exact h.elim
 rename_i dA1 q2;split at h
 case h_2=>exact h.elim
 rename_i dL1 dH1 q3;split at h
 case h_2=>exact h.elim
 rename_i dT2 zl zls q4 q4';split at h
 case h_2=>exact h.elim
 rename_i dS1 q5;unfold Xd at q4;split at q4
 case h_2=>cases q4
 rename_i rows zs u1 u2;by_cases hcz:zs≠[]/\(∀row∈rows,row≠[])
 case neg=>rw[if_neg hcz] at q4;cases q4
 rw[if_pos hcz] at q4;split at q4
 case h_2=>cases q4
 rename_i ρ' qg;split at q4
 case h_2=>cases q4
 rename_i dT3 qv;by_cases hs2:(Iz dT3).isSome=true
 case neg=>rw[if_neg hs2] at q4;cases q4
 rw[if_pos hs2] at q4;have q4:=Option.some.inj q4;subst q4;obtain⟨rows',ur⟩:=Option.isSome_iff_exists.mp hs2;have eT:=Sh u1;have eH:=Ss u2;have eT':=Sh ur;have eL:=Ss q4';subst eT eH eT' eL;refine⟨ρ,O,j.inn,?_⟩;cases q0:f1 ρ with
 |bad=>rw[q0] at q1;cases q1
 |err c=>rw[q0] at q1;cases q1
 | ok ds=>
  rw[q0] at q1;have q1:(if ds.length=n then F1 ds else .bad)= .ok (tk rows):=q1;by_cases hl:ds.length=n
  case neg=>rw[if_neg hl] at q1;cases q1
  rw[if_pos hl] at q1;intro vs Ha sa ra;have ja:=j.grow sa;refine⟨O,ds,by rw[List.append_nil];exact ra,hl,ja.inn.al,?_⟩;rw[q1]
  rintro v Hb sb ⟨a,rs,dsT,ed,rfl,na,ka,ha,nd,al,rr⟩
  have ed:dsT=rows.map λ r=>D.lst (r.map D.bl):=by
   unfold tk at ed;injection ed with ed;exact ed.symm
  subst ed;have nOa:¬O a:=ja.inn.qR na;have nOr:∀r∈rs,¬O r:=λ r hr=>ja.inn.qR (al r hr).1;have afL:=rr.aaX;have jb:=ja.grow sb;have j1:=jb.set kT (d:=tk rows) (v:= .ref a) (gG (SqL.of ha) nOa (rr.reps nOr));refine⟨_,O,j1.inn,?_⟩;rw[q2];intro vA Hc sc rA;have j2:=(j1.grow sc).set kA rA;refine⟨_,O,j2.inn,?_⟩;rw[q3];intro vt Hd sd rt;obtain⟨at_,xs,rfl,hqt,rts⟩:=Rep.tup rt;obtain⟨v1,v2,rfl,rL,rH⟩:=rts.two;refine⟨at_,[v1,v2],rfl,hqt,rfl,v1,[v2],rfl,v2,[],rfl,rfl,?_⟩;have adX:σ.length=X.N.length:=j.inn.len;refine⟨.ref a,?_,v2,?_,?_⟩
  ·rw[z1e (Ne.symm hd.2.2),z1e (Ne.symm hd.2.1),z1e (Ne.symm hd.1)];exact z2a (by rw[adX];exact kT)
  ·exact z2a (by simp only[List.length_set];rw[adX];exact kH)
  have had:=sd _ _ (sc _ _ ha);have rbd:=(afL.same sc).same sd;refine⟨a,rs,rows,rows',zs,v2,ρ',rfl,had,rbd,nd,λ r hr=>(al r hr).2,hcz.2,Rep.fewer (λ _ z=>z.elim) rH,hcz.1,qg,BJ qv,λ He be re=>?_⟩;have smE:Same H He:=λ b u e=>by
   refine be b u (λ z=>?_) (sd _ _ (sc _ _ (sb _ _ (sa _ _ e))));have:=Same.free sa (al b z).1;rw[this] at e;cases e
  have hae:He a=some (.lst (rs.map V.ref)):=be _ _ (λ z=>(al a z).2.2 rfl) had;have jE:=j.grow smE;have j4:=(((jE.set kT (d:=tk rows') (v:= .ref a) (gG (SqL.of hae) nOa (re.reps nOr))).drop iA vA).set kL (adW rbd (λ r hr=>(al r hr).2.1) hcz.2 (by simp) rL be)).drop iH v2;refine⟨_,O,j4.inn,?_⟩;rw[q5];intro vS Hf sf rS;exact h _ Hf O ((j4.grow sf).set kS rS) (Same.dJ (smE.trans sf))
end
section
variable {X:Cx} {e:Expr} {f:ao->R D} {pos p2 p3 p4 p5 p6:Pos}
end
theorem ab2 {ρ:ao} (h:bB f gt ρ= .rt d):False:=by
 unfold bB fj at h;cases e:f ρ with
 |bad=>rw[e] at h;cases h
 |err c=>rw[e] at h;cases h
 | ok x=>
  rw[e] at h;have h:(match gt x ρ with
   | .ok ρ'=>So.nx ρ'
   |_=> .bad)= .rt d:=h
  split at h <;> cases h
end Pu
namespace L2
open PySem PySem.Spec PyProof.Rows
section
variable {X:Cx} {pos:Pos}
def afM (i j k:Nat) (ta:TA):TS:=λ D σ H=>ta σ H λ vs H1=>∃v w z,vs=[v,w,z]/\D.nx (((σ.set i (some v)).set j (some w)).set k (some z)) H1
theorem ab3 {i j k:Nat} {x y z:Str} {a b c:Expr} {ta:TA} {px py pz pt:Pos} {kt k2 pt2} (hc:X.calm=true) (hN:X.N.Nodup) (hi:X.N[i]?=some x) (hj:X.N[j]?=some y) (hk:X.N[k]?=some z) (hij:i≠j) (hik:i≠k) (hjk:j≠k)
  (hx:X.env.scope.names.lookup x=some .local) (hy:X.env.scope.names.lookup y=some .local) (hz:X.env.scope.names.lookup z=some .local) (ha:PA X [a,b,c] ta)
  (hw:swappedStores [.Tuple [.Name x px,.Name y py,.Name z pz] kt pt] (.Tuple [a,b,c] k2 pt2) X.env=pure (some [x,y,z]))
  (hs:swapsWithSole [.Tuple [.Name x px,.Name y py,.Name z pz] kt pt] (.Tuple [a,b,c] k2 pt2) pos.line X.env=pure false:=by rfl):
  PS X (.Assign [.Tuple [.Name x px,.Name y py,.Name z pz] kt pt] (.Tuple [a,b,c] k2 pt2) pos) (afM i j k ta):=by
 intro pins s σ H D I h;rw[exec_Assign_arm];refine wpAny_bind (wpAny_standAt ?_);rw[hs];refine wpAny_bind (wpAny_pure ?_);rw[if_neg (by decide)];refine wpAny_bind (Tuple_ (thn (ha _ pins s σ H _ I h) λ us s1 bH=>?_));obtain⟨vs,H1,I1,r1,q1⟩:=bH;obtain⟨v,w,t,e1,q1⟩:=q1;subst e1;obtain ⟨u1,u2,u3,rfl,rv,rw',rt⟩:∃u1 u2 u3,us=[u1,u2,u3]/\RelV v u1/\RelV w u2/\RelV t u3:=by
  cases r1 with
  | cons p q=>
   cases q with
   | cons p' q'=>
    cases q' with
    | cons p'' q''=>
     cases q'';exact⟨_,_,_,rfl,p,p',p''⟩
 refine wpAny_newObj_type ?_ (by show 3<=sizeLine;decide);have I2:Inv X pins σ H1 {s1 with heap:=s1.heap.push {cls:= .type "tuple",data:= .seq [u1,u2,u3].toArray}}:=I1.kept (t':=s1.toks) λ b o e=>z1a _ e;rw[hw];refine wpAny_bind (wpAny_pure ?_);show wpAny (model X.prog X.w) X.A (do rule "assign.swapped-stores";let items <-unpackItems (.ref s1.heap.objs.size) 3 none;assignInOrder [λ v=>bindName X.env z v,λ v=>bindName X.env y v,λ v=>bindName X.env x v] items.reverse;pure Flow.next) _ _ _;refine wpAny_bind (wpAny_rule (wpAny_bind (unpackItems_tuple (items:= #[u1,u2,u3]) (I.ok.hd hc) (IsTup.new s1.heap _) λ h' hx'=>?_)));have I3:=I2.kept (h':=h') (t':=s1.toks) λ b o e=>hx' b o (Nat.ne_of_lt (z2c e)) e;show wpAny _ _ (assignInOrder [λ v=>bindName X.env z v,λ v=>bindName X.env y v,λ v=>bindName X.env x v] [u3,u2,u1] >>=λ _=>pure Flow.next) _ _ _;refine wpAny_bind (assignInOrder_cons (wpAny_bindName (store_ok I3 hN hk (.inl hz) rt (λ s2 I4=>?_) (.inr hz))));refine assignInOrder_cons (wpAny_bindName (store_ok I4 hN hj (.inl hy) rw' (λ s3 I5=>?_) (.inr hy)));refine assignInOrder_cons (wpAny_bindName (store_ok I5 hN hi (.inl hx) rv (λ s4 I6=>assignInOrder_nil (wpAny_pure ?_)) (.inr hx)));rw[List.set_comm _ _ (Ne.symm hij),List.set_comm _ _ (Ne.symm hik),List.set_comm _ _ (Ne.symm hjk)] at I6
 first
  |exact ⟨_,H1,I6,q1⟩
  |(rw[List.set_comm _ _ hik] at I6;exact⟨_,H1,I6,q1⟩)
end
end L2
namespace Pu
open PySem PySem.Spec L2
open PyProof.Rows hiding St
section
variable {X:Cx} {a b c:Expr} {f g u:ao->R D} {pos:Pos}
def Nb (i k l:Nat) (f g u:ao->R D):ao->So:=λ ρ=>fj (f ρ) ρ λ d=>fj (g ρ) ρ λ e=>fj (u ρ) ρ λ z=> .nx (((ρ.set i (some (.val d))).set k (some (.val e))).set l (some (.val z)))
theorem ab4 (i k l:Nat) {x y z:Str} {px py pz pt:Pos} {kt k2 pt2} (hc:X.calm=true) (hN:X.N.Nodup) (ha:DE X a f) (hb:DE X b g) (hd:DE X c u) (hi:X.N[i]?=some x:=by rfl) (hk:X.N[k]?=some y:=by rfl) (hl:X.N[l]?=some z:=by rfl) (hik:i≠k:=by decide) (hil:i≠l:=by decide) (hkl:k≠l:=by decide)
  (hx:X.env.scope.names.lookup x=some .local:=by rfl) (hy:X.env.scope.names.lookup y=some .local:=by rfl) (hz:X.env.scope.names.lookup z=some .local:=by rfl)
  (h1:starEach [a,b,c] X.env=(false,eval a X.env)::starEach [b,c] X.env:=by rfl) (h2:starEach [b,c] X.env=(false,eval b X.env)::starEach [c] X.env:=by rfl) (h3:starEach [c] X.env=(false,eval c X.env)::starEach [] X.env:=by rfl)
  (hw:swappedStores [.Tuple [.Name x px,.Name y py,.Name z pz] kt pt] (.Tuple [a,b,c] k2 pt2) X.env=pure (some [x,y,z]):=by rfl)
  (hs:swapsWithSole [.Tuple [.Name x px,.Name y py,.Name z pz] kt pt] (.Tuple [a,b,c] k2 pt2) pos.line X.env=pure false:=by rfl):
  DS X (.Assign [.Tuple [.Name x px,.Name y py,.Name z pz] kt pt] (.Tuple [a,b,c] k2 pt2) pos) (Nb i k l f g u):=by
 refine PS.imp (ab3 hc hN hi hk hl hik hil hkl hx hy hz (pa_cons ha (pa_cons hb (pa_cons hd pa_nil h3) h2) h1) hw hs) λ σ H E h=>?_;obtain⟨H0,O0,O,ρ,j,h⟩:=h;refine⟨ρ,O,j.inn,?_⟩;unfold Nb fj at h;cases e1:f ρ with
 |bad=>rw[e1] at h;exact h
 |err c=>rw[e1] at h;exact h σ H O j
 | ok d=>
  rw[e1] at h;intro v H1 s1 rv;have j1:=j.grow s1;refine⟨ρ,O,j1.inn,?_⟩;cases e2:g ρ with
  |bad=>simp only[e2] at h;exact h
  |err c=>simp only[e2] at h;exact Cg.same (h σ H O j) s1
  | ok e=>
   simp only[e2] at h;intro w H2 s2 rw2;have j2:=j1.grow s2;refine⟨ρ,O,j2.inn,?_⟩;cases e3:u ρ with
   |bad=>simp only[e3] at h;exact h
   |err c=>simp only[e3] at h;exact Cg.same (h σ H O j) (s1.trans s2)
   | ok e'=>
    simp only[e3] at h;intro t H3 s3 rt;refine⟨v,w,t,rfl,?_⟩;exact h _ H3 O ((((j2.grow s3).set (z1b hi).1 ((rv.same s2).same s3)).set (z1b hk).1 (rw2.same s3)).set (z1b hl).1 rt) (((Same.dJ s1).trans (Same.dJ s2)).trans (Same.dJ s3))
theorem ab5 {ρ:ao} {i k l:Nat} {d e z:D} (e1:f ρ= .ok d) (e2:g ρ= .ok e) (e3:u ρ= .ok z):Nb i k l f g u ρ= .nx (((ρ.set i (some (.val d))).set k (some (.val e))).set l (some (.val z))):=by
 unfold Nb;rw[e1];simp only[fj,e2,e3]
end
section
variable {X:Cx} {H0 H:Hp} {O0 O:Addr->Prop} {ρ:ao} {σ:St} {sts:List Stmt} {g:ao->So}
theorem Nf:eF X.K O H (Ez ρ σ O) H:=⟨⟨λ _ _ h=>h,λ _ _ _ h=>h⟩,λ _ z=> .inl z.1,λ _ h=>h⟩
theorem At.cG (j:At X H0 O0 O H ρ σ):At X H0 O0 (Ez ρ σ O) H (Pu.cG ρ) σ:=by
 refine⟨j.same,j.dJ.trans Nf,λ a z=>⟨j.sub a z,λ i ds e q=>?_⟩,j.inn.cG,λ i e a h o q=>?_⟩
 ·exact (j.mine i _ a e rfl q).2 z
 ·rcases Dt h with⟨h1,_⟩ |⟨ds,h1,rfl⟩
  ·exact j.mine i e a h1 o q
  ·cases o
def Z9 (g:ao->So):ao->So:=λ ρ=>g (Pu.cG ρ)
theorem ab6 (h:lY X sts g):lY X sts (Z9 g):=PSs.imp h λ _ _ _ ⟨H0,O0,_,_,j,q⟩=>⟨H0,O0,_,_,j.cG,q.go Nf⟩
theorem adY {o:So} (e:g (Pu.cG ρ)=o):Z9 g ρ=o:=e
end
end Pu
namespace Fl
variable {w:Int} {v i y x n u k y0:Nat} {f φ:Nat->Int}
def sm:Nat->(Nat->Int)->Int
 |0,_=>0
 |n+1,f=>sm n f+f n
theorem aY {f g:Nat->Int}:∀{n:Nat},(∀i,i < n->f i=g i)->sm n f=sm n g
 |0,_=>rfl
 | n+1,h=>by
  show sm n f+f n=sm n g+g n;rw[aY λ i hi=>h i (Nat.lt_succ_of_lt hi),h n (Nat.lt_succ_self n)]
theorem eN {f g:Nat->Int}:∀{n:Nat},(∀i,i < n->f i<=g i)->sm n f<=sm n g
 |0,_=>Int.le_refl _
 |n+1,h=>Int.add_le_add (eN λ i hi=>h i (Nat.lt_succ_of_lt hi)) (h n (Nat.lt_succ_self n))
theorem iZ {f g:Nat->Int}:∀n,sm n (λ i=>f i+g i)=sm n f+sm n g
 |0=>rfl
 | n+1=>by
  show sm n _+(f n+g n)=(sm n f+f n)+(sm n g+g n);rw[iZ n];omega
theorem zO {f:Nat->Int}:∀n,sm n (λ i=> -f i)= -sm n f
 |0=>rfl
 | n+1=>by
  show sm n _+ -f n= -(sm n f+f n);rw[zO n];omega
theorem zP {g:Nat->Int} (n:Nat):sm n (λ i=>f i - g i)=sm n f - sm n g:=by
 have h:=iZ (f:=f) (g:=λ i=> -g i) n;rw[zO n] at h;exact (aY λ i _=>Int.sub_eq_add_neg).trans (h.trans Int.sub_eq_add_neg.symm)
theorem nO:∀n,sm n (λ _=>0)=0
 |0=>rfl
 | n+1=>by
  show sm n _+0=0;rw[nO n];rfl
theorem lD (h:∀i,i < n->f i=0):sm n f=0:=(aY h).trans (nO n)
theorem lE (h:∀i,i < n->0<=f i):0<=sm n f:=by
 have:=eN h;rw[nO n] at this;exact this
theorem ji {a:Int}:∀n:Nat,sm n (λ _=>a)=n*a
 |0=>by rw[show ((0:Nat):Int)=0 from rfl,Int.zero_mul];rfl
 | n+1=>by
  show sm n _+a=_;rw[ji n,Int.natCast_succ,Int.add_mul,Int.one_mul]
theorem jW {f:Nat->Nat->Int} (m:Nat):∀n,sm n (λ i=>sm m λ j=>f i j)=sm m λ j=>sm n λ i=>f i j
 |0=>(nO m).symm
 | n+1=>by
  show sm n (λ i=>sm m λ j=>f i j)+sm m (λ j=>f n j)=_;rw[jW m n];exact (iZ m).symm
theorem mQ {a:Int} {k:Nat}:∀{n:Nat},k < n->sm n (λ i=>if i=k then a else 0)=a
 |0,h=>absurd h (Nat.not_lt_zero _)
 | n+1,h=>by
  show sm n _+(if n=k then a else 0)=a;by_cases e:n=k
  ·rw[if_pos e,lD λ i hi=>if_neg (by omega)];omega
  ·rw[if_neg e,mQ (show k < n by omega)];omega
theorem BK (h:k < n):sm n (λ i=>if i=k then f i else 0)=f k:=by
 rw[<-mQ (a:=f k) h];exact aY λ i _=>by
  by_cases e:i=k
  ·rw[if_pos e,if_pos e,e]
  ·rw[if_neg e,if_neg e]
theorem BL (h:∀i,i < n->0<=f i) (hk:k < n):f k<=sm n f:=by
 rw[<-BK (f:=f) hk];exact eN λ i hi=>by
  by_cases e:i=k
  ·rw[if_pos e];exact Int.le_refl _
  ·rw[if_neg e];exact h i hi
theorem Ng {f:Nat->Int}:∀n,sm n (λ i=>f (i+1) - f i)=f n - f 0
 |0=>by show (0:Int)=_;omega
 | n+1=>by
  show sm n _+(f (n+1) - f n)=_;rw[Ng n];omega
theorem Cy {g:Nat->Int} (h:∀i,i < n->f i<=g i) (e:sm n g<=sm n f):∀i,i < n->f i=g i:=by
 intro i hi;have h1:=BL (f:=λ i=>g i - f i) (n:=n) (k:=i) (λ j hj=>by have:=h j hj;omega) hi;rw[zP n] at h1;have:=h i hi;have h1:g i - f i<=sm n g - sm n f:=h1;omega
def inn (W x y:Nat):Nat:=2*(y*W+x+1)
def out (W x y:Nat):Nat:=2*(y*W+x+1)+1
section
variable {W x y x' y':Nat}
theorem jj:inn W x y / 2=y*W+x+1:=by unfold inn;omega
theorem iQ:out W x y / 2=y*W+x+1:=by unfold out;omega
theorem wC (h:x < W):(y*W+x) % W=x:=by rw[Nat.mul_comm,Nat.mul_add_mod];exact Nat.mod_eq_of_lt h
theorem wD (h:x < W):(y*W+x) / W=y:=by
 rw[Nat.mul_comm,Nat.mul_add_div (by omega),Nat.div_eq_of_lt h];rfl
theorem Sx {H:Nat} (h:x < W) (hy:y < H):y*W+x < W*H:=by
 have:(y+1)*W<=H*W:=Nat.mul_le_mul_right W hy;rw[Nat.add_mul,Nat.one_mul,Nat.mul_comm H W] at this;omega
theorem wF {H:Nat} (h:x < W) (hy:y < H):inn W x y < 2*(W*H+1):=by have:=Sx h hy;unfold inn;omega
theorem um {H:Nat} (h:x < W) (hy:y < H):out W x y < 2*(W*H+1):=by have:=Sx h hy;unfold out;omega
theorem Sy:2<=inn W x y:=by unfold inn;omega
theorem ab7:3<=out W x y:=by unfold out;omega
end
def tbl (W:Nat) (a0 a1:Int) (fi fo:Nat->Nat->Int) (v:Nat):Int:=
 if v=0 then a0 else if v=1 then a1 else if v % 2=0 then fi ((v / 2 - 1) % W) ((v / 2 - 1) / W) else fo ((v / 2 - 1) % W) ((v / 2 - 1) / W)
section
variable {W x y:Nat} {a0 a1:Int} {fi fo:Nat->Nat->Int}
theorem IW (h:x < W):tbl W a0 a1 fi fo (inn W x y)=fi x y:=by
 have hp:=Sy (W:=W) (x:=x) (y:=y);unfold tbl;rw[if_neg (by omega),if_neg (by omega),if_pos (by unfold inn;omega),jj,Nat.add_sub_cancel,wC h,wD h]
theorem Ja (h:x < W):tbl W a0 a1 fi fo (out W x y)=fo x y:=by
 have hp:=ab7 (W:=W) (x:=x) (y:=y);unfold tbl;rw[if_neg (by omega),if_neg (by omega),if_neg (by unfold out;omega),iQ,Nat.add_sub_cancel,wC h,wD h]
end
def jF (ahead:Nat->Nat):Nat->Nat->Prop
 |0,v=>v=0
 |d+1,v=>v≠0/\jF ahead d (ahead v)
theorem jF.uniq {ahead:Nat->Nat}:∀{d e v:Nat},jF ahead d v->jF ahead e v->d=e
 |0,0,_,_,_=>rfl
 |0,_+1,_,h,k=>absurd h k.1
 |_+1,0,_,h,k=>absurd k h.1
 |d+1,e+1,_,h,k=>by rw[jF.uniq h.2 k.2]
def vis (ahead:Nat->Nat):Nat->Nat->Nat->Bool
 |0,_,_=>false
 |d+1,v,w=>w ==v || vis ahead d (ahead v) w
theorem SJ {ahead:Nat->Nat}:∀{d v w:Nat},jF ahead d v->vis ahead d v w=true->∃e,e < d/\jF ahead (e+1) w
 |0,_,_,_,h=>by cases h
 | d +1,v,w,c,h=>by
  rcases (Bool.or_eq_true _ _).mp h with h |h
  ·have:w=v:=by simpa using h
   subst this;exact⟨d,Nat.lt_succ_self d,c⟩
  ·obtain⟨e,h1,h2⟩:=SJ c.2 h;exact⟨e,Nat.lt_succ_of_lt h1,h2⟩
theorem Jb {ahead:Nat->Nat} {d:Nat} (c:jF ahead (d+1) v):vis ahead d (ahead v) v=false:=by
 cases h:vis ahead d (ahead v) v with
 |false=>rfl
 | true=>
  obtain⟨e,h1,h2⟩:=SJ c.2 h;have:=jF.uniq c h2;omega
def upd {α:Type} (f:Nat->α) (k:Nat) (a:α):Nat->α:=λ i=>if i=k then a else f i
theorem lF {α:Type} {f:Nat->α} {a:α}:upd f k a k=a:=if_pos rfl
theorem dI {α:Type} {f:Nat->α} {a:α} (h:i≠k):upd f k a i=f i:=if_neg h
theorem adZ {a:Int} (h:k < n):sm n (upd f k a)=sm n f+(a - f k):=by
 rw[<-mQ (a:=a - f k) h,<-iZ];exact aY λ i _=>by
  by_cases e:i=k
  ·rw[e,lF,if_pos rfl];omega
  ·rw[dI e,if_neg e];omega
def Rt (ahead:Nat->Nat) (least:Nat->Int) (far:Int):Nat->Nat->Prop
 |0,v=>v=0\/least v=far
 |d+1,v=>¬(v=0\/least v=far)/\Rt ahead least far d (ahead v)
structure lZ (A:Nat->Nat->Int->Prop) (n:Nat) (far:Int) (q least:Nat->Int) (ahead:Nat->Nat):Prop where
 z:least 0=0
 lo:∀v,v < n->q v<=least v
 hi:∀v,v < n->least v<=far
 ar:∀v,v < n->v≠0->least v < far->∃c,A (ahead v) v c/\least (ahead v)+c<=least v
 ch:∀v,v < n->∃d,Rt ahead least far d v
section
variable {A:Nat->Nat->Int->Prop} {n:Nat} {far:Int} {q least:Nat->Int} {ahead:Nat->Nat}
theorem lZ.first (q0:q 0<=0) (hq:∀v,v < n->q v<=far) (h0:0<=far):lZ A n far q (λ v=>if v=0 then 0 else far) (λ _=>0) where
 z:=if_pos rfl
 lo:=λ v hv=>by
  by_cases e:v=0
  ·rw[if_pos e,e];exact q0
  ·rw[if_neg e];exact hq v hv
 hi:=λ v _=>by
  by_cases e:v=0
  ·rw[if_pos e];exact h0
  ·rw[if_neg e];exact Int.le_refl _
 ar:=λ v _ e h=>by rw[if_neg e] at h;exact absurd h (Int.lt_irrefl _)
 ch:=λ v _=>⟨0,by
  by_cases e:v=0
  ·exact .inl e
  ·exact .inr (if_neg e)⟩
theorem lZ.step (S:lZ A n far q least ahead) (hA:∀u v c,A u v c->u < n/\v < n/\v≠0) (hf:∀u v c,A u v c->q v<=q u+c) {c:Int} (a:A u v c) (h:least u+c < least v):
  lZ A n far q (upd least v (least u+c)) (upd ahead v u):=by
 obtain⟨hu,hv,v0⟩:=hA u v c a;have hqv:=hf u v c a;have hlu:=S.lo u hu;have hvf:=S.hi v hv;have huv:u≠v:=λ e=>by subst e;omega
 have near:∀d w,w < n->Rt ahead least far d w->least w - q w < least v - q v->Rt (upd ahead v u) (upd least v (least u+c)) far d w:=by
  intro d
  induction d with
  | zero=>
   intro w hw r hd;have wv:w≠v:=λ e=>by subst e;omega
   rcases r with r |r
   ·exact .inl r
   ·exact .inr (by rw[dI wv];exact r)
  | succ d ih=>
   intro w hw r hd;have wv:w≠v:=λ e=>by subst e;omega
   obtain⟨r1,r2⟩:=r;have hw0:w≠0:=λ e=>r1 (.inl e);have hwf:least w < far:=by
    have h1:=S.hi w hw;have h2:least w≠far:=λ e=>r1 (.inr e);omega
   obtain⟨c',a',l'⟩:=S.ar w hw hw0 hwf;have f':=hf _ _ _ a';have h':=(hA _ _ _ a').1;refine⟨λ e=>r1 (e.imp id λ e=>by rw[dI wv] at e;exact e),?_⟩;rw[dI wv];exact ih (ahead w) h' r2 (by omega)
 obtain⟨du,ru⟩:=S.ch u hu;have ru':=near du u hu ru (by omega);have rv':Rt (upd ahead v u) (upd least v (least u+c)) far (du+1) v:=by
  refine⟨λ e=>e.elim v0 λ e=>?_,by rw[lF];exact ru'⟩;rw[lF] at e;omega
 refine⟨?_,λ w hw=>?_,λ w hw=>?_,λ w hw w0 hl=>?_,λ w hw=>?_⟩
 ·rw[dI (Ne.symm v0)];exact S.z
 ·by_cases e:w=v
  ·rw[e,lF];omega
  ·rw[dI e];exact S.lo w hw
 ·by_cases e:w=v
  ·rw[e,lF];omega
  ·rw[dI e];exact S.hi w hw
 ·by_cases e:w=v
  ·subst e;rw[lF,lF,dI huv];exact⟨c,a,Int.le_refl _⟩
  ·rw[dI e] at hl;obtain⟨c',a',l'⟩:=S.ar w hw w0 hl;refine⟨c',by rw[dI e];exact a',?_⟩;rw[dI e,dI e];by_cases e2:ahead w=v
   ·rw[e2,lF];rw[e2] at l';omega
   ·rw[dI e2];exact l'
 ·obtain ⟨d,r⟩:=S.ch w hw;have all:∀d w,w < n->Rt ahead least far d w->∃d,Rt (upd ahead v u) (upd least v (least u+c)) far d w:=by
   intro d
   induction d with
   | zero=>
    intro w hw r;by_cases e:w=v
    ·rw[e];exact⟨_,rv'⟩
    ·exact⟨0,r.imp id λ r=>by rw[dI e];exact r⟩
   | succ d ih=>
    intro w hw r;by_cases e:w=v
    ·rw[e];exact⟨_,rv'⟩
    ·obtain⟨r1,r2⟩:=r;have hwf:least w < far:=by
      have h1:=S.hi w hw;have h2:least w≠far:=λ e=>r1 (.inr e);omega
     obtain⟨c',a',_⟩:=S.ar w hw (λ e=>r1 (.inl e)) hwf;obtain⟨d',r'⟩:=ih (ahead w) (hA _ _ _ a').1 r2;exact⟨d'+1,λ z=>r1 (z.imp id λ z=>by rw[dI e] at z;exact z),by rw[dI e];exact r'⟩
  exact all d w hw r
theorem lZ.over (S:lZ A n far q least ahead) (hA:∀u v c,A u v c->u < n/\v < n/\v≠0) (hf:∀u v c,A u v c->q v<=q u+c) (ex:∀u v c,A u v c->least v<=least u+c)
  {t:Nat} (ht:t < n) (hb:∀r,r < n->least t - q t < far - q r):
  ∃(d:Nat) (G:Nat->Prop),jF ahead d t/\G t/\∀v,G v->v≠0->G (ahead v)/\∃c,A (ahead v) v c/\least v=least (ahead v)+c:=by
 have go:∀v,v < n/\least v - q v<=least t - q t->v≠0->(ahead v < n/\least (ahead v) - q (ahead v)<=least t - q t)/\∃c,A (ahead v) v c/\least v=least (ahead v)+c:=by
  rintro v ⟨hv,hd⟩ v0
  have hb':=hb v hv;obtain⟨c,a,l⟩:=S.ar v hv v0 (by omega);have f:=hf _ _ _ a;have e:=ex _ _ _ a;exact⟨⟨(hA _ _ _ a).1,by omega⟩,c,a,by omega⟩
 have dn:∀d v,v < n/\least v - q v<=least t - q t->Rt ahead least far d v->jF ahead d v:=by
  intro d
  induction d with
  | zero=>
   rintro v ⟨hv,hd⟩ r
   have hb':=hb v hv;exact r.elim id λ r=>by omega
  | succ d ih=>
   intro v hv r;have v0:v≠0:=λ e=>r.1 (.inl e);exact⟨v0,ih _ (go v hv v0).1 r.2⟩
 obtain⟨d,r⟩:=S.ch t ht;exact⟨d,_,dn d t ⟨ht,Int.le_refl _⟩ r,⟨ht,Int.le_refl _⟩,go⟩
end
structure d7 (W H k:Nat) (T:Nat->Nat->Bool) (s:Nat->Nat->Nat):Prop where
 lt:∀i y,i < k->y < H->s i y < W
 rP:∀i y,i+1 < k->y < H->s i y < s (i+1) y
 nr:∀i y,i < k->y+1 < H->s i (y+1)<=s i y+1/\s i y<=s i (y+1)+1
 tk:∀x y,x < W->y < H->(T x y=true↔∃i,i < k/\s i y=x)
inductive gQ (W H k:Nat) (c:Nat->Nat->Int) (T:Nat->Nat->Bool) (s:Nat->Nat->Nat):Nat->Nat->Int->Prop
 |st {x:Nat}:x < W->gQ W H k c T s 0 (inn W x 0) 0
 |cl {x y:Nat}:x < W->y < H->T x y=false->gQ W H k c T s (inn W x y) (out W x y) (c x y)
 |dn {x x' y:Nat}:x < W->x' < W->y+1 < H->x'<=x+1->x<=x'+1->gQ W H k c T s (out W x y) (inn W x' (y+1)) 0
 |en {x y:Nat}:x < W->y+1=H->gQ W H k c T s (out W x y) 1 0
 |ue {i y:Nat}:i < k->y+1=H->gQ W H k c T s 1 (out W (s i y) y) 0
 |up {i y:Nat}:i < k->y+1 < H->gQ W H k c T s (inn W (s i (y+1)) (y+1)) (out W (s i y) y) 0
 |bk {i y:Nat}:i < k->y < H->gQ W H k c T s (out W (s i y) y) (inn W (s i y) y) (-c (s i y) y)
section
variable {W H k:Nat} {c:Nat->Nat->Int} {T:Nat->Nat->Bool} {s:Nat->Nat->Nat}
theorem d7.mono (S:d7 W H k T s) (hy:y < H):∀{i j:Nat},i < j->j < k->s i y < s j y:=by
 intro i j hij
 induction j with
 |zero=>exact absurd hij (Nat.not_lt_zero _)
 | succ j ih=>
  intro hj;have h1:=S.rP j y hj hy;by_cases e:i=j
  ·rw[e];exact h1
  ·exact Nat.lt_trans (ih (by omega) (by omega)) h1
theorem d7.inj (S:d7 W H k T s) {j:Nat} (hy:y < H) (hi:i < k) (hj:j < k) (e:s i y=s j y):i=j:=by
 rcases Nat.lt_trichotomy i j with h |h |h
 ·have:=S.mono hy h hj;omega
 ·exact h
 ·have:=S.mono hy h hi;omega
theorem d7.row (S:d7 W H k T s) (hy:y < H) (g:Nat->Int):sm W (λ x=>if T x y=true then g x else 0)=sm k λ i=>g (s i y):=by
 have e1:sm W (λ x=>if T x y=true then g x else 0)=sm W λ x=>sm k λ i=>if x=s i y then g x else 0:=aY λ x hx=>by
  by_cases t:T x y=true
  ·rw[if_pos t];obtain⟨j,hj,e⟩:=(S.tk x y hx hy).mp t;refine (mQ (a:=g x) hj).symm.trans (aY λ i hi=>?_);by_cases e2:i=j
   ·rw[if_pos e2,if_pos (by rw[e2,e])]
   ·rw[if_neg e2,if_neg λ z=>e2 (S.inj hy hi hj (by omega))]
  ·rw[if_neg t];exact (lD λ i hi=>if_neg λ z=>t ((S.tk x y hx hy).mpr ⟨i,hi,z.symm⟩)).symm
 rw[e1,jW k W];exact aY λ i hi=>BK (S.lt i y hi hy)
def Sf (W H:Nat) (T:Nat->Nat->Bool) (φ:Nat->Int):Int:=sm H λ y=>sm W λ x=>if T x y=true then φ (out W x y) - φ (inn W x y) else 0
theorem d7.Sf (S:d7 W H k T s) (φ:Nat->Int):Fl.Sf W H T φ=sm k λ i=>sm H λ y=>φ (out W (s i y) y) - φ (inn W (s i y) y):=by
 unfold Fl.Sf;rw[aY λ y hy=>S.row hy λ x=>φ (out W x y) - φ (inn W x y)];exact jW k H
def dl (W H:Nat) (s:Nat->Nat->Nat) (φ:Nat->Int) (i y:Nat):Int:=(if y+1 < H then φ (inn W (s i (y+1)) (y+1)) else φ 1) - φ (out W (s i y) y)
theorem Nh (hH:0 < H) (φ:Nat->Int) (i:Nat):sm H (λ y=>φ (out W (s i y) y) - φ (inn W (s i y) y))=φ 1 - φ (inn W (s i 0) 0) - sm H (dl W H s φ i):=by
 have h:=Ng (f:=λ y=>if y < H then φ (inn W (s i y) y) else φ 1) H;simp only[Nat.lt_irrefl,if_false,hH,if_true] at h;have e:sm H (λ y=>(if y+1 < H then φ (inn W (s i (y+1)) (y+1)) else φ 1) - (if y < H then φ (inn W (s i y) y) else φ 1))=sm H (λ y=>φ (out W (s i y) y) - φ (inn W (s i y) y))+sm H (dl W H s φ i):=by
  rw[<-iZ];exact aY λ y hy=>by rw[if_pos hy];unfold dl;omega
 rw[e] at h;omega
theorem d7.Sf' (S:d7 W H k T s) (hH:0 < H) (φ:Nat->Int):Fl.Sf W H T φ=sm k λ i=>φ 1 - φ (inn W (s i 0) 0) - sm H (dl W H s φ i):=by
 rw[S.Sf φ];exact aY λ i _=>Nh hH φ i
def uo (T:Nat->Nat->Bool) (a b:Nat):Nat->Nat->Bool:=λ x y=>if x=a/\y=b then !T x y else T x y
theorem Xe {a b:Nat}:uo T a b a b= !T a b:=if_pos ⟨rfl,rfl⟩
theorem sX {a b:Nat} (h:¬(x=a/\y=b)):uo T a b x y=T x y:=if_neg h
theorem ad0 {a b:Nat} (ha:a < W) (hb:b < H) (φ:Nat->Int):Sf W H (uo T a b) φ=Sf W H T φ+(if T a b=true then -(φ (out W a b) - φ (inn W a b)) else φ (out W a b) - φ (inn W a b)):=by
 generalize hd:(if T a b=true then -(φ (out W a b) - φ (inn W a b)) else φ (out W a b) - φ (inn W a b))=dd
 rw[<-mQ (a:=dd) hb];unfold Sf;rw[<-iZ];refine aY λ y hy=>?_;by_cases e:y=b
 ·rw[if_pos e];subst e;rw[<-mQ (a:=dd) ha,<-iZ];refine aY λ x hx=>?_;by_cases e2:x=a
  ·subst e2;rw[Xe,if_pos rfl,<-hd];cases T x y with
   |false=>simp
   |true=>simp;omega
  ·rw[sX (λ z=>e2 z.1),if_neg e2];omega
 ·rw[if_neg e,Int.add_zero];exact aY λ x _=>by rw[sX (λ z=>e z.2)]
theorem gQ.nodes (S:d7 W H k T s) (hW:0 < W) (hH:0 < H) (a:gQ W H k c T s u v w):u < 2*(W*H+1)/\v < 2*(W*H+1)/\v≠0:=by
 have hWH:0 < W*H:=Nat.mul_pos hW hH;cases a with
 |st hx=>exact⟨by omega,wF hx hH,by have:= @Sy W;unfold inn;omega⟩
 |cl hx hy t=>exact⟨wF hx hy,um hx hy,by unfold out;omega⟩
 |dn hx hx' hy _ _=>exact⟨um hx (by omega),wF hx' hy,by unfold inn;omega⟩
 |en hx hy=>exact⟨um hx (by omega),by omega,by omega⟩
 |ue hi hy=>exact⟨by omega,um (S.lt _ _ hi (by omega)) (by omega),by unfold out;omega⟩
 |up hi hy=>exact⟨wF (S.lt _ _ hi hy) hy,um (S.lt _ _ hi (by omega)) (by omega),by unfold out;omega⟩
 |bk hi hy=>exact⟨um (S.lt _ _ hi hy) hy,wF (S.lt _ _ hi hy) hy,by unfold inn;omega⟩
theorem SM {x':Nat} (h:x < W):y*W+x+1≠(y+1)*W+x'+1:=by rw[Nat.add_mul];omega
theorem gQ.cell (S:d7 W H k T s) (a:gQ W H k c T s u v w) (h:u / 2=v / 2):
  ∃x y,x < W/\y < H/\((u=inn W x y/\v=out W x y/\T x y=false/\w=c x y)\/(u=out W x y/\v=inn W x y/\T x y=true/\w= -c x y)):=by
 cases a with
 |st hx=>rw[jj] at h;omega
 | @cl x y hx hy t=>exact⟨x,y,hx,hy,.inl ⟨rfl,rfl,t,rfl⟩⟩
 |dn hx hx' hy _ _=>rw[jj,iQ] at h;exact absurd h (SM hx)
 |en hx hy=>rw[iQ] at h;omega
 |ue hi hy=>rw[iQ] at h;omega
 | @up i y hi hy=>rw[jj,iQ] at h;exact absurd h.symm (SM (S.lt i y hi (by omega)))
 | @bk i y hi hy=>exact⟨s i y,y,S.lt i y hi hy,hy,.inr ⟨rfl,rfl,(S.tk _ _ (S.lt i y hi hy) hy).mpr ⟨i,hi,rfl⟩,rfl⟩⟩
theorem gQ.afN (a:gQ W H k c T s u v w) (h:u / 2≠v / 2):w=0:=by
 cases a with
 |cl hx hy t=>rw[jj,iQ] at h;exact absurd rfl h
 |bk hi hy=>rw[jj,iQ] at h;exact absurd rfl h
 |_=>rfl
structure uq (W H:Nat) (φ:Nat->Int):Prop where
 st:∀x,x < W->φ 0<=φ (inn W x 0)
 dn:∀x x' y,x < W->x' < W->y+1 < H->x'<=x+1->x<=x'+1->φ (out W x y)<=φ (inn W x' (y+1))
 en:∀x y,x < W->y+1=H->φ (out W x y)<=φ 1
theorem uq.dl (R:uq W H φ) (S:d7 W H k T s) (hi:i < k) (hy:y < H):0<=Fl.dl W H s φ i y:=by
 unfold Fl.dl;by_cases h:y+1 < H
 ·rw[if_pos h];obtain⟨h1,h2⟩:=S.nr i y hi h;have:=R.dn (s i y) (s i (y+1)) y (S.lt i y hi hy) (S.lt i _ hi h) h h1 h2;omega
 ·rw[if_neg h];have:=R.en (s i y) y (S.lt i y hi hy) (by omega);omega
def gb (W H k:Nat) (s:Nat->Nat->Nat) (φ:Nat->Int) (v:Nat):Int:=sm k λ i=>sm H λ y=>if v=out W (s i y) y then dl W H s φ i y else 0
theorem zQ (R:uq W H φ) (S:d7 W H k T s) (v:Nat):0<=gb W H k s φ v:=lE λ i hi=>lE λ y hy=>by
 by_cases e:v=out W (s i y) y
 ·rw[if_pos e];exact R.dl S hi hy
 ·rw[if_neg e];exact Int.le_refl _
theorem aaY (R:uq W H φ) (S:d7 W H k T s) (hi:i < k) (hy:y < H):dl W H s φ i y<=gb W H k s φ (out W (s i y) y):=by
 have nn:∀j z,j < k->z < H->0<=(if out W (s i y) y=out W (s j z) z then dl W H s φ j z else 0):=λ j z hj hz=>by
  by_cases e:out W (s i y) y=out W (s j z) z
  ·rw[if_pos e];exact R.dl S hj hz
  ·rw[if_neg e];exact Int.le_refl _
 have h1:=BL (f:=λ z=>if out W (s i y) y=out W (s i z) z then dl W H s φ i z else 0) (n:=H) (λ z hz=>nn i z hi hz) hy;have h2:=BL (f:=λ j=>sm H λ z=>if out W (s i y) y=out W (s j z) z then dl W H s φ j z else 0) (n:=k) (λ j hj=>lE λ z hz=>nn j z hj hz) hi;have h1:(if out W (s i y) y=out W (s i y) y then dl W H s φ i y else 0)<=_:=h1;rw[if_pos rfl] at h1;exact Int.le_trans h1 h2
theorem ad1 (S:d7 W H k T s) (φ:Nat->Int):sm (2*(W*H+1)) (gb W H k s φ)=sm k λ i=>sm H (dl W H s φ i):=by
 unfold gb;rw[jW k _];refine aY λ i hi=>?_;rw[jW H _];exact aY λ y hy=>mQ (um (S.lt i y hi hy) hy)
theorem gQ.link (R:uq W H φ) (S:d7 W H k T s) (a:gQ W H k c T s u v w) (h:u / 2≠v / 2): -gb W H k s φ v<=φ v - φ u:=by
 have g0:=zQ R S v;cases a with
 |cl hx hy t=>rw[jj,iQ] at h;exact absurd rfl h
 |bk hi hy=>rw[jj,iQ] at h;exact absurd rfl h
 |st hx=>have:=R.st _ hx;omega
 |dn hx hx' hy h1 h2=>have:=R.dn _ _ _ hx hx' hy h1 h2;omega
 |en hx hy=>have:=R.en _ _ hx hy;omega
 | @ue i y hi hy=>
  have:=aaY R S hi (show y < H by omega);unfold dl at this;rw[if_neg (by omega)] at this;omega
 | @up i y hi hy=>
  have:=aaY R S hi (show y < H by omega);unfold dl at this;rw[if_pos hy] at this;omega
end
def fQ (W:Nat) (ahead:Nat->Nat):Nat->Nat->(Nat->Nat->Bool)->Nat->Nat->Bool
 |0,_,T=>T
 |d+1,v,T=>fQ W ahead d (ahead v) (if ahead v / 2=v / 2 then uo T ((v / 2 - 1) % W) ((v / 2 - 1) / W) else T)
def yQ (ahead:Nat->Nat) (φ:Nat->Int):Nat->Nat->Int
 |0,_=>0
 |d+1,v=>(if ahead v / 2=v / 2 then 0 else φ v - φ (ahead v))+yQ ahead φ d (ahead v)
theorem aaZ {ahead:Nat->Nat} {G:Nat->Prop} (hG:∀v,G v->v≠0->G (ahead v)):∀{d v w:Nat},jF ahead d v->G v->vis ahead d v w=true->G w/\w≠0
 |0,_,_,_,_,h=>by cases h
 | d +1,v,w,c,g,h=>by
  rcases (Bool.or_eq_true _ _).mp h with h |h
  ·have:w=v:=by simpa using h
   subst this;exact⟨g,c.1⟩
  ·exact aaZ hG c.2 (hG v g c.1) h
section
variable {W H k:Nat} {c:Nat->Nat->Int} {T0:Nat->Nat->Bool} {s:Nat->Nat->Nat} {ahead:Nat->Nat} {p:Nat->Int} {G:Nat->Prop}
def zR (W H:Nat) (c:Nat->Nat->Int) (p:Nat->Int) (T:Nat->Nat->Bool):Prop:=∀x y,x < W->y < H->(T x y=true->p (inn W x y)+c x y<=p (out W x y))/\(T x y=false->p (out W x y)<=p (inn W x y)+c x y)
theorem SN (hx:x < W) (h:(u=inn W x y/\v=out W x y)\/(u=out W x y/\v=inn W x y)):(v / 2 - 1) % W=x/\(v / 2 - 1) / W=y:=by
 rcases h with⟨_,rfl⟩ |⟨_,rfl⟩
 ·rw[iQ,Nat.add_sub_cancel];exact⟨wC hx,wD hx⟩
 ·rw[jj,Nat.add_sub_cancel];exact⟨wC hx,wD hx⟩
theorem yc (S:d7 W H k T0 s) (hG:∀v,G v->v≠0->G (ahead v)/\∃w,gQ W H k c T0 s (ahead v) v w/\p v=p (ahead v)+w):
  ∀ (d v:Nat) (T:Nat->Nat->Bool),jF ahead d v->G v->(∀w,vis ahead d v w=true->ahead w / 2=w / 2->T ((w / 2 - 1) % W) ((w / 2 - 1) / W)=T0 ((w / 2 - 1) % W) ((w / 2 - 1) / W))->zR W H c p T->
   (∀φ,Sf W H (fQ W ahead d v T) φ=Sf W H T φ+(φ v - φ 0) - yQ ahead φ d v)/\zR W H c p (fQ W ahead d v T)
 | 0,v,T,ch,g,ag,co=>by
  have ch:v=0:=ch;subst ch;exact⟨λ φ=>by show Sf W H T φ=Sf W H T φ+(φ 0 - φ 0) - 0;omega,co⟩
 | d + 1,v,T,ch,g,ag,co=>by
  obtain⟨v0,Cz⟩:=id ch;obtain⟨g',w,a,tight⟩:=hG v g v0;have agv:∀w,vis ahead d (ahead v) w=true->vis ahead (d+1) v w=true:=λ w h=>by
   show (w ==v || vis ahead d (ahead v) w)=true;rw[h,Bool.or_true]
  by_cases e:ahead v / 2=v / 2
  ·obtain⟨x,y,hx,hy,hc⟩:=a.cell S e;have hcv:(v / 2 - 1) % W=x/\(v / 2 - 1) / W=y:=SN hx (hc.imp (λ z=>⟨z.1,z.2.1⟩) λ z=>⟨z.1,z.2.1⟩);have tv:T x y=T0 x y:=by
    have:=ag v (by show (v ==v || _)=true;simp) e;rw[hcv.1,hcv.2] at this;exact this
   have step:fQ W ahead (d+1) v T=fQ W ahead d (ahead v) (uo T x y):=by
    show fQ W ahead d (ahead v) (if ahead v / 2=v / 2 then _ else T)=_;rw[if_pos e,hcv.1,hcv.2]
   have ag':∀w,vis ahead d (ahead v) w=true->ahead w / 2=w / 2->uo T x y ((w / 2 - 1) % W) ((w / 2 - 1) / W)=T0 ((w / 2 - 1) % W) ((w / 2 - 1) / W):=λ w hw ew=>by
    rw[<-ag w (agv w hw) ew];refine sX λ z=>?_;have wv:w≠v:=λ z=>by rw[z,Jb ch] at hw;cases hw
    obtain⟨gw,w0⟩:=aaZ (λ v g h=>(hG v g h).1) Cz g' hw;obtain⟨_,w',a',_⟩:=hG w gw w0;obtain⟨x',y',hx',hy',hc'⟩:=a'.cell S ew;have hcw:=SN hx' (hc'.imp (λ z=>⟨z.1,z.2.1⟩) λ z=>⟨z.1,z.2.1⟩);have ex:x'=x:=hcw.1.symm.trans z.1;have ey:y'=y:=hcw.2.symm.trans z.2;subst ex ey;have hu:w=ahead v/\ahead w=v:=by
     rcases hc with⟨c1,c2,_⟩ |⟨c1,c2,_⟩ <;> rcases hc' with⟨c3,c4,_⟩ |⟨c3,c4,_⟩
     ·exact absurd (c4.trans c2.symm) wv
     ·exact⟨c4.trans c1.symm,c3.trans c2.symm⟩
     ·exact⟨c4.trans c1.symm,c3.trans c2.symm⟩
     ·exact absurd (c4.trans c2.symm) wv
    have ch2:jF ahead d w:=by rw[hu.1];exact Cz
    cases d with
    |zero=>exact w0 ch2
    | succ d=>
     have ch3:=ch2.2;rw[hu.2] at ch3;have:=jF.uniq ch ch3;omega
   have co':zR W H c p (uo T x y):=λ x' y' hx' hy'=>by
    by_cases z:x'=x/\y'=y
    ·obtain⟨rfl,rfl⟩:=z;rcases hc with⟨c1,c2,_,c4⟩ |⟨c1,c2,_,c4⟩ <;> rw[c1,c2,c4] at tight
     ·exact⟨λ _=>by omega,λ _=>by omega⟩
     ·exact⟨λ _=>by omega,λ _=>by omega⟩
    ·rw[sX z];exact co x' y' hx' hy'
   obtain⟨h1,h2⟩:=yc S hG d (ahead v) (uo T x y) Cz g' ag' co';rw[step];refine⟨λ φ=>?_,h2⟩;rw[h1 φ,ad0 hx hy φ,tv];have el:yQ ahead φ (d+1) v=yQ ahead φ d (ahead v):=by
    show (if ahead v / 2=v / 2 then 0 else φ v - φ (ahead v))+yQ ahead φ d (ahead v)=_;rw[if_pos e];omega
   rw[el];rcases hc with⟨c1,c2,c3,_⟩ |⟨c1,c2,c3,_⟩
   ·rw[c3,if_neg Bool.false_ne_true,c1,c2];omega
   ·rw[c3,if_pos rfl,c1,c2];omega
  ·have step:fQ W ahead (d+1) v T=fQ W ahead d (ahead v) T:=by
    show fQ W ahead d (ahead v) (if ahead v / 2=v / 2 then _ else T)=_;rw[if_neg e]
   obtain⟨h1,h2⟩:=yc S hG d (ahead v) T Cz g' (λ w hw ew=>ag w (agv w hw) ew) co;rw[step];refine⟨λ φ=>?_,h2⟩;rw[h1 φ];have el:yQ ahead φ (d+1) v=φ v - φ (ahead v)+yQ ahead φ d (ahead v):=by
    show (if ahead v / 2=v / 2 then 0 else φ v - φ (ahead v))+yQ ahead φ d (ahead v)=_;rw[if_neg e]
   rw[el];omega
theorem aa0 (hG:∀v,G v->v≠0->G (ahead v)/\∃w,gQ W H k c T0 s (ahead v) v w/\p v=p (ahead v)+w):∀(d v:Nat),jF ahead d v->G v->yQ ahead p d v=0
 |0,_,_,_=>rfl
 | d +1,v,ch,g=>by
  obtain⟨g',w,a,tight⟩:=hG v g ch.1;show (if ahead v / 2=v / 2 then 0 else p v - p (ahead v))+yQ ahead p d (ahead v)=0;rw[aa0 hG d (ahead v) ch.2 g'];by_cases e:ahead v / 2=v / 2
  ·rw[if_pos e];rfl
  ·rw[if_neg e];have:=a.afN e;omega
theorem Xf (S:d7 W H k T0 s) (hW:0 < W) (hH:0 < H) {φ:Nat->Int} (R:uq W H φ) (hG:∀v,G v->v≠0->G (ahead v)/\∃w,gQ W H k c T0 s (ahead v) v w/\p v=p (ahead v)+w):
  ∀(d v:Nat),jF ahead d v->G v->-sm (2*(W*H+1)) (λ w=>if vis ahead d v w=true then gb W H k s φ w else 0)<=yQ ahead φ d v
 | 0,_,_,_=>by
  show -sm _ (λ w=>if false=true then gb W H k s φ w else 0)<=0;rw[lD λ i _=>if_neg Bool.false_ne_true];exact Int.le_refl _
 | d + 1,v,ch,g=>by
  obtain⟨g',w,a,tight⟩:=hG v g ch.1;have ih:=Xf S hW hH R hG d (ahead v) ch.2 g';have hv:=(a.nodes S hW hH).2.1;have nv:=Jb ch;have e1:sm (2*(W*H+1)) (λ w=>if vis ahead (d+1) v w=true then gb W H k s φ w else 0)=sm (2*(W*H+1)) (λ w=>if vis ahead d (ahead v) w=true then gb W H k s φ w else 0)+gb W H k s φ v:=by
   rw[<-mQ (a:=gb W H k s φ v) hv,<-iZ];refine aY λ i _=>?_;show (if (i ==v || vis ahead d (ahead v) i)=true then gb W H k s φ i else 0)=_;by_cases z:i=v
   ·subst z;rw[nv,if_pos (by simp),if_pos rfl,if_neg Bool.false_ne_true];omega
   ·have:(i ==v)=false:=by simpa using z
    rw[this,Bool.false_or,if_neg z];omega
  rw[e1];show _<=(if ahead v / 2=v / 2 then 0 else φ v - φ (ahead v))+yQ ahead φ d (ahead v);have g0:=zQ R S v;by_cases e:ahead v / 2=v / 2
  ·rw[if_pos e];omega
  ·rw[if_neg e];have:=a.link R S e;omega
theorem ab8 (S:d7 W H k T0 s) (hW:0 < W) (hH:0 < H) (R:uq W H φ) (hG:∀v,G v->v≠0->G (ahead v)/\∃w,gQ W H k c T0 s (ahead v) v w/\p v=p (ahead v)+w)
  {d:Nat} (ch:jF ahead d 1) (g:G 1) (co:zR W H c p T0):Sf W H (fQ W ahead d 1 T0) φ<=(k+1:Nat)*(φ 1 - φ 0):=by
 obtain⟨h1,_⟩:=yc S hG d 1 T0 ch g (λ _ _ _=>rfl) co;have h2:=Xf S hW hH R hG d 1 ch g;have h3:sm (2*(W*H+1)) (λ w=>if vis ahead d 1 w=true then gb W H k s φ w else 0)<=sm (2*(W*H+1)) (gb W H k s φ):=eN λ w _=>by
  by_cases e:vis ahead d 1 w=true
  ·rw[if_pos e];exact Int.le_refl _
  ·rw[if_neg e];exact zQ R S w
 rw[ad1 S φ] at h3;have h4:Sf W H T0 φ<=sm k (λ _=>φ 1 - φ 0) - sm k λ i=>sm H (dl W H s φ i):=by
  rw[S.Sf' hH φ,<-zP];exact eN λ i hi=>by
   have:=R.st (s i 0) (S.lt i 0 hi hH);omega
 rw[ji k] at h4;rw[h1 φ,Int.natCast_succ,Int.add_mul,Int.one_mul];omega
end
def cnt (P:Nat->Bool) (t:Nat):Nat->Nat
 |0=>0
 |n+1=>cnt P t n+if P n=true/\n<=t then 1 else 0
def pl (P:Nat->Bool) (n:Nat):List Nat:=(List.range n).filter P
section
variable {P:Nat->Bool} {t n:Nat}
theorem Jc:pl P (n+1)=pl P n++if P n=true then [n] else []:=by
 unfold pl;rw[List.range_succ,List.filter_append];cases h:P n <;> simp[h]
theorem Jd (h:n<=t+1):cnt P t n=(pl P n).length:=by
 induction n with
 |zero=>rfl
 | succ n ih=>
  rw[Jc,z1d,<-ih (by omega)];show cnt P t n+_=_;cases e:P n with
  |false=>simp
  |true=>rw[if_pos ⟨rfl,by omega⟩,if_pos rfl];rfl
theorem ad2:cnt P t n<=(pl P n).length:=by
 induction n with
 |zero=>exact z0g _
 | succ n ih=>
  rw[Jc,z1d];show cnt P t n+_<=_;cases e:P n with
  |false=>simp;exact ih
  | true=>
   rw[if_pos rfl];by_cases h:n<=t
   ·rw[if_pos ⟨rfl,h⟩];simpa using ih
   ·rw[if_neg λ z=>h z.2];simp;omega
theorem Xg:x∈pl P n↔x < n/\P x=true:=by
 unfold pl;rw[List.mem_filter,List.mem_range]
theorem zT:∀{n i:Nat},i < (pl P n).length->((pl P n).getD i 0<=t↔i < cnt P t n)
 |0,i,h=>absurd h (Nat.not_lt_zero _)
 | n + 1,i,h=>by
  have hc:cnt P t (n+1)=cnt P t n+if P n=true/\n<=t then 1 else 0:=rfl;rw[hc];rw[Jc] at h |-;by_cases hi:i < (pl P n).length
  ·rw[List.getD_eq_getElem?_getD,List.getElem?_append_left hi,<-List.getD_eq_getElem?_getD,zT hi];by_cases z:P n=true/\n<=t
   ·rw[if_pos z];have:=Jd (P:=P) (t:=t) (n:=n) (by omega);omega
   ·rw[if_neg z];omega
  ·cases e:P n with
   |false=>rw[e,if_neg Bool.false_ne_true,List.append_nil] at h;exact absurd h hi
   | true=>
    rw[e,if_pos rfl,z1d] at h;have ei:i=(pl P n).length:=by have:i < (pl P n).length+1:=h;omega
    rw[if_pos rfl,ei,List.getD_eq_getElem?_getD,List.getElem?_append_right (z0g _),Nat.sub_self];show n<=t↔_;by_cases z:n<=t
    ·rw[if_pos ⟨rfl,z⟩,Jd (P:=P) (t:=t) (n:=n) (by omega)];exact⟨λ _=>Nat.lt_succ_self _,λ _=>z⟩
    ·rw[if_neg λ q=>z q.2];have:=ad2 (P:=P) (t:=t) (n:=n);exact⟨λ q=>absurd q z,λ q=>by omega⟩
theorem getD_mem {l:List Nat} (h:i < l.length):l.getD i 0∈l:=by
 rw[List.getD_eq_getElem?_getD,List.getElem?_eq_getElem h];exact List.getElem_mem h
theorem aa1 (h:i < (pl P n).length):(pl P n).getD i 0 < n/\P ((pl P n).getD i 0)=true:=Xg.mp (getD_mem h)
theorem ad3:(pl P n).Pairwise (· < ·):=by
 unfold pl;exact List.Pairwise.filter _ List.pairwise_lt_range
theorem ad4 (h:i+1 < (pl P n).length):(pl P n).getD i 0 < (pl P n).getD (i+1) 0:=by
 rw[List.getD_eq_getElem?_getD,List.getD_eq_getElem?_getD,List.getElem?_eq_getElem h,List.getElem?_eq_getElem (show i < _ by omega)];exact List.pairwise_iff_getElem.mp ad3 i (i+1) (by omega) h (by omega)
theorem ad5 (h:x∈pl P n):∃i,i < (pl P n).length/\(pl P n).getD i 0=x:=by
 obtain⟨i,hi,e⟩:=List.mem_iff_getElem.mp h;exact⟨i,hi,by rw[List.getD_eq_getElem?_getD,List.getElem?_eq_getElem hi];exact e⟩
theorem zU:∀n,((cnt P t n:Nat):Int)=sm n λ x=>if P x=true then (if x<=t then 1 else 0) else 0
 |0=>rfl
 | n +1=>by
  show ((cnt P t n+(if P n=true/\n<=t then 1 else 0):Nat):Int)=sm n _+(if P n=true then (if n<=t then 1 else 0) else 0);rw[Int.natCast_add,zU n];by_cases h:P n=true
  ·by_cases k:n<=t
   ·rw[if_pos ⟨h,k⟩,if_pos h,if_pos k];rfl
   ·rw[if_neg λ z=>k z.2,if_pos h,if_neg k];rfl
  ·rw[if_neg λ z=>h z.1,if_neg h];rfl
end
section
variable {W H:Nat} {T:Nat->Nat->Bool} {a0 a1:Int} {fi fo:Nat->Nat->Int}
theorem Xh:Sf W H T (tbl W a0 a1 fi fo)=sm H λ y=>sm W λ x=>if T x y=true then fo x y - fi x y else 0:=
 aY λ y _=>aY λ x hx=>by rw[IW hx,Ja hx]
theorem uq.tbl (st:∀x,x < W->a0<=fi x 0) (dn:∀x x' y,x < W->x' < W->y+1 < H->x'<=x+1->x<=x'+1->fo x y<=fi x' (y+1)) (en:∀x y,x < W->y+1=H->fo x y<=a1) (hH:0 < H):uq W H (tbl W a0 a1 fi fo) where
 st:=λ x hx=>by rw[IW hx];exact st x hx
 dn:=λ x x' y hx hx' hy h1 h2=>by rw[Ja hx,IW hx'];exact dn x x' y hx hx' hy h1 h2
 en:=λ x y hx hy=>by rw[Ja hx];exact en x y hx hy
def J5 (W H m:Nat) (T:Nat->Nat->Bool):Prop:=∀φ,uq W H φ->Sf W H T φ<=(m:Int)*(φ 1 - φ 0)
theorem J5.row {m:Nat} (B:J5 W H m T) (hH:0 < H) (hy:y0 < H):(pl (λ x=>T x y0) W).length=m:=by
 have e:∀a:Int,sm H (λ y=>sm W λ x=>if T x y=true then (if y0<=y then a else 0) - (if y0 < y then a else 0) else 0)=sm W λ x=>if T x y0=true then a else 0:=λ a=>by
  have h1:sm H (λ y=>sm W λ x=>if T x y=true then (if y0<=y then a else 0) - (if y0 < y then a else 0) else 0)=sm H λ y=>if y=y0 then (λ y=>sm W λ x=>if T x y=true then a else 0) y else 0:=aY λ y _=>by
   by_cases z:y=y0
   ·subst z;rw[if_pos rfl];exact aY λ x _=>by rw[if_pos (z0g _),if_neg (Nat.lt_irrefl _),Int.sub_zero]
   ·rw[if_neg z];refine lD λ x _=>?_;by_cases q:y0<=y
    ·rw[if_pos q,if_pos (c:=y0 < y) (by omega),Int.sub_self];exact ite_self _
    ·rw[if_neg q,if_neg (c:=y0 < y) (by omega),Int.sub_self];exact ite_self _
  rw[h1,BK hy]
 have ris:∀a:Int,uq W H (Fl.tbl W 0 a (λ x y=>if y0 < y then a else 0) (λ x y=>if y0<=y then a else 0)):=λ a=>by
  refine uq.tbl (λ x _=>?_) (λ x x' y _ _ _ _ _=>?_) (λ x y _ h=>?_) hH
  ·rw[if_neg (Nat.not_lt_zero _)];exact Int.le_refl _
  ·by_cases q:y0<=y
   ·rw[if_pos q,if_pos (by omega)];exact Int.le_refl _
   ·rw[if_neg q,if_neg (by omega)];exact Int.le_refl _
  ·rw[if_pos (by omega)];exact Int.le_refl _
 have ct:∀a:Int,sm W (λ x=>if T x y0=true then a else 0)<=m*a:=λ a=>by
  have h:=B _ (ris a);rw[Xh,e a] at h;have e1:Fl.tbl W 0 a (λ x y=>if y0 < y then a else 0) (λ x y=>if y0<=y then a else 0) 1=a:=rfl;have e0:Fl.tbl W 0 a (λ x y=>if y0 < y then a else 0) (λ x y=>if y0<=y then a else 0) 0=0:=rfl;rw[e1,e0,Int.sub_zero] at h;exact h
 have h1:=ct 1;have h2:=ct (-1);have e3:sm W (λ x=>if T x y0=true then (-1:Int) else 0)= -sm W (λ x=>if T x y0=true then (1:Int) else 0):=by
  rw[<-zO];refine aY λ x _=>?_;by_cases q:T x y0=true
  ·rw[if_pos q,if_pos q]
  ·rw[if_neg q,if_neg q];rfl
 have e4:=zU (P:=λ x=>T x y0) (t:=W) W;rw[Jd (by omega)] at e4;have e5:sm W (λ x=>if T x y0=true then (if x<=W then (1:Int) else 0) else 0)=sm W (λ x=>if T x y0=true then (1:Int) else 0):=aY λ x hx=>by rw[if_pos (z0e hx)]
 have e4:(((pl (λ x=>T x y0) W).length:Nat):Int)=sm W (λ x=>if T x y0=true then (if x<=W then (1:Int) else 0) else 0):=e4;rw[e5] at e4;rw[e3] at h2;omega
theorem aac (hy:y0+1 < H) (h:∀y,y < H->y≠y0->y≠y0+1->f y=0):sm H f=f y0+f (y0+1):=by
 rw[<-BK (f:=f) (show y0 < H by omega),<-BK (f:=f) hy,<-iZ];refine aY λ y hy'=>?_;by_cases a:y=y0
 ·rw[if_pos a,if_neg (by omega)];omega
 ·rw[if_neg a];by_cases b:y=y0+1
  ·rw[if_pos b];omega
  ·rw[if_neg b,h y hy' a b];rfl
theorem J5.near {m:Nat} (B:J5 W H m T) (hH:0 < H) (hy:y0+1 < H) (t:Nat):cnt (λ x=>T x y0) t W<=cnt (λ x=>T x (y0+1)) (t+1) W/\cnt (λ x=>T x (y0+1)) t W<=cnt (λ x=>T x y0) (t+1) W:=by
 have go :∀(a:Int) (t1 t2:Nat),uq W H (Fl.tbl W 0 0 (λ x y=>if y=y0+1/\x<=t2 then a else 0) (λ x y=>if y=y0/\x<=t1 then a else 0))->
   sm W (λ x=>if T x y0=true then (if x<=t1 then a else 0) else 0)<=sm W (λ x=>if T x (y0+1)=true then (if x<=t2 then a else 0) else 0):=λ a t1 t2 R=>by
  have h:=B _ R;rw[Xh] at h;have e1:Fl.tbl W 0 0 (λ x y=>if y=y0+1/\x<=t2 then a else 0) (λ x y=>if y=y0/\x<=t1 then a else 0) 1=0:=rfl;have e0:Fl.tbl W 0 0 (λ x y=>if y=y0+1/\x<=t2 then a else 0) (λ x y=>if y=y0/\x<=t1 then a else 0) 0=0:=rfl;rw[e1,e0,Int.sub_self,Int.mul_zero,aac hy λ y _ n1 n2=>lD λ x _=>by rw[if_neg (c:=y=y0/\x<=t1) (λ z=>n1 z.1),if_neg (c:=y=y0+1/\x<=t2) (λ z=>n2 z.1),Int.sub_self];exact ite_self _] at h;have q1:sm W (λ x=>if T x y0=true then (if y0=y0/\x<=t1 then a else 0) - (if y0=y0+1/\x<=t2 then a else 0) else 0)=sm W (λ x=>if T x y0=true then (if x<=t1 then a else 0) else 0):=aY λ x _=>by
   rw[if_neg (c:=y0=y0+1/\x<=t2) (λ z=>by omega),Int.sub_zero];by_cases z:x<=t1
   ·rw[if_pos (c:=y0=y0/\x<=t1) ⟨rfl,z⟩,if_pos z]
   ·rw[if_neg (c:=y0=y0/\x<=t1) (λ q=>z q.2),if_neg z]
  have q2:sm W (λ x=>if T x (y0+1)=true then (if y0+1=y0/\x<=t1 then a else 0) - (if y0+1=y0+1/\x<=t2 then a else 0) else 0)= -sm W (λ x=>if T x (y0+1)=true then (if x<=t2 then a else 0) else 0):=by
   rw[<-zO];exact aY λ x _=>by
    rw[if_neg (c:=y0+1=y0/\x<=t1) (λ z=>by omega),Int.zero_sub];by_cases z:x<=t2
    ·rw[if_pos (c:=y0+1=y0+1/\x<=t2) ⟨rfl,z⟩,if_pos z];by_cases w:T x (y0+1)=true
     ·rw[if_pos w,if_pos w]
     ·rw[if_neg w,if_neg w];rfl
    ·rw[if_neg (c:=y0+1=y0+1/\x<=t2) (λ q=>z q.2),if_neg z];by_cases w:T x (y0+1)=true
     ·rw[if_pos w,if_pos w]
     ·rw[if_neg w,if_neg w];rfl
  rw[q1,q2] at h;omega
 have ng:∀(P:Nat->Bool) (t:Nat),sm W (λ x=>if P x=true then (if x<=t then (-1:Int) else 0) else 0)= -(cnt P t W:Nat):=λ P t=>by
  rw[zU,<-zO];exact aY λ x _=>by
   by_cases w:P x=true
   ·rw[if_pos w,if_pos w];by_cases z:x<=t
    ·rw[if_pos z,if_pos z]
    ·rw[if_neg z,if_neg z];rfl
   ·rw[if_neg w,if_neg w];rfl
 constructor
 ·have h:=go 1 t (t+1) (uq.tbl (λ x _=>by split <;> decide) (λ x x' y _ _ _ h1 h2=>by
   by_cases z:y=y0/\x<=t
   ·rw[if_pos z,if_pos ⟨by omega,by omega⟩];decide
   ·rw[if_neg z];split <;> decide) (λ x y _ h=>by rw[if_neg (λ z=>by omega)];decide) hH)
  have k1:=zU (P:=λ x=>T x y0) (t:=t) W;have k2:=zU (P:=λ x=>T x (y0+1)) (t:=t+1) W;have k1:((cnt (λ x=>T x y0) t W:Nat):Int)=sm W (λ x=>if T x y0=true then (if x<=t then (1:Int) else 0) else 0):=k1;have k2:((cnt (λ x=>T x (y0+1)) (t+1) W:Nat):Int)=sm W (λ x=>if T x (y0+1)=true then (if x<=t+1 then (1:Int) else 0) else 0):=k2;omega
 ·have h:=go (-1) (t+1) t (uq.tbl (λ x _=>by rw[if_neg (λ z=>by omega)];decide) (λ x x' y _ _ _ h1 h2=>by
   by_cases z:y+1=y0+1/\x'<=t
   ·rw[if_pos z,if_pos ⟨by omega,by omega⟩];decide
   ·rw[if_neg z];split <;> decide) (λ x y _ h=>by split <;> decide) hH)
  have k1:=ng (λ x=>T x y0) (t+1);have k2:=ng (λ x=>T x (y0+1)) t;have k1:sm W (λ x=>if T x y0=true then (if x<=t+1 then (-1:Int) else 0) else 0)= -(cnt (λ x=>T x y0) (t+1) W:Nat):=k1;have k2:sm W (λ x=>if T x (y0+1)=true then (if x<=t then (-1:Int) else 0) else 0)= -(cnt (λ x=>T x (y0+1)) t W:Nat):=k2;omega
def sq (W:Nat) (T:Nat->Nat->Bool) (i y:Nat):Nat:=(pl (λ x=>T x y) W).getD i 0
theorem J5.sms {m:Nat} (B:J5 W H m T) (hH:0 < H):d7 W H m T (sq W T) where
 lt:=λ i y hi hy=>(aa1 (by rw[B.row hH hy];exact hi)).1
 rP:=λ i y hi hy=>ad4 (by rw[B.row hH hy];exact hi)
 nr:=λ i y hi hy=>by
  have l0:i < (pl (λ x=>T x y) W).length:=by rw[B.row hH (show y < H by omega)];exact hi
  have l1:i < (pl (λ x=>T x (y+1)) W).length:=by rw[B.row hH hy];exact hi
  have n1:=(B.near hH hy (sq W T i y)).1;have n2:=(B.near hH hy (sq W T i (y+1))).2;have c1:=(zT (t:=sq W T i y) l0).mp (z0g _);have c2:=(zT (t:=sq W T i (y+1)) l1).mp (z0g _);exact⟨(zT l1).mpr (z0d c1 n1),(zT l0).mpr (z0d c2 n2)⟩
 tk :=λ x y hx hy=>by
  have el:=B.row hH hy;constructor
  ·intro h;obtain⟨i,hi,e⟩:=ad5 (Xg.mpr ⟨hx,h⟩:x∈pl (λ x=>T x y) W);exact⟨i,by omega,e⟩
  ·rintro⟨i,hi,e⟩
   have:=(aa1 (show i < (pl (λ x=>T x y) W).length by omega)).2;have e:(pl (λ x=>T x y) W).getD i 0=x:=e;rw[e] at this;exact this
end
section
variable {W H k:Nat} {c:Nat->Nat->Int} {T:Nat->Nat->Bool} {s:Nat->Nat->Nat} {ahead:Nat->Nat} {p:Nat->Int} {G:Nat->Prop}
structure gj (W H k:Nat) (c:Nat->Nat->Int) (T:Nat->Nat->Bool) (s:Nat->Nat->Nat) (p:Nat->Int):Prop where
 z:p 0=0
 nn:∀v,v < 2*(W*H+1)->0<=p v
 ar:∀u v w,gQ W H k c T s u v w->p v<=p u+w
theorem gj.cells (P:gj W H k c T s p) (S:d7 W H k T s):zR W H c p T:=λ x y hx hy=>by
 refine⟨λ t=>?_,λ t=>?_⟩
 ·obtain⟨i,hi,e⟩:=(S.tk x y hx hy).mp t;have:=P.ar _ _ _ (.bk hi hy);rw[e] at this;omega
 ·exact P.ar _ _ _ (.cl hx hy t)
theorem gj.top (P:gj W H k c T s p) (hH:0 < H) (hx:x < W):p (inn W x 0)=0:=by
 have h1:=P.ar _ _ _ (.st hx);have h2:=P.nn _ (wF hx hH);have:=P.z;omega
theorem gj.dl0 (P:gj W H k c T s p) (S:d7 W H k T s) (hi:i < k) (hy:y < H):dl W H s p i y=0:=by
 unfold dl;by_cases h:y+1 < H
 ·rw[if_pos h];obtain⟨h1,h2⟩:=S.nr i y hi h;have a:=P.ar _ _ _ (.dn (S.lt i y hi hy) (S.lt i _ hi h) h h1 h2);have b:=P.ar _ _ _ (.up hi h);omega
 ·rw[if_neg h];have a:=P.ar _ _ _ (.en (S.lt i y hi hy) (show y+1=H by omega));have b:=P.ar _ _ _ (.ue hi (show y+1=H by omega));omega
theorem gj.Sf (P:gj W H k c T s p) (S:d7 W H k T s) (hH:0 < H):Fl.Sf W H T p=k*p 1:=by
 rw[S.Sf' hH p,<-ji (a:=p 1) k];exact aY λ i hi=>by rw[P.top hH (S.lt i 0 hi hH),lD λ y hy=>P.dl0 S hi hy];omega
theorem augment (hW:0 < W) (hH:0 < H) (S:d7 W H k T s) (P:gj W H k c T s p) (hG:∀v,G v->v≠0->G (ahead v)/\∃w,gQ W H k c T s (ahead v) v w/\p v=p (ahead v)+w)
  {d:Nat} (ch:jF ahead d 1) (g:G 1):J5 W H (k+1) (fQ W ahead d 1 T)/\gj W H (k+1) c (fQ W ahead d 1 T) (sq W (fQ W ahead d 1 T)) p:=by
 have co:=P.cells S;obtain⟨h1,co'⟩:=yc S hG d 1 T ch g (λ _ _ _=>rfl) co;have B:J5 W H (k+1) (fQ W ahead d 1 T):=λ φ R=>ab8 S hW hH R hG ch g co;have S':=B.sms hH;have e:=h1 p;rw[P.Sf S hH,aa0 hG d 1 ch g,S'.Sf' hH p] at e;have tops:∀i,i < k+1->p (inn W (sq W (fQ W ahead d 1 T) i 0) 0)=0:=λ i hi=>P.top hH (S'.lt i 0 hi hH);have le:∀i,i < k+1->∀y,y < H->dl W H (sq W (fQ W ahead d 1 T)) p i y<=0:=λ i hi y hy=>by
  unfold dl;by_cases h:y+1 < H
  ·rw[if_pos h];obtain⟨h1,h2⟩:=S'.nr i y hi h;have a:=P.ar _ _ _ (.dn (S'.lt i y hi hy) (S'.lt i _ hi h) h h1 h2);omega
  ·rw[if_neg h];have a:=P.ar _ _ _ (.en (S'.lt i y hi hy) (show y+1=H by omega));omega
 have e2:sm (k+1) (λ i=>p 1 - p (inn W (sq W (fQ W ahead d 1 T) i 0) 0) - sm H (dl W H (sq W (fQ W ahead d 1 T)) p i))=sm (k+1) (λ _=>p 1) - sm (k+1) λ i=>sm H (dl W H (sq W (fQ W ahead d 1 T)) p i):=by
  rw[<-zP];exact aY λ i hi=>by rw[tops i hi,Int.sub_zero]
 rw[e2,ji (k+1),Int.natCast_succ,Int.add_mul,Int.one_mul] at e;have z0:=P.z;have tot:sm (k+1) (λ i=>sm H (dl W H (sq W (fQ W ahead d 1 T)) p i))=0:=by omega
 have each:∀i,i < k+1->sm H (dl W H (sq W (fQ W ahead d 1 T)) p i)=0:=λ i hi=>
  Cy (f:=λ i=>sm H (dl W H (sq W (fQ W ahead d 1 T)) p i)) (g:=λ _=>0) (n:=k+1) (λ i hi=>by
   have:=eN (le i hi);rw[nO H] at this;exact this) (by rw[nO,tot];exact Int.le_refl _) i hi
 have dl0:∀i,i < k+1->∀y,y < H->dl W H (sq W (fQ W ahead d 1 T)) p i y=0:=λ i hi=>
  Cy (g:=λ _=>0) (n:=H) (le i hi) (by rw[nO,each i hi];exact Int.le_refl _)
 refine⟨B,P.z,P.nn,λ u v w a=>?_⟩;cases a with
 |st hx=>exact P.ar _ _ _ (.st hx)
 |cl hx hy t=>exact (co' _ _ hx hy).2 t
 |dn hx hx' hy h1 h2=>exact P.ar _ _ _ (.dn hx hx' hy h1 h2)
 |en hx hy=>exact P.ar _ _ _ (.en hx hy)
 | @ue i y hi hy=>
  have:=dl0 i hi y (by omega);unfold dl at this;rw[if_neg (by omega)] at this;omega
 | @up i y hi hy=>
  have:=dl0 i hi y (by omega);unfold dl at this;rw[if_pos hy] at this;omega
 | @bk i y hi hy=>
  have:=(co' _ _ (S'.lt i y hi hy) hy).1 ((S'.tk _ _ (S'.lt i y hi hy) hy).mpr ⟨i,hi,rfl⟩);omega
theorem gj.Xi (hH:0 < H) (S:d7 W H k T s) (P:gj W H k c T s p) (hc:∀x y,x < W->y < H->0<=c x y) (hk:k < W):p 1<=sm H λ y=>sm W λ x=>c x y:=by
 have n0:0<=p 1:=P.nn 1 (by have:=Nat.mul_pos (show 0 < W by omega) hH;omega);have col:∀x,x < W->p 1<=sm H λ y=>p (out W x y) - p (inn W x y):=λ x hx=>by
  have h:=Ng (f:=λ y=>if y < H then p (inn W x y) else p 1) H;simp only[Nat.lt_irrefl,if_false,hH,if_true,P.top hH hx] at h;have:sm H (λ y=>(if y+1 < H then p (inn W x (y+1)) else p 1) - (if y < H then p (inn W x y) else p 1))<=sm H λ y=>p (out W x y) - p (inn W x y):=eN λ y hy=>by
   rw[if_pos hy];by_cases q:y+1 < H
   ·rw[if_pos q];have:=P.ar _ _ _ (.dn hx hx q (by omega) (by omega));omega
   ·rw[if_neg q];have:=P.ar _ _ _ (.en hx (show y+1=H by omega));omega
  omega
 have all:(W:Int)*p 1<=sm W λ x=>sm H λ y=>p (out W x y) - p (inn W x y):=by
  rw[<-ji (a:=p 1) W];exact eN col
 rw[jW H W] at all;have split:sm H (λ y=>sm W λ x=>p (out W x y) - p (inn W x y))<=Fl.Sf W H T p+sm H λ y=>sm W λ x=>c x y:=by
  unfold Fl.Sf;rw[<-iZ];refine eN λ y hy=>?_;rw[<-iZ];refine eN λ x hx=>?_;have c0:=hc x y hx hy;cases t:T x y with
  |true=>rw[if_pos rfl];omega
  | false=>
   rw[if_neg Bool.false_ne_true];have:=P.ar _ _ _ (.cl hx hy t);omega
 rw[P.Sf S hH] at split;have hm:((k:Int)+1)*p 1<=W*p 1:=Int.mul_le_mul_of_nonneg_right (by omega) n0;rw[Int.add_mul,Int.one_mul] at hm;omega
theorem gj.SQ (S:d7 W H k T s) (P:gj W H k c T s p) (hc:∀x y,x < W->y < H->0<=c x y) (hi:i < k):∀(m y:Nat),y+m+1=H->p (out W (s i y) y)<=p 1
 | 0,y,h=>by
  have:=P.ar _ _ _ (.ue hi (show y+1=H by omega));omega
 | m+1,y,h=>by
  have ih:=gj.SQ S P hc hi m (y+1) (by omega);have a:=P.ar _ _ _ (.up hi (show y+1 < H by omega));have b:=P.ar _ _ _ (.bk hi (show y+1 < H by omega));have:=hc _ (y+1) (S.lt i (y+1) hi (by omega)) (by omega);omega
theorem gj.Xj (hW:0 < W) (hH:0 < H) (S:d7 W H k T s) (P:gj W H k c T s p) (hc:∀x y,x < W->y < H->0<=c x y) (hx:x < W):∀y,y < H->p (inn W x y)<=p 1+sm y (c x)/\p (out W x y)<=p 1+sm (y+1) (c x):=by
 have n0:0<=p 1:=P.nn 1 (by have:=Nat.mul_pos hW hH;omega);have ob:∀y,y < H->p (inn W x y)<=p 1+sm y (c x)->p (out W x y)<=p 1+sm (y+1) (c x):=λ y hy h=>by
  have e:sm (y+1) (c x)=sm y (c x)+c x y:=rfl;have c0:=hc x y hx hy;have s0:0<=sm y (c x):=lE λ j hj=>hc x j hx (by omega);cases t:T x y with
  |false=>have:=P.ar _ _ _ (.cl hx hy t);omega
  | true=>
   obtain⟨i,hi,e2⟩:=(S.tk x y hx hy).mp t;have:=P.SQ S hc hi (H - 1 - y) y (by omega);rw[e2] at this;omega
 intro y
 induction y with
 | zero=>
  intro hy;have h:p (inn W x 0)<=p 1+sm 0 (c x):=by rw[P.top hH hx];show 0<=p 1+0;omega
  exact⟨h,ob 0 hy h⟩
 | succ y ih=>
  intro hy;have h:=(ih (by omega)).2;have a:=P.ar _ _ _ (.dn hx hx hy (by omega) (by omega));have h2:p (inn W x (y+1))<=p 1+sm (y+1) (c x):=by omega
  exact⟨h2,ob (y+1) hy h2⟩
theorem SX {f:Nat->Int} {n:Nat}:∀{m:Nat},(∀i,i < m->0<=f i)->n<=m->sm n f<=sm m f
 |0,_,h=>by rw[Nat.le_zero.mp h];exact Int.le_refl _
 | m +1,hf,h=>by
  by_cases e:n=m+1
  ·rw[e];exact Int.le_refl _
  ·have:=SX (n:=n) (m:=m) (λ i hi=>hf i (by omega)) (by omega);have:=hf m (Nat.lt_succ_self m);show sm n f<=sm m f+f m;omega
theorem Ut (hW:0 < W) (hv:v < 2*(W*H+1)):v=0\/v=1\/∃x y,x < W/\y < H/\(v=inn W x y\/v=out W x y):=by
 by_cases h0:v=0
 ·exact .inl h0
 by_cases h1:v=1
 ·exact .inr (.inl h1)
 refine .inr (.inr ⟨(v / 2 - 1) % W,(v / 2 - 1) / W,Nat.mod_lt _ hW,Nat.div_lt_of_lt_mul (by omega),?_⟩);have e:=Nat.div_add_mod (v / 2 - 1) W;rw[Nat.mul_comm] at e;unfold inn out;rw[e];omega
theorem gj.le (hW:0 < W) (hH:0 < H) (S:d7 W H k T s) (P:gj W H k c T s p) (hc:∀x y,x < W->y < H->0<=c x y) (hk:k < W) (hv:v < 2*(W*H+1)):p v<=2*sm H λ y=>sm W λ x=>c x y:=by
 have e1:=P.Xi hH S hc hk;have n0:0<=p 1:=P.nn 1 (by have:=Nat.mul_pos hW hH;omega);have ad6:∀x y,x < W->y<=H->sm y (c x)<=sm H λ y=>sm W λ x=>c x y:=λ x y hx hy=>
  Int.le_trans (SX (λ j hj=>hc x j hx hj) hy) (eN λ j hj=>BL (f:=λ x=>c x j) (λ x hx=>hc x j hx hj) hx)
 rcases Ut hW hv with rfl |rfl |⟨x,y,hx,hy,rfl |rfl⟩
 ·rw[P.z];omega
 ·omega
 ·have:=(P.Xj hW hH S hc hx y hy).1;have:=ad6 x y hx (by omega);omega
 ·have:=(P.Xj hW hH S hc hx y hy).2;have:=ad6 x (y+1) hx hy;omega
theorem gj.none (hc:∀x y,x < W->y < H->0<=c x y) (hT:∀x y,T x y=false):gj W H 0 c T s (λ _=>0) where
 z:=rfl
 nn:=λ _ _=>Int.le_refl _
 ar:=λ u v w a=>by
  cases a with
  |cl hx hy t=>have:=hc _ _ hx hy;show (0:Int)<=0+_;omega
  |ue hi _=>exact absurd hi (Nat.not_lt_zero _)
  |up hi _=>exact absurd hi (Nat.not_lt_zero _)
  |bk hi _=>exact absurd hi (Nat.not_lt_zero _)
  |_=>exact Int.le_refl _
theorem d7.none (hT:∀x y,T x y=false):d7 W H 0 T s:=⟨λ _ _ h=>absurd h (Nat.not_lt_zero _),λ _ _ h=>absurd h (Nat.not_lt_zero _),λ _ _ h=>absurd h (Nat.not_lt_zero _),λ x y _ _=>⟨λ h=>(by rw[hT x y] at h;cases h),λ ⟨_,h,_⟩=>absurd h (Nat.not_lt_zero _)⟩⟩
theorem searched (hW:0 < W) (hH:0 < H) (S:d7 W H k T s) {q:Nat->Int} (Q:gj W H k c T s q) (hc:∀x y,x < W->y < H->0<=c x y) (hk:k < W) {far:Int} (ag5:3*(sm H λ y=>sm W λ x=>c x y) < far)
  (Sc:lZ (gQ W H k c T s) (2*(W*H+1)) far q p ahead) (ex:∀u v w,gQ W H k c T s u v w->p v<=p u+w):
  gj W H k c T s p/\∃(d:Nat) (G:Nat->Prop),jF ahead d 1/\G 1/\∀v,G v->v≠0->G (ahead v)/\∃w,gQ W H k c T s (ahead v) v w/\p v=p (ahead v)+w:=by
 have P:gj W H k c T s p:=⟨Sc.z,λ v hv=>Int.le_trans (Q.nn v hv) (Sc.lo v hv),ex⟩;have h1:1 < 2*(W*H+1):=by have:=Nat.mul_pos hW hH;omega
 refine⟨P,Sc.over (λ u v w a=>a.nodes S hW hH) Q.ar ex h1 λ r hr=>?_⟩;have a:=P.Xi hH S hc hk;have b:=Q.le hW hH S hc hk hr;have:=Q.nn 1 h1;omega
end
end Fl
namespace nP
open PySem PySem.Spec L2 Pu
open PyProof.Rows hiding St
abbrev gv (n:Nat):ao->R D:=λ ρ=>bL ρ n
abbrev ci (i:Int):ao->R D:=λ _=> .ok (.int i)
abbrev nA:ao->R (List D):=λ _=> .ok []
abbrev tT:ao->R Bool:=λ _=> .ok true
def CG:ao->So:=(retS (aB nq (ak (bA 1 [] (cU (gv 0)) (aF 0) tT (bin (eE (ak (ci 0) nA)) (aB bZ (ak (gv 0) nA)) qW)) nA)))
def mR:List D->R D:=cj 0 CG
def zV:ao->So:=(aO (bB (bin (ci 7) (gv 1) iC) (aF 3)) (aO (fB (bU (bin (gv 0) (nj nA) kh)) (aO (bB (bin (gv 0) (bin (gv 1) (aB bZ (ak (gv 0) nA)) fW) bF) (aF 3)) (aO (bB (bin (gv 1) (aB bZ (ak (gv 0) nA)) d9) (aF 4)) (aO (fB (ni (bU (bin (gv 3) (bin (ci 10) (ci 18) vg) Wh)) (bU (bin (gv 4) (ci 60) ltI))) (aO (bB (bin (gv 3) (bin (ci 10) (ci 18) vg) d9) (aF 5)) (aO (gH (ni (bU (bin (gv 5) (ci 0) rM)) (bU (bin (gv 4) (ci 0) rM))) (aO (bB (bin (gv 5) (ci 1000000) d9) (aF 5)) (bB (bin (gv 4) (ci 1) fV) (aF 4))) 64) (fB (bU (bin (gv 5) (ci 0) rM)) (retS (bin (bin (gv 5) (ci 1000000) fW) (gv 2) fW)) So.nx))) So.nx) (bB (bin (gv 3) (bin (ci 6553) (bin (gv 1) (aB bZ (ak (gv 0) nA)) d9) iC) fL) (aF 3))))) So.nx) (aO (bB (bin (bin (bin (bin (gv 3) (ci 2147483563) fW) (ci 69069) iC) (bin (ci 104723) (bin (gv 1) (ci 1) fL) iC) fL) (ci 2147483563) fW) (aF 3)) (aO (bB (bin (bin (bin (gv 3) (gv 3) iC) (bin (gv 3) (ci 3) d9) fL) (ci 2147483399) fW) (aF 3)) (retS (bin (bin (bin (bin (bin (gv 3) (gv 3) iC) (bin (gv 3) (ci 7) d9) fL) (ci 2147483647) fW) (ci 11) d9) (gv 2) fW))))))
def dR:List D->R D:=cj 3 zV
def wG:ao->So:=(aO (LC 4 5 (bin (nj (ak (ci 2) (ak (ci 5) (ak (ci 100) (ak (ci 10) nA))))) (aB (aQ dR 3) (ak (gv 0) (ak (gv 1) (ak (ci 4) nA)))) bF) nA) (aO (j7 (λ ρ=>((ak (gv 3) nA) ρ).bind iG) (aF 6) (pK 5 (aB nq (ak (bA 1 [1,2,4,0,6] (λ ρ=>((ak (gv 2) nA) ρ).bind iG) (aF 0) tT (aB (aQ dR 3) (ak (gv 4) (ak (bin (bin (bin (gv 1) (ci 1) fL) (bin (gv 2) (gv 5) iC) fL) (gv 0) fL) (ak (gv 3) nA))))) nA)))) (retS (aB nq (ak (gv 5) nA)))))
def jx:List D->R D:=cj 3 wG
def CJ:ao->So:=(retS (aB (aQ jx 4) (ak (gv 0) (ak (bin (gv 1) (ci 2) fL) (ak (bin (ci 1) (aB (aQ dR 3) (ak (gv 0) (ak (gv 1) (ak (gv 2) nA)))) fL) (ak (bin (ci 1) (aB (aQ dR 3) (ak (gv 0) (ak (bin (gv 1) (ci 1) fL) (ak (gv 3) nA)))) fL) nA))))))
def mU:List D->R D:=cj 0 CJ
def Xk:ao->So:=(aO (bB (bin (aB bZ (ak (gv 0) nA)) (ci 1) fV) (aF 1)) (retS (bA 1 [1,0] (λ ρ=>((ak (aB bZ (ak (gv 0) nA)) nA) ρ).bind iG) (aF 0) tT (aB zu (ak (bin (bin (gv 2) (aB maxD (ak (bin (gv 0) (ci 1) fV) (ak (ci 0) nA))) bF) (bin (gv 2) (aB minD (ak (bin (gv 0) (ci 1) cH) (ak (gv 1) nA))) bF) fV) nA)))))
def qJ:List D->R D:=cj 1 Xk
def zW:ao->So:=(aO (bB (bin (gv 0) (gv 1) bF) (aF 2)) (aO (bB (bin (gv 0) (aB maxD (ak (bin (gv 1) (ci 1) fV) (ak (ci 0) nA))) bF) (aF 3)) (aO (bB (bin (aB bZ (ak (gv 2) nA)) (ci 1) fV) (aF 4)) (aO (newL nA 5) (aO (j7 (λ ρ=>((ak (aB (aQ qJ 1) (ak (gv 2) nA)) nA) ρ).bind oH) (cZ (c7 2 (aX (aF 6) (aX (aF 7) nilG)))) (aO (bB (bin (gv 7) (aB zu (ak (bin (bin (gv 3) (gv 6) bF) (bin (gv 2) (aB maxD (ak (bin (gv 6) (ci 1) fV) (ak (ci 0) nA))) bF) fV) nA)) cH) (aF 8)) (aO (bB (bin (gv 7) (aB zu (ak (bin (bin (gv 3) (gv 6) bF) (bin (gv 2) (aB minD (ak (bin (gv 6) (ci 1) cH) (ak (gv 4) nA))) bF) fV) nA)) cH) (aF 9)) (pK 5 (eE (ak (gv 8) (ak (gv 7) (ak (gv 9) nA)))))))) (retS (gv 5)))))))
def lG:List D->R D:=cj 8 zW
def J6:ao->So:=(retS (tM (xP gY (gv 0)) (Ci (ci 1) (aB bZ (ak (gv 0) nA)) (ci 20) v9 v9)))
def jG:List D->R D:=cj 0 J6
def Gf:ao->So:=(retS (tM (xP Bs (gv 0)) (HY (xP xQ (gv 0)))))
def dX:List D->R D:=cj 0 Gf
def J7:ao->So:=(retS (tM (aB (aQ dX 1) (ak (gv 0) nA)) (Ci (ci 0) (gv 0) (ci 99) v9 v9)))
def qK:List D->R D:=cj 0 J7
def Ni:ao->So:=(retS (tM (aB (aQ jG 1) (ak (gv 0) nA)) (aB qT (ak (bA 1 [] (cU (gv 0)) (aF 0) tT (aB (aQ qK 1) (ak (gv 0) nA))) nA))))
def uw:List D->R D:=cj 0 Ni
def zX:ao->So:=(aO (fB (JH (kI (bU (aB (aQ jG 1) (ak (gv 0) nA)))) (kI (bU (aB qT (ak (bA 1 [] (cU (gv 0)) (aF 0) tT (aB (aQ uw 1) (ak (gv 0) nA))) nA))))) (retS (λ _=> .ok (.bl false))) So.nx) (retS (aB qT (ak (bA 1 [0] (cU (gv 0)) (aF 0) tT (bin (aB bZ (ak (gv 0) nA)) (aB bZ (ak (bin (gv 1) (ci 0) bF) nA)) pA)) nA))))
def lJ:List D->R D:=cj 0 zX
def wH:ao->So:=(fB (kI (bU (aB (aQ lJ 1) (ak (gv 0) nA)))) (λ _=> .bad) So.nx)
def cD:List D->R D:=cj 0 wH
def J8:ao->So:=(aO (lO (aB (aQ cD 1) (ak (gv 0) nA))) (retS (eE (ak (aB bZ (ak (bin (gv 0) (ci 0) bF) nA)) (ak (aB bZ (ak (gv 0) nA)) nA)))))
def gk:List D->R D:=cj 0 J8
def Nj:ao->So:=(aO (bB (aB (aQ gk 1) (ak (gv 0) nA)) (cZ (c7 2 (aX (aF 1) (aX (aF 2) nilG))))) (retS (aB nq (ak (bA 1 [2,0] (λ ρ=>((ak (gv 1) nA) ρ).bind iG) (aF 0) tT (aB nq (ak (bA 1 [2,0] (λ ρ=>((ak (gv 1) nA) ρ).bind iG) (aF 0) tT (bin (bin (gv 1) (gv 0) bF) (gv 2) bF)) nA))) nA))))
def ux:List D->R D:=cj 2 Nj
def Nk:ao->So:=(aO (bB (aB (aQ gk 1) (ak (gv 0) nA)) (cZ (c7 2 (aX (aF 1) (aX (aF 2) nilG))))) (aO (bB (bA 1 [] (cU (gv 0)) (aF 0) tT (aB (aQ qJ 1) (ak (gv 0) nA))) (aF 3)) (aO (bB (bA 1 [] (cU (aB (aQ ux 1) (ak (gv 0) nA))) (aF 0) tT (aB (aQ qJ 1) (ak (gv 0) nA))) (aF 4)) (retS (aB nq (ak (bA 1 [3,4,1] (λ ρ=>((ak (gv 2) nA) ρ).bind iG) (aF 0) tT (aB nq (ak (bA 1 [1,2,0] (λ ρ=>((ak (gv 3) nA) ρ).bind iG) (aF 0) tT (bin (bin (bin (gv 1) (gv 3) bF) (gv 0) bF) (bin (bin (gv 2) (gv 0) bF) (gv 3) bF) cH)) nA))) nA))))))
def jk:List D->R D:=cj 4 Nk
def S5:ao->So:=(aO (fB (bU (bin (gv 1) (λ _=> .ok (.str "worth")) pA)) (retS (bA 1 [] (cU (aB (aQ jk 1) (ak (gv 0) nA))) (aF 0) tT (bA 1 [] (cU (gv 0)) (aF 0) tT (eE (ak (gv 0) (ak (gv 0) (ak (gv 0) nA))))))) So.nx) (retS (bA 1 [0] (λ ρ=>((ak (aB bZ (ak (gv 0) nA)) nA) ρ).bind iG) (aF 0) tT (aB (aQ lG 2) (ak (gv 1) (ak (gv 0) nA))))))
def jX:List D->R D:=cj 0 S5
def yR:ao->So:=(fB (bU (bin (gv 0) (λ _=> .ok (.tup [.str "worth",.str "joins"])) (Cm true))) (λ _=> .bad) So.nx)
def fD:List D->R D:=cj 0 yR
def Nm:ao->So:=(aO (fB (JH (kI (bU (xP gY (gv 0)))) (bU (bin (aB bZ (ak (gv 0) nA)) (gv 2) kh))) (retS (λ _=> .ok (.bl false))) So.nx) (aO (fB (kI (bU (aB qT (ak (bA 1 [1] (cU (gv 0)) (aF 0) tT (tM (aB (aQ dX 1) (ak (gv 0) nA)) (Ci (ci 0) (gv 0) (gv 1) v9 ltI))) nA)))) (retS (λ _=> .ok (.bl false))) So.nx) (retS (aB qT (ak (bA 1 [0] (λ ρ=>((ak (ci 1) (ak (gv 2) nA)) ρ).bind vh) (aF 0) tT (bin (aB zu (ak (bin (bin (gv 1) (gv 0) bF) (bin (gv 1) (bin (gv 0) (ci 1) fV) bF) fV) nA)) (ci 1) v9)) nA)))))
def uz:List D->R D:=cj 0 Nm
def J9:ao->So:=(aO (bB (aB (aQ gk 1) (ak (gv 1) nA)) (cZ (c7 2 (aX (aF 2) (aX (aF 3) nilG))))) (retS (aB (aQ uz 3) (ak (gv 0) (ak (gv 2) (ak (gv 3) nA))))))
def qL:List D->R D:=cj 2 J9
def CK:ao->So:=(fB (kI (bU (aB (aQ qL 2) (ak (gv 0) (ak (gv 1) nA))))) (λ _=> .bad) So.nx)
def jY:List D->R D:=cj 0 CK
def Ka:ao->So:=(retS (bin (bin (gv 0) (gv 2) bF) (bin (bin (gv 1) (gv 2) fV) (ci 1) cH) bF))
def dN:List D->R D:=cj 0 Ka
def Gg:ao->So:=(aO (bB (aB (aQ dN 3) (ak (bin (gv 0) (ci 0) bF) (ak (bin (gv 1) (ci 0) bF) (ak (bin (gv 1) (ci 0) bF) nA)))) (aF 2)) (aO (j7 (λ ρ=>((ak (ci 1) (ak (aB bZ (ak (gv 1) nA)) nA)) ρ).bind vh) (aF 3) (Im 2 (aB (aQ dN 3) (ak (bin (gv 0) (gv 3) bF) (ak (bin (gv 1) (bin (gv 3) (ci 1) fV) bF) (ak (bin (gv 1) (gv 3) bF) nA)))))) (retS (gv 2))))
def lW:List D->R D:=cj 2 Gg
def zY:ao->So:=(aO (lO (aB (aQ cD 1) (ak (gv 0) nA))) (aO (lO (aB (aQ fD 1) (ak (gv 2) nA))) (aO (lO (aB (aQ jY 2) (ak (gv 1) (ak (gv 0) nA)))) (retS (aB (aQ lW 2) (ak (aB (aQ jX 2) (ak (gv 0) (ak (gv 2) nA))) (ak (gv 1) nA)))))))
def jH:List D->R D:=cj 0 zY
def Gh:ao->So:=(retS (bin (eE (ak (bin (eE (ak (ci 0) nA)) (aB bZ (ak (bin (gv 0) (ci 0) bF) nA)) qW) nA)) (aB bZ (ak (gv 0) nA)) qW))
def oM:List D->R D:=cj 0 Gh
def Kc:ao->So:=(retS (tM (aB (aQ dX 1) (ak (gv 0) nA)) (Ci (ci 0) (gv 0) (ci 2) v9 v9)))
def qM:List D->R D:=cj 0 Kc
def wI:ao->So:=(retS (tM (xP gY (gv 0)) (tM (bin (aB bZ (ak (gv 0) nA)) (gv 1) pA) (aB qT (ak (bA 1 [] (cU (gv 0)) (aF 0) tT (aB (aQ qM 1) (ak (gv 0) nA))) nA)))))
def jz:List D->R D:=cj 0 wI
def Gi:ao->So:=(aO (fB (JH (kI (bU (xP gY (gv 0)))) (bU (bin (aB bZ (ak (gv 0) nA)) (aB bZ (ak (gv 1) nA)) kh))) (retS (λ _=> .ok (.bl false))) So.nx) (retS (aB qT (ak (bA 1 [1] (cU (gv 0)) (aF 0) tT (aB (aQ jz 2) (ak (gv 0) (ak (aB bZ (ak (bin (gv 1) (ci 0) bF) nA)) nA)))) nA))))
def oN:List D->R D:=cj 0 Gi
def zZ:ao->So:=(aO (fB (bU (bin (gv 0) (λ _=> .ok .non) isD)) (retS (aB (aQ oM 1) (ak (gv 1) nA))) So.nx) (aO (fB (kI (bU (aB (aQ oN 2) (ak (gv 0) (ak (gv 1) nA))))) (λ _=> .bad) So.nx) (retS (gv 0))))
def gq:List D->R D:=cj 0 zZ
def Gj:ao->So:=(aO (lO (aB (aQ cD 1) (ak (gv 0) nA))) (aO (lO (aB (aQ fD 1) (ak (gv 1) nA))) (aO (bB (aB (aQ gq 2) (ak (gv 2) (ak (gv 0) nA))) (aF 3)) (retS (eE (ak (aB (aQ jX 2) (ak (gv 0) (ak (gv 1) nA))) (ak (gv 3) nA)))))))
def oO:List D->R D:=cj 1 Gj
def Xl:ao->So:=(retS (aB Uo (ak (aB maxD (ak (bin (gv 0) (ci 1) fV) (ak (ci 0) nA))) (ak (aB minD (ak (bin (gv 0) (ci 2) cH) (ak (gv 1) nA))) nA))))
def uD:List D->R D:=cj 0 Xl
def onB:ao->So:=(aO (bB (aB (aQ dN 3) (ak (gv 1) (ak (gv 2) (ak (gv 4) nA)))) (aF 5)) (xX 3 (bA 3 [5] (cU (bin (gv 0) (gv 4) bF)) (cZ (c7 3 (aX (aF 0) (aX (aF 1) (aX (aF 2) nilG))))) tT (eE (ak (gv 0) (ak (bin (gv 1) (gv 3) cH) (ak (gv 2) nA)))))))
def Np:ao->So:=(aO (newL nA 3) (aO (j7 (cU (aB (aQ uD 2) (ak (gv 2) (ak (aB bZ (ak (gv 0) nA)) nA)))) (aF 4) onB) (retS (gv 3))))
def pQ:List D->R D:=cj 3 Np
def aa2 (aG:Nat) (GG:List D->R D):ao->So:=(fB (bU (bin (gv 8) (ci 1) pA)) (bB (nj nA) (aF 9)) (fB (kI (MP (gv 4))) (bB (Bu 3 aG GG 2 (ak (gv 7) (ak (nj (ak (eE (ak (ci 0) (ak (ci 0) (ak (gv 2) nA)))) nA)) nA))) (aF 9)) (bB (Bu 3 aG GG 2 (ak (gv 7) (ak (aB (aQ pQ 3) (ak (R8 4 (Ma (ci 1))) (ak (bin (gv 0) (bin (gv 5) (ci 1) cH) bF) (ak (gv 7) nA)))) nA))) (aF 9))))
def aa3:ao->So:=(aO (bB (JK (bU (bin (gv 8) (ci 2) pA)) (ci 1) (ci 0)) (aF 10)) (pK 6 (bA 3 [10] (cU (gv 9)) (cZ (c7 3 (aX (aF 0) (aX (aF 1) (aX (aF 2) nilG))))) tT (eE (ak (bin (gv 0) (gv 3) fV) (ak (gv 1) (ak (gv 2) nA)))))))
def inW (aG:Nat) (GG:List D->R D):ao->So:=(aO (aa2 aG GG) aa3)
def aad (aG:Nat) (GG:List D->R D):ao->So:=(aO (newL nA 6) (aO (j7 (λ ρ=>((ak (bin (gv 1) (gv 5) bF) nA) ρ).bind oH) (cZ (c7 2 (aX (aF 7) (aX (aF 8) nilG)))) (inW aG GG)) (Mx 4 6)))
def Je (aG:Nat) (GG:List D->R D):ao->So:=(aO (newL nA 4) (aO (j7 (λ ρ=>((ak (aB bZ (ak (gv 1) nA)) nA) ρ).bind zK) (aF 5) (aad aG GG)) (retS (Lh (gv 4)))))
def sY (aG:Nat) (GG:List D->R D) (ds:List D):R D:=jJ 7 (Je aG GG) (ds.map .val++[.obj (.fn aG)])
def Aa:ao->So:=(retS (bA 3 [0] (cU (nJ (aB oK (ak (gv 1) nA)) (λ _=> .ok none) (λ ρ=>((gv 2) ρ).bind JQ))) (cZ (c7 3 (aX (aF 0) (aX (aF 1) (aX (aF 2) nilG))))) tT (eE (ak (gv 0) (ak (gv 1) (ak (bin (eE (ak (gv 3) nA)) (gv 2) cH) nA))))))
def dY (my:Int) (ds:List D):R D:=jJ 0 Aa (ds.map .val++[.val (.int my)])
def vB:ao->So:=(Uh 3 2 ((gv 0):ao->R D) ((gv 1):ao->R D) ((eE nA):ao->R D) sY dY)
def qy (ds:List D):R D:=jJ 1 vB (ds.map .val)
def Gk:ao->So:=(aO (newL nA 2) (aO (j7 (λ ρ=>((ak (bin (gv 1) (ci 0) bF) nA) ρ).bind oH) (cZ (c7 2 (aX (aF 3) (aX (aF 4) nilG)))) (aO (bB (aB (aQ dN 3) (ak (bin (gv 0) (ci 0) bF) (ak (gv 3) (ak (gv 3) nA)))) (aF 5)) (xX 2 (bA 3 [5] (cU (gv 4)) (cZ (c7 3 (aX (aF 0) (aX (aF 1) (aX (aF 2) nilG))))) tT (eE (ak (gv 0) (ak (bin (gv 1) (gv 3) cH) (ak (gv 2) nA)))))))) (retS (gv 2))))
def oR:List D->R D:=cj 4 Gk
def yS:ao->So:=(retS (nJ (aB oK (ak (aB (aQ oR 2) (ak (gv 0) (ak (aB (aQ qy 3) (ak (gv 0) (ak (gv 1) (ak (gv 2) nA)))) nA))) nA)) (λ _=> .ok none) (λ ρ=>((gv 2) ρ).bind JQ)))
def m7 (ds:List D):R D:=jJ 0 yS (ds.map .val)
def CN:ao->So:=(aO (bB (aB (aQ m7 3) (ak (gv 0) (ak (gv 1) (ak (ci 1) nA)))) (aF 2)) (aO (fB (kI (MP (gv 2))) (retS (λ _=> .ok .non)) So.nx) (aO (bB (bin (gv 2) (ci 0) bF) (cZ (c7 3 (aX (aF 3) (aX (aF 4) (aX (aF 5) nilG)))))) (retS (eE (ak (gv 4) (ak (gv 5) nA)))))))
def qz (ds:List D):R D:=jJ 4 CN (ds.map .val)
def Ab:ao->So:=(aO (bB (aB (aQ oO 3) (ak (gv 0) (ak (gv 1) (ak (gv 2) nA)))) (cZ (c7 2 (aX (aF 3) (aX (aF 4) nilG))))) (aO (bB (aB (aQ qz 2) (ak (gv 3) (ak (gv 4) nA))) (aF 5)) (aO (fB (bU (bin (gv 5) (λ _=> .ok .non) isD)) (retS (λ _=> .ok .non)) So.nx) (retS (bin (gv 5) (ci 1) bF)))))
def jA (ds:List D):R D:=jJ 3 Ab (ds.map .val)
def Gm:ao->So:=(aO (lO (aB (aQ cD 1) (ak (gv 0) nA))) (retS (aB nq (ak (bA 1 [] (cU (gv 0)) (aF 0) tT (T7 (gv 0))) nA))))
def lX:List D->R D:=cj 0 Gm
def CP:ao->So:=(retS (bin (ci 2) (bin (bin (bin (gv 1) (gv 2) qW) (gv 0) cH) (ci 1) cH) qW))
def f9:List D->R D:=cj 0 CP
def adI:ao->So:=(aO (bB (aB (aQ f9 3) (ak (gv 6) (ak (gv 4) (ak (gv 2) nA)))) (aF 8)) (aO (fB (kI (bU (bin (bin (gv 1) (gv 4) bF) (gv 6) bF))) (pK 3 (eE (ak (gv 8) (ak (bin (gv 8) (ci 1) cH) (ak (gv 7) nA))))) So.nx) (fB (bU (bin (bin (gv 4) (ci 1) cH) (aB bZ (ak (gv 0) nA)) ltI)) (xX 3 (bA 1 [8,2,4] (cU (aB (aQ uD 2) (ak (gv 6) (ak (gv 2) nA)))) (aF 0) tT (eE (ak (bin (gv 1) (ci 1) cH) (ak (aB (aQ f9 3) (ak (gv 0) (ak (bin (gv 3) (ci 1) cH) (ak (gv 2) nA)))) (ak (ci 0) nA)))))) (pK 3 (eE (ak (bin (gv 8) (ci 1) cH) (ak (ci 1) (ak (ci 0) nA))))))))
def adO:ao->So:=(j7 (λ ρ=>((ak (gv 5) nA) ρ).bind oH) (cZ (c7 2 (aX (aF 6) (aX (aF 7) nilG)))) adI)
def CQ:ao->So:=(aO (bB (aB bZ (ak (bin (gv 0) (ci 0) bF) nA)) (aF 2)) (aO (xY (bA 1 [2] (λ ρ=>((ak (gv 2) nA) ρ).bind iG) (aF 0) tT (eE (ak (ci 0) (ak (aB (aQ f9 3) (ak (gv 0) (ak (ci 0) (ak (gv 1) nA)))) (ak (ci 0) nA))))) 3) (aO (j7 (λ ρ=>((ak (gv 0) nA) ρ).bind oH) (cZ (c7 2 (aX (aF 4) (aX (aF 5) nilG)))) adO) (retS (gv 3)))))
def mV:List D->R D:=cj 7 CQ
def auI:ao->So:=(aO (bB (aB (aQ f9 3) (ak (bin (gv 3) (gv 5) bF) (ak (gv 5) (ak (aB bZ (ak (bin (gv 0) (ci 0) bF) nA)) nA)))) (aF 6)) (aO (xX 2 (nj (ak (eE (ak (gv 4) (ak (bin (gv 6) (ci 1) cH) (ak (ci 0) nA)))) (ak (eE (ak (bin (gv 6) (ci 1) cH) (ak (gv 6) (ak (Ma (bin (bin (gv 0) (gv 5) bF) (bin (gv 3) (gv 5) bF) bF)) nA)))) nA)))) (bB (gv 6) (aF 4))))
def auO:ao->So:=(aO (bB (ci 1) (aF 4)) (j7 (λ ρ=>((ak (aB bZ (ak (gv 3) nA)) nA) ρ).bind zK) (aF 5) auI))
def Kd:ao->So:=(aO (newL nA 2) (aO (j7 (cU (gv 1)) (aF 3) auO) (retS (gv 2))))
def qN:List D->R D:=cj 5 Kd
def caI:ao->So:=(M8 (bU (bin (bin (gv 4) (ci 2) d9) (bin (gv 3) (ci 2) d9) pA)) (aO (xZ (bin (bin (gv 3) (ci 2) d9) (ci 1) fV) 5) (aO (M7 6 7 (bin (gv 5) (gv 2) d9) (bin (gv 5) (gv 2) fW)) (Gb 6 7 (HY (bin (bin (gv 0) (gv 6) bF) (gv 7) bF))))) So.nx)
def Xm:ao->So:=(aO (xZ (bin (gv 1) (gv 3) bF) 4) (aO caI (xZ (gv 4) 3)))
def d8:ao->So:=(aO (xZ (aB bZ (ak (bin (gv 0) (ci 0) bF) nA)) 2) (aO (xZ (ci 1) 3) (Cv (bU (bin (gv 3) (ci 0) kh)) Xm 1000)))
def u6:ao->So:=(aO (bB (bA 1 [] (cU (gv 0)) (aF 0) tT (bA 2 [] (λ ρ=>((ak (gv 0) nA) ρ).bind oH) (cZ (c7 2 (aX (aF 0) (aX (aF 1) nilG)))) (bU (gv 1)) (gv 0))) (aF 2)) (retS (bA 1 [2] (λ ρ=>((ak (gv 1) nA) ρ).bind iG) (aF 0) tT (aB nq (ak (bA 1 [0] (cU (gv 1)) (aF 0) tT (bin (gv 0) (gv 1) bF)) nA)))))
def jc:List D->R D:=cj 1 u6
def seB:ao->So:=(fB (bU (bin (bin (bin (gv 2) (gv 5) bF) (gv 7) cH) (bin (gv 2) (gv 6) bF) ltI)) (aO (Iv 2 (gv 6) (bin (R8 2 (gv 5)) (gv 7) cH)) (aO (Iv 3 (gv 6) (gv 5)) (bB (λ _=> .ok (.bl true)) (aF 4)))) So.nx)
def Ke:ao->So:=(aO (bB (λ _=> .ok (.bl false)) (aF 4)) (j7 (cU (gv 0)) (cZ (c7 3 (aX (aF 5) (aX (aF 6) (aX (aF 7) nilG))))) seB))
def Gn:ao->So:=(aO (xY (bin (nj (ak (ci 0) nA)) (bin (nj (ak (ci 1000000) nA)) (bin (gv 1) (ci 1) fV) mulL) Z0) 2) (aO (xY (bin (nj (ak (ci 0) nA)) (gv 1) Z1) 3) (aO (bB (λ _=> .ok (.bl true)) (aF 4)) (aO (gH (bU (gv 4)) Ke 1000000000) (retS (eE (ak (gv 2) (ak (gv 3) nA))))))))
def oU:List D->R D:=cj 6 Gn
def Uu:ao->So:=(aO (bB (bA 1 [0] (λ ρ=>((ak (gv 2) nA) ρ).bind iG) (aF 0) tT (bA 1 [0] (cU (gv 1)) (aF 0) tT (bin (gv 0) (gv 1) bF))) (aF 3)) (retS (bA 1 [1] (cU (gv 3)) (aF 0) tT (bA 1 [0] (λ ρ=>((ak (gv 1) nA) ρ).bind iG) (aF 0) tT (bin (gv 0) (gv 1) (Cm false))))))
def oV:List D->R D:=cj 1 Uu
def flB:ao->So:=(Ge 6 7 5 8 4 (ak (gv 4) (ak (gv 2) (ak (gv 3) nA))) 3 oV (bin (aB (aQ mV 2) (ak (gv 0) (ak (gv 6) nA))) (aB (aQ qN 2) (ak (gv 0) (ak (gv 4) nA))) cH) (aB (aQ oU 2) (ak (gv 7) (ak (bin (ci 2) (bin (bin (gv 2) (gv 3) qW) (ci 1) cH) qW) nA))) d8 6 (aB (aQ jc 2) (ak (gv 6) (ak (bin (aB bZ (ak (gv 4) nA)) (ci 1) cH) nA))))
def Xn:ao->So:=(aO (Lz 2 3 (aB bZ (ak (bin (gv 0) (ci 0) bF) nA)) (aB bZ (ak (gv 0) nA))) (aO (bB (nj nA) (aF 4)) (aO (bB (nj nA) (aF 5)) (aO (gH (bU (bin (aB bZ (ak (gv 4) nA)) (gv 1) ltI)) flB 64) (retS (eE (ak (gv 4) (ak (gv 5) nA))))))))
def wJ:List D->R D:=cj 7 Xn
def CV:ao->So:=(aO (lO (aB (aQ cD 1) (ak (gv 0) nA))) (fB (JH (kI (bU (aB (aQ dX 1) (ak (gv 1) nA)))) (kI (bU (Ci (ci 1) (gv 1) (ci 6) v9 v9)))) (λ _=> .bad) So.nx))
def mW:List D->R D:=cj 0 CV
def Gp:ao->So:=(aO (lO (aB (aQ mW 2) (ak (gv 0) (ak (gv 1) nA)))) (aO (fB (bU (bin (gv 1) (aB bZ (ak (bin (gv 0) (ci 0) bF) nA)) rM)) (retS (λ _=> .ok .non)) So.nx) (retS (bin (aB (aQ wJ 2) (ak (aB (aQ jk 1) (ak (gv 0) nA)) (ak (gv 1) nA))) (ci 0) bF))))
def gR:List D->R D:=cj 0 Gp
def lcB:ao->So:=(aO (bB (aB (aQ gR 2) (ak (gv 1) (ak (gv 5) nA))) (aF 6)) (aO (pK 4 (aB pL (ak (bA 1 [1] (cU (gv 6)) (aF 0) tT (lV jH 3 0 [.inr (.str "worth")] (ak (gv 1) (ak (gv 0) nA)) nA)) nA))) (fB (bU (bin (aB pL (ak (bA 1 [1] (cU (aB (aQ gR 2) (ak (aB (aQ lX 1) (ak (gv 1) nA)) (ak (gv 5) nA)))) (aF 0) tT (lV jH 3 0 [.inr (.str "worth")] (ak (aB (aQ lX 1) (ak (gv 1) nA)) (ak (gv 0) nA)) nA)) nA)) (bin (gv 4) (Ma (ci 1)) bF) kh)) (retS (λ _=> .ok (.bl false))) So.nx)))
def gdB:ao->So:=(aO (bB (lV jA 3 1 [.inr (.str "worth"),.inl 0] (ak (gv 1) nA) (ak (gv 10) nA)) (aF 11)) (aO (fB (bU (bin (gv 11) (λ _=> .ok .non) isD)) (retS (λ _=> .ok (.bl true))) So.nx) (aO (bB (bin (gv 9) (lV jH 3 0 [.inr (.str "worth")] (ak (gv 1) (ak (gv 11) nA)) nA) cH) (aF 9)) (aO (bB (aB nq (ak (bA 2 [] (λ ρ=>((ak (gv 10) (ak (gv 11) nA)) ρ).bind zip2) (cZ (c7 2 (aX (aF 0) (aX (aF 1) nilG)))) tT (bin (bin (oE (gv 0) (λ _=> .ok none) (λ ρ=>((gv 1) ρ).bind JQ)) (eE (ak (ci 1) nA)) cH) (oE (gv 0) (λ ρ=>((bin (gv 1) (ci 1) cH) ρ).bind JQ) (λ _=> .ok none)) cH)) nA)) (aF 10)) (fB (bU (bin (bin (gv 4) (gv 5) bF) (gv 9) rM)) (retS (λ _=> .ok (.bl false))) So.nx)))))
def aa4:ao->So:=(aO (bB (aB (aQ mU 4) (ak (gv 0) (ak (ci 0) (ak (ci 5) (ak (ci 4) nA))))) (aF 1)) (aO (bB (aB (aQ gk 1) (ak (gv 1) nA)) (cZ (c7 2 (aX (aF 2) (aX (aF 3) nilG))))) (aO (newL (ak (ci 0) nA) 4) (aO (j7 (λ ρ=>((ak (ci 1) (ak (bin (aB minD (ak (ci 4) (ak (gv 2) nA))) (ci 1) cH) nA)) ρ).bind vh) (aF 5) lcB) (Z9 (aO (bB (bA 2 [] (λ ρ=>((ak (gv 4) (ak (nJ (gv 4) (λ ρ=>(((ci 1):ao->R D) ρ).bind JQ) (λ _=> .ok none)) nA)) ρ).bind zip2) (cZ (c7 2 (aX (aF 0) (aX (aF 1) nilG)))) tT (bin (gv 1) (gv 0) fV)) (aF 7)) (aO (fB (JH (bU (bin (bin (gv 7) (ci 0) bF) (lV jH 3 0 [.inr (.str "worth")] (ak (gv 1) (ak (lV jA 3 0 [.inr (.str "worth"),.inr .non] (ak (gv 1) nA) nA) nA)) nA) kh)) (bU (bin (gv 7) (aB Fx (ak (gv 7) nA)) kh))) (retS (λ _=> .ok (.bl false))) So.nx) (aO (fB (ni (bU (bin (gv 2) (ci 5) ltI)) (bU (bin (bin (gv 4) (gv 2) bF) (aB pL (ak (bA 1 [] (cU (aB (aQ jk 1) (ak (gv 1) nA))) (aF 0) tT (aB pL (ak (gv 0) nA))) nA)) kh))) (retS (λ _=> .ok (.bl false))) So.nx) (aO (Nb 8 9 10 (nj nA) (ci 0) (aB (aQ mR 1) (ak (gv 1) nA))) (aO (j7 (λ ρ=>((ak (ci 1) (ak (bin (aB minD (ak (ci 4) (ak (gv 2) nA))) (ci 1) cH) nA)) ρ).bind vh) (aF 5) gdB) (retS (JK (bU (bin (gv 2) (ci 6) ltI)) (bin (aB (aQ gR 2) (ak (gv 1) (ak (bin (gv 2) (ci 1) cH) nA))) (λ _=> .ok .non) isD) (λ _=> .ok (.bl true))))))))))))))
def Gq (ds:List D):R D:=jJ 11 aa4 (ds.map .val)
end nP
namespace nP
open PySem PySem.Spec L2 Pu
variable {i j m:Int} {ds acc:List D} {x y k:Nat} {s:Nat->Nat} {e1 e9 e5 e10:Option Ent} {fa:ao->R (List D)} {u:ao->R D} {α:Type} {a b:Wy}
def row (w:Nat) (f:Nat->Int):D:= .tup ((List.range w).map λ x=> .int (f x))
def bD (w h:Nat) (f:Nat->Nat->Int):D:= .tup ((List.range h).map λ y=>row w (f y))
structure Ok (w h:Nat) (f:Nat->Nat->Int):Prop where
 w1:1<=w
 w2:w<=20
 h1:1<=h
 h2:h<=20
 c:∀y < h,∀x < w,0<=f y x/\f y x<=99
theorem u9 (h:i<=j):v9 (.int i) (.int j)= .ok (.bl true):=by
 show R.ok (D.bl (decide (i<=j)))=_;rw[decide_eq_true h]
theorem Gs (h1:1<=ds.length) (h2:ds.length<=20):jG [.tup ds]= .ok (.bl true):=
 cC (bJ (ud rfl (zp rfl (aV (aA rfl) rfl) (u9 (by omega)) rfl (u9 (by omega)))))
theorem vC:dX [.int i]= .ok (.bl true):=rfl
theorem Uv (h0:0<=i) (h1:i<=99):qK [.int i]= .ok (.bl true):=by
 exact cC (bJ (ud (aW (aA rfl) vC) (zp rfl rfl (u9 h0) rfl (u9 h1))))
theorem Xo {w:Nat} {f:Nat->Int} (h1:1<=w) (h2:w<=20) (hc:∀x < w,0<=f x/\f x<=99):uw [row w f]= .ok (.bl true):=by
 refine cC (bJ (ud (aW (aA rfl) (Gs (by simpa using h1) (by simpa using h2))) (aV (aA (bN (c:=λ x=> .int (f x)) (h:=λ _=> .bl true) (l:=List.range w) (iz rfl) (by rw[z2d];omega) λ x hx=>?_)) sS)));obtain⟨a,b⟩:=hc x (z2e hx);exact cu rfl (aW (aA rfl) (Uv a b))
section
variable {w h:Nat} {f:Nat->Nat->Int}
theorem KH (o:Ok w h f):lJ [bD w h f]= .ok (.bl true):=by
 have e1:jG [bD w h f]= .ok (.bl true):=Gs (by simpa using o.h1) (by simpa using o.h2);refine cC (aK (cL (zq (iK (bf (aW (aA rfl) e1))) (iK (bf (aV (aA (bN (c:=λ y=>row w (f y)) (h:=λ _=> .bl true) (l:=List.range h) (iz rfl) (by rw[z2d];have:=o.h2;omega) λ y hy=>?_)) sS)))) rfl) (bJ (aV (aA (bN (c:=λ y=>row w (f y)) (h:=λ _=> .bl true) (l:=List.range h) (iz rfl) (by rw[z2d];have:=o.h2;omega) λ y hy=>?_)) sS)))
 ·exact cu rfl (aW (aA rfl) (Xo o.w1 o.w2 (o.c y (z2e hy))))
 ·refine cu rfl (au (aV (aA rfl) rfl) (aV (aA (au rfl rfl (oA (i:=0) (d:=row w (f 0)) ?_))) rfl) (Zn ?_ ?_))
  ·rw[z2b,List.getElem?_range o.h1];rfl
  ·simp
  ·simp[dep]
theorem wK (o:Ok w h f):cD [bD w h f]= .ok .non:=Fi (cL (iK (bf (aW (aA rfl) (KH o)))) rfl)
theorem size_eq (o:Ok w h f):gk [bD w h f]= .ok (.tup [.int w,.int h]):=by
 refine cC (aK (jV (aW (aA rfl) (wK o))) (bJ (dh (aD (aV (aA (au rfl rfl (oA (i:=0) (d:=row w (f 0)) ?_))) ?_) (aA (aV (aA rfl) ?_))))))
 ·rw[z2b,List.getElem?_range o.h1];rfl
 ·simp[row,bZ]
 ·simp[bD,bZ]
theorem Xp (o:Ok w h f):ux [bD w h f]= .ok (bD h w λ y x=>f x y):=by
 refine cC (aK (aZ (aW (aA rfl) (size_eq o)) rfl) (bJ (aV (aA (bN (c:=λ (x:Nat)=> .int (x:Int)) (h:=λ x=>row h λ y=>f y x) (l:=List.range w) (jT (aA rfl) (by have:=o.w2;omega)) (by rw[z2d];have:=o.w2;omega) λ x hx=>?_)) rfl)));refine cu rfl (aV (aA (bN (c:=λ (y:Nat)=> .int (y:Int)) (h:=λ y=> .int (f y x)) (l:=List.range h) (jT (aA rfl) (by have:=o.h2;omega)) (by rw[z2d];have:=o.h2;omega) λ y hy=>?_)) rfl);refine cu rfl (au (au rfl rfl (oA (i:=y) (d:=row w (f y)) ?_)) rfl (oA (i:=x) ?_))
 ·rw[z2b,List.getElem?_range (z2e hy)];rfl
 ·rw[z2b,List.getElem?_range (z2e hx)];rfl
theorem Kf {n:Nat} {g:Nat->α}:((List.range n).map g).reverse=(List.range n).map λ i=>g (n - 1 - i):=by
 refine List.ext_getElem (by simp) λ i h1 h2=>?_;simp
theorem CW (o:Ok w h f):lX [bD w h f]= .ok (bD w h λ y x=>f y (w - 1 - x)):=by
 refine cC (aK (jV (aW (aA rfl) (wK o))) (bJ (aV (aA (bN (c:=λ y=>row w (f y)) (h:=λ y=>row w λ x=>f y (w - 1 - x)) (l:=List.range h) (iz rfl) (by rw[z2d];have:=o.h2;omega) λ y hy=>?_)) rfl)));refine cu rfl ((ady rfl).trans ?_);rw[Kf];rfl
end
def aae:ao->So:=(pK 5 (aB nq (ak (bA 1 [1,2,4,0,6] (λ ρ=>((ak (gv 2) nA) ρ).bind iG) (aF 0) tT (aB (aQ dR 3) (ak (gv 4) (ak (bin (bin (bin (gv 1) (ci 1) fL) (bin (gv 2) (gv 5) iC) fL) (gv 0) fL) (ak (gv 3) nA))))) nA)))
section
variable {ns:List Int} {a m:Int} {w h:Nat}
def vA (d:D):Option Ent:=some (.val d)
theorem ad7 (hns:ns.length<=1000000) (ha:0<=a) (hm:0 < m) (hw:w<=20) {tl:Option Ent} (hl:acc.length < 1000000):
  aae [vA (.lst (ns.map .int)),vA (.int a),vA (.int (w:Int)),tl,vA (.int m),some (.lst acc),vA (.int (y:Int))] =
   .nx [vA (.lst (ns.map .int)),vA (.int a),vA (.int (w:Int)),tl,vA (.int m),some (.lst (acc++[row w λ x=>dr ns (a+1+(w:Int)*(y:Int)+(x:Int)) m])),vA (.int (y:Int))]:=by
 have e:aB nq (ak (bA 1 [1,2,4,0,6] (λ ρ=>((ak (gv 2) nA) ρ).bind iG) (aF 0) tT (aB (aQ dR 3) (ak (gv 4) (ak (bin (bin (bin (gv 1) (ci 1) fL) (bin (gv 2) (gv 5) iC) fL) (gv 0) fL) (ak (gv 3) nA))))) nA)
   [vA (.lst (ns.map .int)),vA (.int a),vA (.int (w:Int)),tl,vA (.int m),some (.lst acc),vA (.int (y:Int))]= .ok (row w λ x=>dr ns (a+1+(w:Int)*(y:Int)+(x:Int)) m):=by
  refine aV (aA (bN (c:=λ (x:Nat)=>D.int (x:Int)) (h:=λ (x:Nat)=>D.int (dr ns (a+1+(w:Int)*(y:Int)+(x:Int)) m)) (l:=List.range w) (jT (aA rfl) (by omega)) (by rw[z2d];omega) λ x hx=>?_)) rfl;refine cu rfl (aW (aD rfl (aD (au (au (au rfl rfl rfl) (au rfl rfl (mL (.inl ⟨by omega,by omega⟩))) rfl) rfl rfl) (aA rfl))) ?_);have hp:(0:Int)<=(w:Int)*(y:Int):=Int.mul_nonneg (by omega) (by omega);exact (Fq hns (by omega) hm).1
 unfold aae pK;rw[e];show (if acc.length < 1000000 then So.nx _ else .bad)=_;rw[if_pos hl];rfl
theorem Nq (hns:ns.length<=1000000) (ha:0<=a) (hm:0 < m) (hw:w<=20) {tl:Option Ent}:∀{ys:List Nat} {acc:List D} {x:Option Ent},acc.length+ys.length<=1000000->
  ∃ x',forL (aF 6) aae (ys.map λ (y:Nat)=>D.int (y:Int)) [vA (.lst (ns.map .int)),vA (.int a),vA (.int (w:Int)),tl,vA (.int m),some (.lst acc),x] =
   .nx [vA (.lst (ns.map .int)),vA (.int a),vA (.int (w:Int)),tl,vA (.int m),some (.lst (acc++ys.map λ (y:Nat)=>row w λ x=>dr ns (a+1+(w:Int)*(y:Int)+(x:Int)) m)),x']
 |[],acc,x,_=>⟨x,by rw[List.map_nil,List.map_nil,List.append_nil];rfl⟩
 | y::ys,acc,x,hl=>by
  rw[List.length_cons] at hl;obtain⟨x',e⟩:=Nq hns ha hm hw (tl:=tl) (ys:=ys) (acc:=acc++[row w λ x=>dr ns (a+1+(w:Int)*(y:Int)+(x:Int)) m]) (x:=vA (.int (y:Int))) (by rw[z1d];simp only[List.length_cons,List.length_nil];omega);refine⟨x',?_⟩;rw[List.append_assoc] at e;rw[z1h,z1h];exact cX rfl (ad7 hns ha hm hw (by omega)) e
theorem Uw (hns:ns.length<=1000000) (ha:0<=a) (hw:w<=20) (hw1:1<=w) (hh:h<=20) (hh1:1<=h):∃f,jx [.lst (ns.map .int),.int a,.int (w:Int),.int (h:Int)]= .ok (bD w h f)/\Ok w h f:=by
 obtain⟨e1,h0,h4⟩:=Fq (k:=a) (m:=4) hns ha (by omega);obtain⟨d,hd,ed⟩:=RJ (xs:=[D.int 2,.int 5,.int 100,.int 10]) h0 h4;have hm:∃m,d= .int m/\0 < m/\m<=100:=by
  simp only[List.mem_cons,List.not_mem_nil,or_false] at hd;rcases hd with rfl |rfl |rfl |rfl
  ·exact⟨_,rfl,by omega,by omega⟩
  ·exact⟨_,rfl,by omega,by omega⟩
  ·exact⟨_,rfl,by omega,by omega⟩
  ·exact⟨_,rfl,by omega,by omega⟩
 obtain⟨m,rfl,hm0,hm1⟩:=hm;obtain⟨x',er⟩:=Nq hns ha hm0 hw (tl:=vA (.int (h:Int))) (ys:=List.range h) (acc:=[]) (x:=none) (by rw[z2d,List.length_nil];omega);refine⟨λ y x=>dr ns (a+1+(w:Int)*(y:Int)+(x:Int)) m,cC (aK (ρ':=[vA (.lst (ns.map .int)),vA (.int a),vA (.int (w:Int)),vA (.int (h:Int)),vA (.int m),some (.lst []),none]) ?_ (aK (iM (jT (m:=h) (aA rfl) (by omega)) er) (bJ (aV (aA (x:= .lst ((List.range h).map λ (y:Nat)=>row w λ x=>dr ns (a+1+(w:Int)*(y:Int)+(x:Int)) m)) rfl) rfl)))),hw1,hw,hh1,hh,λ y hy x hx=>?_⟩
 ·exact abw (au (x:= .lst [D.int 2,.int 5,.int 100,.int 10]) (y:= .int (dr ns a 4)) (jw rfl) (aW (aD rfl (aD rfl (aA rfl))) e1) (Fo ed)) rfl
 ·have hp:(0:Int)<=(w:Int)*(y:Int):=Int.mul_nonneg (by omega) (by omega);have:=(Fq (k:=a+1+(w:Int)*(y:Int)+(x:Int)) (m:=m) hns (by omega) hm0).2;show 0<=dr _ _ _/\dr _ _ _<=99;omega
end
section
variable {w h:Nat} {f g:Nat->Nat->Int}
theorem Eb {β:Type} {p q:α->β} {l:List α} (e:∀a∈l,p a=q a):l.map p=l.map q:=List.map_congr_left e
theorem Ok.mirror (o:Ok w h f):Ok w h (λ y x=>f y (w - 1 - x)):=⟨o.w1,o.w2,o.h1,o.h2,λ y hy x hx=>o.c y hy _ (by omega)⟩
end
structure mq (w h:Nat) (s:Nat->Nat):Prop where
 lt:∀y < h,s y < w
 st:∀y,y+1 < h->s (y+1)<=s y+1/\s y<=s (y+1)+1
abbrev sm (h:Nat) (s:Nat->Nat):D:=row h λ y=>((s y:Nat):Int)
section
variable {ρ:ao} {fa:ao->R (List D)} {α:Type} {l:List α} {p q r:α->D} {x y z:D}
theorem Jf {m:Nat} (e:fa ρ= .ok [.int 1,.int (m:Int)]) (h:m < 2 ^ 62):(λ ρ=>(fa ρ).bind vh) ρ= .ok ((List.range (m - 1)).map λ (i:Nat)=>D.int ((i+1:Nat):Int)):=by
 show (fa ρ).bind vh=_;rw[e,R.bC,vh,if_pos ⟨by omega,by omega,by omega,by omega⟩];unfold upto;rw[show ((m:Int) - 1).toNat=m - 1 by omega];refine congrArg R.ok (Eb λ i _=>?_);rw[show (1:Int)+(i:Int)=((i+1:Nat):Int) by omega]
theorem ab9 (e:fa ρ= .ok [x,y]) (h1:jP x= .ok (l.map p)) (h2:jP y= .ok (l.map q)):(λ ρ=>(fa ρ).bind zip2) ρ= .ok (l.map λ a=> .tup [p a,q a]):=by
 show (fa ρ).bind zip2=_;rw[e,R.bC,zip2,h1,R.bC,h2,R.bC,xU,List.zip_map',List.map_map];rfl
theorem Ux (h:i < j):ltI (.int i) (.int j)= .ok (.bl true):=by
 show R.ok (D.bl (decide (i < j)))=_;rw[decide_eq_true h]
theorem wL (h:i=j):kh (.int i) (.int j)= .ok (.bl false):=uc (by rw[h]) (by simp[dep])
theorem acd:pA (.int i) (.int j)= .ok (.bl (decide (i=j))):=by
 rw[pA,if_pos (by simp[dep])];show R.ok (D.bl (fY (.int i) (.int j)))=_;by_cases h:i=j <;> simp[mD,mF,mH,mJ,mK,iJ,eG,h]
theorem Xq {n d:Nat}:HT.sIx n d (some (k:Int))=min k n:=by
 show (if (k:Int) < 0 then ((k:Int)+(n:Int)).toNat else min (k:Int).toNat n)=min k n;rw[if_neg (by omega),Int.toNat_natCast]
theorem Gu {n d:Nat}:HT.sIx n d none=d:=rfl
theorem ace {n:Nat} (h:n<=ds.length):j9 ds none (some (n:Int))=ds.take n:=by
 rw[j9,Xq,Gu,Nat.min_eq_left h,Nat.sub_zero];rfl
theorem Kg {n:Nat} (h:n<=ds.length):j9 ds (some (n:Int)) none=ds.drop n:=by
 rw[j9,Xq,Gu,Nat.min_eq_left h,List.take_of_length_le (by rw[List.length_drop];exact z0g _)]
theorem acf {f:ao->R D} {fu:ao->R (Option Int)} {n:Nat} (e1:f ρ= .ok (.tup ds)) (e2:fu ρ= .ok (some (n:Int))) (h:n<=ds.length):oE f (λ _=> .ok none) fu ρ= .ok (.tup (ds.take n)):=by
 rw[oE,e1,R.bC,R.bC,e2,R.bC,Mg,ace h]
theorem Xr {f:ao->R D} {fl:ao->R (Option Int)} {n:Nat} (e1:f ρ= .ok (.tup ds)) (e2:fl ρ= .ok (some (n:Int))) (h:n<=ds.length):oE f fl (λ _=> .ok none) ρ= .ok (.tup (ds.drop n)):=by
 rw[oE,e1,R.bC,e2,R.bC,R.bC,Mg,Kg h]
theorem Jg {xs ys:List D} (h:xs.length+ys.length<=1000000):cH (.tup xs) (.tup ys)= .ok (.tup (xs++ys)):=by
 rw[cH,if_pos h]
theorem acg {xs ys:List D} (h:xs.length+ys.length<=1000000):cH (.lst xs) (.lst ys)= .ok (.lst (xs++ys)):=by
 rw[cH,if_pos h]
end
section
variable {w h:Nat} {g:Nat->Int} {n:Nat} {c:Int}
end
section
variable {w h:Nat} {f:Nat->Nat->Int} {s:Nat->Nat}
theorem Xu (q:mq w h s) (dU:h<=20):uz [sm h s,.int (w:Int),.int (h:Int)]= .ok (.bl true):=by
 refine cC (aK (cL (zq (iK (bf (b:=true) rfl)) (bf (au (aV (aA rfl) rfl) rfl (wL ?_)))) rfl)
  (aK (cL (iK (bf (aV (aA (bN (c:=λ y=> .int ((s y:Nat):Int)) (h:=λ _=> .bl true) (l:=List.range h) (iz rfl) (by rw[z2d];omega) λ y hy=>?_)) sS))) rfl)
  (bJ (aV (aA (bN (c:=λ y=> .int ((y+1:Nat):Int)) (h:=λ _=> .bl true) (l:=List.range (h - 1)) (Jf (aD rfl (aA rfl)) (by omega)) (by rw[z2d];omega) λ y hy=>?_)) sS))))
 ·simp
 ·have:=q.lt y (z2e hy);exact cu rfl (ud (aW (aA rfl) vC) (zp rfl rfl (u9 (by omega)) rfl (Ux (by omega))))
 ·have hy:y < h - 1:=z2e hy;obtain⟨h1,h2⟩:=q.st y (by omega);refine cu rfl (au (aV (aA (au (x:= .int ((s (y+1):Nat):Int)) (y:= .int ((s y:Nat):Int)) (au rfl rfl (oA (i:=y+1) ?_)) (au rfl (au (x:= .int ((y+1:Nat):Int)) (y:= .int 1) rfl rfl ?_) (oA (i:=y) ?_)) rfl)) rfl) rfl (u9 ?_))
  ·rw[z2b,List.getElem?_range (by omega)];rfl
  ·show R.ok (D.int (((y+1:Nat):Int) - 1))=_;rw[show ((y+1:Nat):Int) - 1=(y:Int) by omega]
  ·rw[z2b,List.getElem?_range (by omega)];rfl
  ·split <;> omega
theorem Uy (o:Ok w h f) (q:mq w h s):qL [sm h s,bD w h f]= .ok (.bl true):=
 cC (aK (aZ (aW (aA rfl) (size_eq o)) rfl) (bJ (aW (aD rfl (aD rfl (aA rfl))) (Xu q o.h2))))
theorem Nr (o:Ok w h f) (q:mq w h s):jY [sm h s,bD w h f]= .ok .non:=
 Fi (cL (iK (bf (aW (aD rfl (aA rfl)) (Uy o q)))) rfl)
theorem len0 (o:Ok w h f) {ρ:ao} (e:u ρ= .ok (bD w h f)):aB bZ (ak (bin u (ci 0) bF) nA) ρ= .ok (.int (w:Int)):=by
 refine aV (aA (au e rfl (oA (i:=0) (d:=row w (f 0)) ?_))) ?_
 ·rw[z2b,List.getElem?_range o.h1];rfl
 ·simp[row,bZ]
def less (s:Nat->Nat) (f:Nat->Nat->Int):Nat->Nat->Int:=λ y x=>if x < s y then f y x else f y (x+1)
def more (s:Nat->Nat) (c:Nat->Int) (f:Nat->Nat->Int):Nat->Nat->Int:=λ y x=>if x < s y then f y x else if x=s y then c y else f y (x - 1)
end
theorem pR {ρ:ao} {i:Nat} (e:fa ρ= .ok ds) (h:ds.length<=1000000:=by exact Nat.le_of_ble_eq_true rfl):newL fa i ρ= .nx (ρ.set i (some (.lst ds))):=by
 unfold newL;rw[e];show (if _ then _ else _)=_;rw[if_pos h]
section
variable {ns:List Int} {a:Int} {w h:Nat} {t:Option Ent}
end
section
variable {w h:Nat} {f:Nat->Nat->Int}
end
section
variable {w h:Nat} {f:Nat->Nat->Int} {s:Nat->Nat} {c:Nat->Int}
end
def ab (i:Int):Int:=if i < 0 then -i else i
theorem ad8:ab (i - j)=ab (j - i):=by unfold ab;split <;> split <;> omega
def gap (n:Nat) (g:Nat->Int) (x:Nat):Int:=ab (g (x - 1) - g (min (x+1) (n - 1)))
def bQ (w h:Nat) (f:Nat->Nat->Int) (y x:Nat):Int:=gap w (f y) x+gap h (λ y=>f y x) y
section
variable {n w h:Nat} {g:Nat->Int} {f:Nat->Nat->Int} {s:Nat->Nat} {ρ:ao}
theorem nQ:bZ [row n g]= .ok (.int (n:Int)):=by simp[row,bZ]
theorem pU:bZ [bD w h f]= .ok (.int (h:Int)):=by simp[bD,bZ]
theorem aaf {n:Nat} (h1:1<=n):fV (.int (n:Int)) (.int 1)= .ok (.int ((n - 1:Nat):Int)):=by
 show R.ok (D.int ((n:Int) - 1))=_;rw[show (n:Int) - 1=((n - 1:Nat):Int) by omega]
theorem Uz:maxD [.int ((x:Int) - 1),.int 0]= .ok (.int ((x - 1:Nat):Int)):=by
 show R.ok (D.int (if (0:Int) > (x:Int) - 1 then 0 else (x:Int) - 1))=_;congr 2;split <;> omega
theorem min1 {n:Nat}:minD [.int ((x+1:Nat):Int),.int (n:Int)]= .ok (.int ((min (x+1) n:Nat):Int)):=by
 show R.ok (D.int (if (n:Int) < ((x+1:Nat):Int) then (n:Int) else ((x+1:Nat):Int)))=_;congr 2;split <;> omega
theorem jd (hx:x < n):bF (row n g) (.int (x:Int))= .ok (.int (g x)):=by
 refine oA (i:=x) ?_;rw[z2b,List.getElem?_range hx];rfl
theorem Ad (hy:y < h):bF (bD w h f) (.int (y:Int))= .ok (row w (f y)):=by
 refine oA (i:=y) ?_;rw[z2b,List.getElem?_range hy];rfl
theorem gA {α:Type} {p:Nat->D} (hx:x < n):bF (.lst ((List.range n).map p)) (.int (x:Int))= .ok (p x):=by
 refine LQ (i:=x) ?_;rw[z2b,List.getElem?_range hx];rfl
theorem Jh (h1:1<=n) (dU:n<=20):qJ [row n g]= .ok (.lst ((List.range n).map λ x=> .int (gap n g x))):=by
 refine cC (aK (aZ (au (aV (aA rfl) nQ) rfl (aaf h1)) rfl) (bJ (bN (c:=λ (x:Nat)=>D.int (x:Int)) (h:=λ x=> .int (gap n g x)) (l:=List.range n) (jT (aA (aV (aA rfl) nQ)) (by omega)) (by rw[z2d];omega) λ x hx=>?_)));have hx:=z2e hx;exact cu rfl (aV (aA (au (x:= .int (g (x - 1))) (y:= .int (g (min (x+1) (n - 1)))) (au rfl (aV (aD (au rfl rfl rfl) (aA rfl)) Uz) (jd (by omega))) (au rfl (aV (aD (x:= .int ((x+1:Nat):Int)) (au rfl rfl rfl) (aA rfl)) min1) (jd (by omega))) rfl)) rfl)
theorem Ae (o:Ok w h f):jk [bD w h f]= .ok (bD w h (bQ w h f)):=by
 have dU:=o.h2;have w20:=o.w2;refine cC (aK (aZ (aW (aA rfl) (size_eq o)) rfl)
  (aK (aZ (bN (c:=λ y=>row w (f y)) (h:=λ y=> .lst ((List.range w).map λ x=> .int (gap w (f y) x))) (l:=List.range h) (iz rfl) (by rw[z2d];omega) λ y hy=>cu rfl (aW (aA rfl) (Jh o.w1 o.w2))) rfl)
  (aK (aZ (bN (c:=λ x=>row h λ y=>f y x) (h:=λ x=> .lst ((List.range h).map λ y=> .int (gap h (λ y=>f y x) y))) (l:=List.range w) (iz (aW (aA rfl) (Xp o))) (by rw[z2d];omega) λ y hy=>cu rfl (aW (aA rfl) (Jh o.h1 o.h2))) rfl)
  (bJ (aV (aA (bN (c:=λ (y:Nat)=>D.int (y:Int)) (h:=λ y=>row w (bQ w h f y)) (l:=List.range h) (jT (aA rfl) (by omega)) (by rw[z2d];omega) λ y hy=>?_)) rfl)))))
 have hy:=z2e hy;refine cu rfl (aV (aA (bN (c:=λ (x:Nat)=>D.int (x:Int)) (h:=λ x=> .int (bQ w h f y x)) (l:=List.range w) (jT (aA rfl) (by omega)) (by rw[z2d];omega) λ x hx=>?_)) rfl);have hx:=z2e hx;exact cu rfl (au (x:= .int (gap w (f y) x)) (y:= .int (gap h (λ y=>f y x) y)) (au (au rfl rfl (gA (α:=D) hy)) rfl (gA (α:=D) hx)) (au (au rfl rfl (gA (α:=D) hx)) rfl (gA (α:=D) hy)) rfl)
def eO (T:Nat->Int):D:= .tup [.int (T 0),.int (T 1),.int (T 2)]
def tab (w h:Nat) (T:Nat->Nat->Nat->Int):D:= .lst ((List.range h).map λ y=> .lst ((List.range w).map λ x=>eO (T y x)))
def wM (w:Nat) (f:Nat->Nat->Int) (y x i:Nat):Int:=gap w (f y) x+(if i=0 then ab (f (y - 1) x - f y (x - 1)) else if i=1 then 0 else ab (f (y - 1) x - f y (min (x+1) (w - 1))))
def aa5:ao->So:=(aO (bB (bin (gv 7) (aB zu (ak (bin (bin (gv 3) (gv 6) bF) (bin (gv 2) (aB maxD (ak (bin (gv 6) (ci 1) fV) (ak (ci 0) nA))) bF) fV) nA)) cH) (aF 8)) (aO (bB (bin (gv 7) (aB zu (ak (bin (bin (gv 3) (gv 6) bF) (bin (gv 2) (aB minD (ak (bin (gv 6) (ci 1) cH) (ak (gv 4) nA))) bF) fV) nA)) cH) (aF 9)) (pK 5 (eE (ak (gv 8) (ak (gv 7) (ak (gv 9) nA)))))))
theorem Af {i:Nat} {d:D} (e:u ρ= .ok d) (h:ρ[i]?=some (some (.lst ds))) (hl:ds.length < 1000000):pK i u ρ= .nx (ρ.set i (some (.lst (ds++[d])))):=by
 unfold pK;rw[e];simp only[zj,fj,h];rw[if_pos hl]
theorem aag (h1:1<=w) (hx:x < w) {e0 e8:Option Ent} (hl:acc.length < 1000000):
  ∃ z8 z9,aa5 [e0,e1,vA (row w (f y)),vA (row w (f (y - 1))),vA (.int ((w - 1:Nat):Int)),some (.lst acc),vA (.int (x:Int)),vA (.int (gap w (f y) x)),e8,e9] =
   .nx [e0,e1,vA (row w (f y)),vA (row w (f (y - 1))),vA (.int ((w - 1:Nat):Int)),some (.lst (acc++[eO (wM w f y x)])),vA (.int (x:Int)),vA (.int (gap w (f y) x)),z8,z9]:=by
 refine⟨_,_,aK (aZ (d:= .int (wM w f y x 0)) (au (x:= .int (gap w (f y) x)) (y:= .int (ab (f (y - 1) x - f y (x - 1)))) rfl (aV (aA (au (x:= .int (f (y - 1) x)) (y:= .int (f y (x - 1))) (au rfl rfl (jd hx)) (au rfl (aV (aD (au rfl rfl rfl) (aA rfl)) Uz) (jd (by omega))) rfl)) rfl) rfl) rfl)
  (aK (aZ (d:= .int (wM w f y x 2)) (au (x:= .int (gap w (f y) x)) (y:= .int (ab (f (y - 1) x - f y (min (x+1) (w - 1))))) rfl (aV (aA (au (x:= .int (f (y - 1) x)) (y:= .int (f y (min (x+1) (w - 1)))) (au rfl rfl (jd hx)) (au rfl (aV (aD (x:= .int ((x+1:Nat):Int)) (au rfl rfl rfl) (aA rfl)) min1) (jd (by omega))) rfl)) rfl) rfl) rfl)
  (Af (d:=eO (wM w f y x)) ((dh (aD rfl (aD rfl (aA rfl)))).trans ?_) rfl hl))⟩
 have:wM w f y x 1=gap w (f y) x:=by simp[wM]
 rw[eO,this]
theorem join_loop (h1:1<=w) {y:Nat} {e0 e1:Option Ent}:∀{xs:List Nat} {acc:List D} {e6 e7 e8 e9:Option Ent},(∀x∈xs,x < w)->acc.length+xs.length<=1000->
  ∃ z6 z7 z8 z9,forL (cZ (c7 2 (aX (aF 6) (aX (aF 7) nilG)))) aa5 (xs.map λ (x:Nat)=>D.tup [.int (x:Int),.int (gap w (f y) x)]) [e0,e1,vA (row w (f y)),vA (row w (f (y - 1))),vA (.int ((w - 1:Nat):Int)),some (.lst acc),e6,e7,e8,e9] =
   .nx [e0,e1,vA (row w (f y)),vA (row w (f (y - 1))),vA (.int ((w - 1:Nat):Int)),some (.lst (acc++xs.map λ x=>eO (wM w f y x))),z6,z7,z8,z9]
 |[],acc,e6,e7,e8,e9,_,_=>⟨e6,e7,e8,e9,by rw[List.map_nil,List.map_nil,List.append_nil];rfl⟩
 | x::xs,acc,e6,e7,e8,e9,hx,hl=>by
  rw[List.length_cons] at hl;obtain⟨z8,z9,e⟩:=aag (f:=f) (y:=y) h1 (hx x (by simp)) (e0:=e0) (e1:=e1) (e8:=e8) (e9:=e9) (acc:=acc) (by omega);obtain⟨y6,y7,y8,y9,e'⟩:=join_loop h1 (y:=y) (e0:=e0) (e1:=e1) (xs:=xs) (acc:=acc++[eO (wM w f y x)]) (e6:=vA (.int (x:Int))) (e7:=vA (.int (gap w (f y) x))) (e8:=z8) (e9:=z9) (λ z hz=>hx z (by simp[hz])) (by simp;omega);refine⟨y6,y7,y8,y9,?_⟩;rw[List.append_assoc] at e';rw[z1h,z1h];exact cX rfl e e'
theorem Kh {p:Nat->D}:∀{n m:Nat},oG m ((List.range' m n).map p)=(List.range' m n).map λ (x:Nat)=>D.tup [.int (x:Int),p x]
 |0,_=>rfl
 |n+1,m=>by rw[List.range'_succ,z1h,z1h,oG,Kh]
theorem sZ {x:D} {n:Nat} {p:Nat->D} (e:fa ρ= .ok [x]) (h:jP x= .ok ((List.range n).map p)):(λ ρ=>(fa ρ).bind oH) ρ= .ok ((List.range n).map λ (y:Nat)=>D.tup [.int (y:Int),p y]):=by
 show (fa ρ).bind oH=_;rw[e,R.bC,oH,h,R.bC,List.range_eq_range',Kh]
theorem KJ (o:Ok w h f) (hy:y < h):lG [bD w h f,.int (y:Int)]= .ok (.lst ((List.range w).map λ x=>eO (wM w f y x))):=by
 have w20:=o.w2;obtain⟨z6,z7,z8,z9,e⟩:=join_loop (f:=f) (y:=y) o.w1 (e0:=vA (bD w h f)) (e1:=vA (.int (y:Int))) (xs:=List.range w) (acc:=[]) (e6:=none) (e7:=none) (e8:=none) (e9:=none) (λ x hx=>z2e hx) (by rw[z2d,List.length_nil];omega);exact cC (aK (aZ (au rfl rfl (Ad hy)) rfl) (aK (aZ (au rfl (aV (aD (au rfl rfl rfl) (aA rfl)) Uz) (Ad (by omega))) rfl) (aK (aZ (au (aV (aA rfl) nQ) rfl (aaf o.w1)) rfl) (aK (pR rfl)
  (aK (iM (sZ (aA (aW (aA rfl) (Jh o.w1 o.w2))) rfl) e) (bJ (d:= .lst ((List.range w).map λ x=>eO (wM w f y x))) rfl))))))
theorem S6 {a b:Str}:pA (.str a) (.str b)= .ok (.bl (a ==b)):=by
 rw[pA,if_pos (by simp[dep])];show R.ok (D.bl (fY (.str a) (.str b)))=_;simp[mD,mF,mH,mJ,mK,iJ,eG]
def wo3 (w h:Nat) (f:Nat->Nat->Int) (y x i:Nat):Int:=bQ w h f y x
theorem S7 (o:Ok w h f):jX [bD w h f,.str "worth"]= .ok (tab w h (wo3 w h f)):=by
 have dU:=o.h2;have w20:=o.w2;exact cC (lR (gP (bf (b:=true) (au rfl rfl S6)) (bJ (bN (c:=λ y=>row w (bQ w h f y)) (h:=λ y=> .lst ((List.range w).map λ x=>eO (wo3 w h f y x))) (l:=List.range h) (iz (aW (aA rfl) (Ae o))) (by rw[z2d];omega) λ y hy=>
  cu rfl (bN (c:=λ x=> .int (bQ w h f y x)) (h:=λ x=>eO (wo3 w h f y x)) (l:=List.range w) (iz rfl) (by rw[z2d];omega) λ x hx=>cu rfl (dh (aD rfl (aD rfl (aA rfl)))))))))
theorem S8 (o:Ok w h f):jX [bD w h f,.str "joins"]= .ok (tab w h (wM w f)):=by
 have dU:=o.h2;exact cC (aK (cL (bf (b:=false) (au rfl rfl S6)) rfl) (bJ (bN (c:=λ (y:Nat)=>D.int (y:Int)) (h:=λ y=> .lst ((List.range w).map λ x=>eO (wM w f y x))) (l:=List.range h) (jT (aA (aV (aA rfl) pU)) (by omega)) (by rw[z2d];omega) λ y hy=>
  cu rfl (aW (aD rfl (aA rfl)) (KJ o (z2e hy))))))
def fare (T:Nat->Nat->Nat->Int) (s:Nat->Nat) (y:Nat):Int:=T y (s y) (s (y - 1)+1 - s y)
def cost (h:Nat) (T:Nat->Nat->Nat->Int) (s:Nat->Nat):Int:=T 0 (s 0) 1+((List.range (h - 1)).map λ y=>fare T s (y+1)).sum
theorem rZ {T:Nat->Int} {p:Nat->D} {a b:Nat} (hb:b < w) (h1:b<=a+1) (h2:a<=b+1) (hp:p b=eO T):dN [.lst ((List.range w).map p),.int (a:Int),.int (b:Int)]= .ok (.int (T (a+1 - b))):=by
 refine cC (bJ (au (x:=eO T) (y:= .int ((a+1 - b:Nat):Int)) (au rfl rfl ((gA (α:=D) hb).trans (congrArg R.ok hp))) (au (au rfl rfl rfl) rfl ?_) (oA (i:=a+1 - b) ?_)))
 ·show R.ok (D.int ((a:Int) - (b:Int)+1))=_;rw[show (a:Int) - (b:Int)+1=((a+1 - b:Nat):Int) by omega]
 ·have:a+1 - b=0\/a+1 - b=1\/a+1 - b=2:=by omega
  rcases this with e |e |e <;> rw[e] <;> rfl
def afO:ao->So:=(Im 2 (aB (aQ dN 3) (ak (bin (gv 0) (gv 3) bF) (ak (bin (gv 1) (bin (gv 3) (ci 1) fV) bF) (ak (bin (gv 1) (gv 3) bF) nA)))))
theorem ad9 {i:Nat} {a b:Int} (h:ρ[i]?=some (some (.val (.int a)))) (e:u ρ= .ok (.int b)):Im i u ρ= .nx (ρ.set i (some (.val (.int (a+b))))):=by
 unfold Im;simp only[h];rw[e];rfl
theorem Kl {T:Nat->Nat->Nat->Int} (q:mq w h s):∀{ys:List Nat} {acc:Int} {e3:Option Ent},(∀y∈ys,y+1 < h)->
  ∃z3,forL (aF 3) afO (ys.map λ (y:Nat)=>D.int ((y+1:Nat):Int)) [vA (tab w h T),vA (sm h s),vA (.int acc),e3]= .nx [vA (tab w h T),vA (sm h s),vA (.int (acc+(ys.map λ y=>fare T s (y+1)).sum)),z3]
 |[],acc,e3,_=>⟨e3,by simp[forL]⟩
 | y::ys,acc,e3,hy=>by
  obtain⟨z3,e⟩:=Kl (T:=T) q (ys:=ys) (acc:=acc+fare T s (y+1)) (e3:=vA (.int ((y+1:Nat):Int))) λ z hz=>hy z (by simp[hz]);have h1:=hy y (by simp);obtain⟨k1,k2⟩:=q.st y h1;refine⟨z3,?_⟩;rw[z1h,z1h,List.sum_cons,<-Int.add_assoc];refine cX rfl (ad9 rfl (aW (aD (au rfl rfl (gA (α:=D) h1)) (aD (au rfl (au (x:= .int ((y+1:Nat):Int)) rfl rfl (aaf (by omega))) (jd (x:=y+1 - 1) (by omega))) (aA (au rfl rfl (jd h1))))) (rZ (T:=T (y+1) (s (y+1))) (a:=s y) (q.lt _ h1) k1 k2 rfl))) e
theorem Qo {T:Nat->Nat->Nat->Int} (h1:1<=h) (dU:h<=20) (q:mq w h s):lW [tab w h T,sm h s]= .ok (.int (cost h T s)):=by
 obtain⟨z3,e⟩:=Kl (T:=T) q (ys:=List.range (h - 1)) (acc:=T 0 (s 0) 1) (e3:=none) λ y hy=>by have:=z2e hy;omega
 have e0:dN [.lst ((List.range w).map λ x=>eO (T 0 x)),.int ((s 0:Nat):Int),.int ((s 0:Nat):Int)]= .ok (.int (T 0 (s 0) 1)):=by
  have:=rZ (T:=T 0 (s 0)) (p:=λ x=>eO (T 0 x)) (a:=s 0) (q.lt 0 h1) (by omega) (by omega) rfl
  rwa [show s 0+1 - s 0=1 by omega] at this
 exact cC (aK (aZ (aW (aD (au rfl rfl (gA (α:=D) (x:=0) h1)) (aD (au rfl rfl (jd (x:=0) h1)) (aA (au rfl rfl (jd (x:=0) h1))))) e0) rfl) (aK (iM (Jf (aD rfl (aA (aV (aA rfl) nQ))) (by omega)) e) (bJ (d:= .int (cost h T s)) rfl)))
theorem wN {m:Str} (hm:m= "worth"\/m= "joins"):fD [.str m]= .ok .non:=by
 rcases hm with rfl |rfl
 ·exact Fi (cL (bf (b:=false) (au rfl rfl (by simp[Cm,Ub,gJ,mD,mF,mH,mJ,mK,iJ,eG]))) rfl)
 ·exact Fi (cL (bf (b:=false) (au rfl rfl (by simp[Cm,Ub,gJ,mD,mF,mH,mJ,mK,iJ,eG]))) rfl)
def tbl (m:Str) (w h:Nat) (f:Nat->Nat->Int):Nat->Nat->Nat->Int:=if m= "worth" then wo3 w h f else wM w f
theorem yd {m:Str} (hm:m= "worth"\/m= "joins") (o:Ok w h f) (q:mq w h s):jH [bD w h f,sm h s,.str m]= .ok (.int (cost h (tbl m w h f) s)):=by
 refine cC (aK (jV (aW (aA rfl) (wK o))) (aK (jV (aW (aA rfl) (wN hm))) (aK (jV (aW (aD rfl (aA rfl)) (Nr o q))) (bJ (aW (aD (x:=tab w h (tbl m w h f)) (aW (aD rfl (aA rfl)) ?_) (aA rfl)) (Qo o.h1 o.h2 q))))));rcases hm with rfl |rfl
 ·exact S7 o
 ·exact S8 o
end
section
variable {n w h:Nat} {g:Nat->Int} {f:Nat->Nat->Int} {s:Nat->Nat} {c:Int} {m:Str} {ρ:ao}
theorem pW {F:List D->R D} {n j:Nat} {sel:List (Sum Nat D)} {fk:ao->R (List D)} {zs:List D} {d:D} (e1:fa ρ= .ok ds) (e2:fk ρ= .ok zs) (e3:F (ds++pickK .non sel zs)= .ok d) (hl:(ds++pickK .non sel zs).length=n:=by rfl) (hj:zs.length=j:=by rfl):lV F n j sel fa fk ρ= .ok d:=by
 rw[lV,e1,R.bC,e2,R.bC,if_pos hj,aQ,if_pos hl,e3];rfl
theorem Xv {p:Nat->Int} (hh:1<=h):((List.range h).map p).sum=p 0+((List.range (h - 1)).map λ y=>p (y+1)).sum:=by
 obtain⟨k,rfl⟩:∃k,h=k+1:=⟨h - 1,by omega⟩;rw[List.range_succ_eq_map,z1h,List.sum_cons,List.map_map];rfl
theorem aea (hh:1<=h):cost h (tbl "worth" w h f) s=((List.range h).map λ y=>bQ w h f y (s y)).sum:=by
 rw[Xv hh];rfl
theorem S9 {c:ao->R Bool} {f g:ao->R D} {r:R D} (e:c ρ= .ok true) (h:f ρ=r):JK c f g ρ=r:=by rw[JK,e,R.bC,if_pos rfl,h]
theorem ach {c:ao->R Bool} {f g:ao->R D} {r:R D} (e:c ρ= .ok false) (h:g ρ=r):JK c f g ρ=r:=by rw[JK,e,R.bC,if_neg (by decide),h]
theorem aa6:kh (.int i) (.int j)= .ok (.bl (!decide (i=j))):=by
 rw[kh,if_pos (by simp[dep])];show R.ok (D.bl (!fY (.int i) (.int j)))=_;by_cases h:i=j <;> simp[mD,mF,mH,mJ,mK,iJ,eG,h]
end
abbrev Wy:=Int×Int×List Int
def fl (t:Wy):List Int:=t.1::t.2.1::t.2.2
def un (l:List Int):Wy:=(l.getD 0 0,l.getD 1 0,l.drop 2)
theorem UG (t:Wy):un (fl t)=t:=rfl
theorem Xw (h:fl a=fl b):a=b:=by have:=congrArg un h;simpa[UG] using this
def gK (t:Wy):D:= .tup [.int t.1,.int t.2.1,.tup (t.2.2.map .int)]
theorem Ec (t:Wy):gK t=jr (fl t):=rfl
def cP (l:List Wy):D:= .lst (l.map gK)
section
variable {n w h:Nat} {g:Nat->Int} {f:Nat->Nat->Int} {ρ:ao}
theorem BP {i:Nat} {es:List D} (h:ρ[i]?=some (some (.lst ds))) (e:u ρ= .ok (.lst es)) (hl:ds.length+es.length<=1000000):xX i u ρ= .nx (ρ.set i (some (.lst (ds++es)))):=by
 unfold xX;simp only[h,e,zj,fj];rw[if_pos hl]
theorem aci {i:Nat} {es:List D} (h:ρ[i]?=some (some (.lst ds))) (h2:ρ[k]?=some (some (.lst es))) (hl:ds.length < 1000000):Mx i k ρ= .nx ((ρ.set i (some (.lst (ds++[.lst es])))).set k (some (.val (.lst es)))):=by
 unfold Mx;simp only[h,h2];rw[if_pos hl]
theorem Nt {i a:Nat} {G:List D->R D} {n:Nat} {d:D} (h:ρ[i]?=some (some (.obj (.fn a)))) (e:fa ρ= .ok ds) (e2:G ds= .ok d) (hl:ds.length=n:=by rfl):Bu i a G n fa ρ= .ok d:=by
 unfold Bu;simp only[h,e,if_true,R.bC,aQ,hl,e2];rfl
theorem Xx {i:Nat} {k:Int} {d:D} (h:ρ[i]?=some (some (.lst ds))) (e:u ρ= .ok (.int k)) (e2:bF (.lst ds) (.int k)= .ok d):R8 i u ρ= .ok d:=by
 unfold R8;simp only[h,e,R.bC,e2]
theorem BR (e:u ρ= .ok (.lst ds)):MP u ρ= .ok (!ds.isEmpty):=by unfold MP;rw[e];rfl
theorem oW {m:Nat} {s:ao->So} {es:List Ent} {d:D} (e:s (es.map some++List.replicate m none)= .rt d):jJ m s es= .ok d:=by rw[jJ,e]
def nr (w x:Nat):List Nat:=List.range' (x - 1) (min (x+2) w - (x - 1))
theorem wO {p:Nat} (hx:x < w):p∈nr w x↔p < w/\p<=x+1/\x<=p+1:=by
 unfold nr;rw[List.mem_range'_1,Nat.add_sub_cancel' (Nat.le_min.mpr ⟨z0b (Nat.sub_le x 1) (Nat.le_add_right x 2),z0b (Nat.sub_le x 1) (z0e hx)⟩),Nat.lt_min];exact⟨λ h=>⟨h.2.2,Nat.le_of_lt_succ h.2.1,Nat.le_add_of_sub_le h.1⟩,λ h=>⟨Nat.sub_le_of_le_add h.2.2,Nat.lt_succ_of_le h.2.1,h.1⟩⟩
theorem Ag:(nr w x).length<=3:=by unfold nr;rw[List.length_range'];omega
theorem Tc (hx:x < w) (hw:w<=20):uD [.int (x:Int),.int (w:Int)]= .ok (.lst ((nr w x).map λ (p:Nat)=>D.int (p:Int))):=by
 have e2:minD [.int ((x+2:Nat):Int),.int (w:Int)]= .ok (.int ((min (x+2) w:Nat):Int)):=by
  show R.ok (D.int (if (w:Int) < ((x+2:Nat):Int) then (w:Int) else ((x+2:Nat):Int)))=_;congr 2;by_cases hz:w < x+2
  ·rw[if_pos (Int.ofNat_lt.mpr hz),Nat.min_eq_right (z0e hz)]
  ·rw[if_neg (λ q=>hz (Int.ofNat_lt.mp q)),Nat.min_eq_left (Nat.le_of_not_lt hz)]
 refine cC (bJ (aV (aD (x:= .int ((x - 1:Nat):Int)) (aV (aD (au rfl rfl rfl) (aA rfl)) Uz) (aA (x:= .int ((min (x+2) w:Nat):Int)) (aV (aD (x:= .int ((x+2:Nat):Int)) (au rfl rfl rfl) (aA rfl)) e2))) ?_));show (if _ then _ else _)=_;have b1:x - 1<=1000:=z0b (Nat.sub_le x 1) (z0b (z0e hx) (z0b hw (by decide)));have b2:min (x+2) w<=1000:=z0b (Nat.min_le_right _ _) (z0b hw (by decide));rw[if_pos ⟨Int.le_trans (by decide) (Int.natCast_nonneg _),Int.ofNat_le.mpr b1,Int.le_trans (by decide) (Int.natCast_nonneg _),Int.ofNat_le.mpr b2⟩];congr 2;unfold upto nr;rw[Int.toNat_sub,List.range'_eq_map_range,List.map_map];refine List.map_congr_left λ i _=>?_;simp
def gB (c:Int) (t:Wy):Wy:=(t.1,t.2.1+c,t.2.2)
def cands (w:Nat) (C:Nat->List Wy) (T:Nat->Nat->Int) (x:Nat):List Wy:=(nr w x).flatMap λ p=>(C p).map (gB (T p (x+1 - p)))
variable {C:Nat->List Wy} {T:Nat->Nat->Int}
theorem aeb {p:Nat} (hx:x < w) (hp:p∈nr w x) (hC:(C p).length<=1) (hl:acc.length<=1000):
  onB [vA (.lst ((List.range w).map λ x=>cP (C x))),vA (.lst ((List.range w).map λ x=>eO (T x))),vA (.int (x:Int)),some (.lst acc),vA (.int (p:Int)),e5] =
   .nx [vA (.lst ((List.range w).map λ x=>cP (C x))),vA (.lst ((List.range w).map λ x=>eO (T x))),vA (.int (x:Int)),some (.lst (acc++((C p).map (gB (T p (x+1 - p)))).map gK)),vA (.int (p:Int)),vA (.int (T p (x+1 - p)))]:=by
 obtain⟨h1,h2,h3⟩:=(wO hx).mp hp;refine aK (aZ (aW (aD rfl (aD rfl (aA rfl))) (rZ (T:=T p) (p:=λ x=>eO (T x)) h1 (by omega) (by omega) rfl)) rfl) ?_;refine BP (ds:=acc) rfl (bN (c:=gK) (h:=λ t=>gK (gB (T p (x+1 - p)) t)) (l:=C p) (iB (au rfl rfl (gA (α:=D) h1))) (by omega) λ t ht=>?_) (by simp;omega) |>.trans ?_
 ·exact cu rfl (dh (aD rfl (aD (x:= .int (t.2.1+T p (x+1 - p))) (au rfl rfl rfl) (aA rfl))))
 ·rw[List.map_map];rfl
theorem Td {x:Nat} (hx:x < w) (hC:∀p < w,(C p).length<=1):∀{ps:List Nat} {acc:List D} {e4 e5:Option Ent},(∀p∈ps,p∈nr w x)->acc.length+ps.length<=1000->
  ∃ z4 z5,forL (aF 4) onB (ps.map λ (p:Nat)=>D.int (p:Int)) [vA (.lst ((List.range w).map λ x=>cP (C x))),vA (.lst ((List.range w).map λ x=>eO (T x))),vA (.int (x:Int)),some (.lst acc),e4,e5] =
   .nx [vA (.lst ((List.range w).map λ x=>cP (C x))),vA (.lst ((List.range w).map λ x=>eO (T x))),vA (.int (x:Int)),some (.lst (acc++(ps.flatMap λ p=>(C p).map (gB (T p (x+1 - p)))).map gK)),z4,z5]
 |[],acc,e4,e5,_,_=>⟨e4,e5,by simp[forL]⟩
 | p::ps,acc,e4,e5,hp,hl=>by
  rw[List.length_cons] at hl;have hpn:=hp p (by simp);have hpw:=((wO hx).mp hpn).1;have hc:=hC p hpw;obtain⟨z4,z5,e⟩:=Td hx hC (ps:=ps) (acc:=acc++((C p).map (gB (T p (x+1 - p)))).map gK) (e4:=vA (.int (p:Int))) (e5:=vA (.int (T p (x+1 - p)))) (λ q hq=>hp q (by simp[hq])) (by simp;omega);refine⟨z4,z5,cX rfl (aeb hx hpn hc (by omega)) (e.trans ?_)⟩;rw[List.flatMap_cons,List.map_append,List.append_assoc]
theorem Xy (hx:x < w) (hw:w<=20) (hC:∀p < w,(C p).length<=1):pQ [.lst ((List.range w).map λ x=>cP (C x)),.lst ((List.range w).map λ x=>eO (T x)),.int (x:Int)]= .ok (.lst ((cands w C T x).map gK)):=by
 obtain⟨z4,z5,e⟩:=Td (T:=T) hx hC (ps:=nr w x) (acc:=[]) (e4:=none) (e5:=none) (λ p hp=>hp) (by have:=Ag (w:=w) (x:=x);simp;omega);have hlen:bZ [.lst ((List.range w).map λ x=>cP (C x))]= .ok (.int (w:Int)):=by simp[bZ]
 refine cC (aK (pR rfl) (aK (iM (iB (aW (aD rfl (aA (aV (aA rfl) hlen))) (Tc hx hw))) e) (bJ rfl)))
end
section
variable {n w h:Nat} {g:Nat->Int} {f:Nat->Nat->Int} {ρ:ao}
theorem Gv:pA (.int i) (.int j)= .ok (.bl (decide (i=j))):=by
 rw[pA,if_pos (by simp[dep])];show R.ok (D.bl (fY (.int i) (.int j)))=_;by_cases h:i=j <;> simp[mD,mF,mH,mJ,mK,iJ,eG,h]
def cR (cs:List Wy):List Wy:=((lC (cs.map fl)).take 1).map un
def pre (x:Nat) (t:Wy):Wy:=(t.1,t.2.1,(x:Int)::t.2.2)
theorem yg:∀cs:List Wy,pP (cs.map gK)=some (cs.map fl)
 |[]=>rfl
 | t::cs=>by
  rw[z1h,pP,yg cs,Ec,show wA (jr (fl t))=some (fl t) from MK];rfl
theorem Nu {cs:List Wy}:∀l∈lC (cs.map fl),fl (un l)=l:=λ l hl=>by
 obtain⟨t,_,rfl⟩:=List.mem_map.mp ((jD _).mem_iff.mp hl);rw[UG]
theorem yh {cs:List Wy}:∀t∈cR cs,t∈cs:=λ t ht=>by
 obtain⟨l,hl,rfl⟩:=List.mem_map.mp ht;have hl:=List.mem_of_mem_take hl;obtain⟨t,h1,rfl⟩:=List.mem_map.mp ((jD _).mem_iff.mp hl);rw[UG];exact h1
theorem su {cs:List Wy}:(cR cs).length<=1:=by unfold cR;simp;omega
theorem yU {cs:List Wy} (hl:cs.length < 64) (hn:(cs.map fl).Nodup) (hp:∀t∈cs,t.2.2.length<=100):dY 1 [.int (x:Int),.lst (cs.map gK)]= .ok (cP ((cR cs).map (pre x))):=by
 have e1:oK [.lst (cs.map gK)]= .ok (.lst ((lC (cs.map fl)).map jr)):=by
  rw[oK,yg];show (if _ then _ else _)=_;rw[if_pos ⟨by simpa using hl,hn⟩]
 have e2:j9 ((lC (cs.map fl)).map jr) none (some 1)=(cR cs).map gK:=by
  have e3:∀{n d:Nat},HT.sIx n d (some 1)=min 1 n:=λ {n d}=>by
   show (if (1:Int) < 0 then ((1:Int)+(n:Int)).toNat else min (1:Int).toNat n)=min 1 n;rw[if_neg (by decide)];rfl
  rw[j9,e3,Gu,Nat.sub_zero,List.drop_zero,<-List.map_take];have e4:∀l:List (List Int),l.take (min 1 (l.map jr).length)=l.take 1:=λ l=>by cases l <;> simp
  rw[e4];unfold cR;rw[List.map_map];refine List.map_congr_left λ l hl=>?_;show jr l=gK (un l);rw[Ec,Nu l (List.mem_of_mem_take hl)]
 have e5:cP ((cR cs).map (pre x))= .lst ((cR cs).map λ t=>gK (pre x t)):=by unfold cP;rw[List.map_map];rfl
 rw[e5];refine oW (bJ (bN (c:=gK) (h:=λ t=>gK (pre x t)) (l:=cR cs) (iB (ds:=(cR cs).map gK) ?_) (by have:=su (cs:=cs);omega) λ t ht=>?_))
 ·show nJ _ _ _ _=_;unfold nJ;rw[aV (aA rfl) e1];show R.ok (D.lst (j9 _ none (some 1)))=_;rw[e2]
 ·refine cu rfl (dh (aD rfl (aD rfl (aA (x:= .tup ((((x:Int)::t.2.2)).map .int)) (au (dh (aA rfl)) rfl ?_)))));have:=hp t (yh t ht);exact Jg (xs:=[.int (x:Int)]) (ys:=t.2.2.map .int) (by simp;omega)
end
def eU (m:Int):Int:=if m=2 then 1 else 0
def sb (c:Int) (t:Wy):Wy:=(t.1 - c,t.2.1,t.2.2)
def lK (x:Nat) (m:Int) (cs:List Wy):List Wy:=if m=1 then [] else ((cR cs).map (pre x)).map (sb (eU m))
section
variable {w h a y:Nat} {T:Nat->Nat->Nat->Int} {M:Nat->Nat->Int} {ρ:ao}
theorem aah {l:List Wy} (hl:l.length<=1) {e0 e2 e3 e4 e7:Option Ent} (ha:acc.length<=1000):
  aa3 [e0,e1,e2,e3,e4,e5,some (.lst acc),e7,vA (.int m),vA (cP l),e10]= .nx [e0,e1,e2,e3,e4,e5,some (.lst (acc++[cP (l.map (sb (eU m)))])),e7,vA (.int m),vA (cP l),vA (.int (eU m))]:=by
 have e:(JK (bU (bin (gv 8) (ci 2) pA)) (ci 1) (ci 0)) [e0,e1,e2,e3,e4,e5,some (.lst acc),e7,vA (.int m),vA (cP l),e10]= .ok (.int (eU m)):=by
  unfold eU;by_cases hm:m=2
  ·rw[if_pos hm];exact S9 (bf (au rfl rfl (by rw[Gv,decide_eq_true hm]))) rfl
  ·rw[if_neg hm];exact ach (bf (au rfl rfl (by rw[Gv,decide_eq_false hm]))) rfl
 refine aK (aZ e rfl) ?_;have e2:cP (l.map (sb (eU m)))= .lst (l.map λ t=>gK (sb (eU m) t)):=by unfold cP;rw[List.map_map];rfl
 rw[e2];refine Af (ds:=acc) (bN (c:=gK) (h:=λ t=>gK (sb (eU m) t)) (l:=l) (iB rfl) (by omega) λ t ht=>?_) rfl (by omega);exact cu rfl (dh (aD (x:= .int (t.1 - eU m)) (au rfl rfl rfl) (aD rfl (aA rfl))))
inductive Xz (w:Nat) (T:Nat->Nat->Nat->Int) (y:Nat):List D->(Nat->List Wy)->Prop
 |last:Xz w T y [] λ _=>[(0,0,[])]
 |more (rs:List D) (C:Nat->List Wy):(∀p < w,(C p).length<=1)->Xz w T y (rs++[.lst ((List.range w).map λ x=>cP (C x))]) (cands w C (T (y+1)))
theorem aai {rows:List D} {cs:Nat->List Wy} (B:Xz w T y rows cs) (hy:rows≠[]->y+1 < h) (hx:x < w) (hw:w<=20) (hl:(cs x).length < 64) (hn:((cs x).map fl).Nodup) (hp:∀t∈cs x,t.2.2.length<=100) {e6:Option Ent}:
  aa2 a (dY 1) [vA (tab w h T),e1,vA (.tup []),some (.obj (.fn a)),some (.lst rows),vA (.int (y:Int)),e6,vA (.int (x:Int)),vA (.int m),e9,e10] =
   .nx [vA (tab w h T),e1,vA (.tup []),some (.obj (.fn a)),some (.lst rows),vA (.int (y:Int)),e6,vA (.int (x:Int)),vA (.int m),vA (cP (if m=1 then [] else (cR (cs x)).map (pre x))),e10]:=by
 have th:∀(u:Option Ent),Ey (vA (.int m))=vA (.int m):=λ _=>rfl;by_cases hm:m=1
 ·rw[if_pos hm];exact gP (bf (au rfl rfl (by rw[Gv,decide_eq_true hm]))) (aZ (jw rfl) rfl)
 ·rw [if_neg hm];refine cL (bf (au rfl rfl (by rw[Gv,decide_eq_false hm]))) ?_;cases B with
  | last=>
   refine gP (iK (BR (ds:=[]) rfl)) (aZ (Nt rfl (aD rfl (aA (jw (aA (dh (aD rfl (aD rfl (aA rfl)))))))) (yU (cs:=[(0,0,[])]) hl hn hp)) rfl)
  | more rs C hC=>
   have hy:=hy (by simp);refine cL (iK (BR (ds:=rs++[.lst ((List.range w).map λ x=>cP (C x))]) rfl) |>.trans (by simp)) (aZ (Nt rfl (aD rfl (aA (aW (aD (x:= .lst ((List.range w).map λ x=>cP (C x))) (Xx rfl (k:= -1) rfl ?_) (aD (au rfl (au (x:= .int (y:Int)) (y:= .int 1) (r:= .ok (.int ((y+1:Nat):Int))) rfl rfl rfl) (gA (α:=D) hy)) (aA rfl))) (Xy (C:=C) (T:=T (y+1)) hx hw hC)))) (yU hl hn hp)) rfl);rw[bF];have:L2.atI (rs++[D.lst ((List.range w).map λ x=>cP (C x))]) (-1)=some (.lst ((List.range w).map λ x=>cP (C x))):=by
    unfold L2.atI ixN;rw[if_neg (by decide),if_pos (by simp;omega)];simp only[z1d,List.length_singleton,Option.bind_some];rw[show ((-1:Int)+((rs.length+1:Nat):Int)).toNat=rs.length by omega,List.getElem?_append_right (z0g _)];simp
   rw[this]
end
def pB (w h:Nat) (T:Nat->Nat->Nat->Int) (M:Nat->Nat->Int):Nat->Nat->List Wy
 |0,_=>[(0,0,[])]
 |k+1,x=>cands w (λ p=>lK p (M (h - 1 - k) p) (pB w h T M k p)) (T (h - 1 - k)) x
def pC (w h:Nat) (T:Nat->Nat->Nat->Int) (M:Nat->Nat->Int) (k x:Nat):List Wy:=lK x (M (h - 1 - k) x) (pB w h T M k x)
section
variable {w h a:Nat} {T:Nat->Nat->Nat->Int} {M:Nat->Nat->Int} {ρ:ao}
theorem pX:pB w h T M (k+1) x=cands w (pC w h T M k) (T (h - 1 - k)) x:=rfl
theorem pY {cs:List Wy}:(lK x m cs).length<=1:=by
 unfold lK;split
 ·simp
 ·have:=su (cs:=cs);simpa using this
theorem nu {cs:List Wy} {t:Wy} (h:t∈lK x m cs):∃u∈cs,t=sb (eU m) (pre x u):=by
 unfold lK at h;split at h
 ·simp at h
 ·rw[List.map_map] at h;obtain⟨u,hu,rfl⟩:=List.mem_map.mp h;exact⟨u,yh u hu,rfl⟩
theorem Ed {α β:Type} {F:α->List β}:∀{l:List α},(∀a∈l,(F a).length<=1)->(l.flatMap F).length<=l.length
 |[],_=>by simp
 | a::l,h=>by
  rw[List.flatMap_cons,z1d,List.length_cons];have h1:=h a (by simp);have h2:=Ed (l:=l) λ b hb=>h b (by simp[hb]);omega
theorem acj:∀{k x:Nat},(pB w h T M k x).length < 64
 |0,_=>by simp[pB]
 | k+1,x=>by
  rw[pX];unfold cands;have:=Ed (F:=λ p=>(pC w h T M k p).map (gB (T (h - 1 - k) p (x+1 - p)))) (l:=nr w x) λ p _=>by rw[z1g];exact pY
  have h2:=Ag (w:=w) (x:=x);omega
theorem XC:∀{k x:Nat},∀t∈pB w h T M k x,t.2.2.length=k
 |0,_,t,ht=>by simp[pB] at ht;subst ht;rfl
 | k+1,x,t,ht=>by
  rw[pX] at ht;obtain⟨p,_,hp⟩:=List.mem_flatMap.mp ht;obtain⟨u,hu,rfl⟩:=List.mem_map.mp hp;obtain⟨v,hv,rfl⟩:=nu hu;show (((p:Nat):Int)::v.2.2).length=k+1;rw[List.length_cons,XC v hv]
theorem Nv:∀{k x:Nat},((pB w h T M k x).map fl).Nodup
 |0,_=>by simp[pB]
 | k +1,x=>by
  rw[pX];unfold cands List.Nodup;rw[List.pairwise_map,List.pairwise_flatMap];refine⟨λ p _=>?_,?_⟩
  ·have hl:((pC w h T M k p).map (gB (T (h - 1 - k) p (x+1 - p)))).length<=1:=by rw[z1g];exact pY
   match (pC w h T M k p).map (gB (T (h - 1 - k) p (x+1 - p))),hl with
   |[],_=>exact .nil
   |[_],_=>simp
   |_::_::_,hl=>simp at hl
  ·have nd:(nr w x).Nodup:=List.nodup_range';refine nd.imp λ {p q} hpq t ht u hu z=>?_;obtain⟨t',ht',rfl⟩:=List.mem_map.mp ht;obtain⟨u',hu',rfl⟩:=List.mem_map.mp hu;obtain⟨t2,_,rfl⟩:=nu ht';obtain⟨u2,_,rfl⟩:=nu hu';have:=Xw z;have h2:((p:Nat):Int)::t2.2.2=((q:Nat):Int)::u2.2.2:=congrArg (λ t:Wy=>t.2.2) this;have h3:((p:Nat):Int)=((q:Nat):Int):=(List.cons.inj h2).1;exact hpq (by omega)
def vG (w h:Nat) (T:Nat->Nat->Nat->Int) (M:Nat->Nat->Int) (k:Nat):D:= .lst ((List.range w).map λ x=>cP (pC w h T M k x))
theorem Te {y:Nat} {rows:List D} {cs:Nat->List Wy} (B:Xz w T y rows cs) (hy:rows≠[]->y+1 < h) (hw:w<=20) (hl:∀x,(cs x).length < 64) (hn:∀x,((cs x).map fl).Nodup) (hp:∀x,∀t∈cs x,t.2.2.length<=100) {e1:Option Ent}:∀{xs:List Nat} {acc:List D} {e7 e8 e9 e10:Option Ent},(∀x∈xs,x < w)->acc.length+xs.length<=1000->
  ∃ z7 z8 z9 rR,forL (cZ (c7 2 (aX (aF 7) (aX (aF 8) nilG)))) (inW a (dY 1)) (xs.map λ (x:Nat)=>D.tup [.int (x:Int),.int (M y x)]) [vA (tab w h T),e1,vA (.tup []),some (.obj (.fn a)),some (.lst rows),vA (.int (y:Int)),some (.lst acc),e7,e8,e9,e10] =
   .nx [vA (tab w h T),e1,vA (.tup []),some (.obj (.fn a)),some (.lst rows),vA (.int (y:Int)),some (.lst (acc++xs.map λ x=>cP (lK x (M y x) (cs x)))),z7,z8,z9,rR]
 |[],acc,e7,e8,e9,e10,_,_=>⟨e7,e8,e9,e10,by simp[forL]⟩
 | x ::xs,acc,e7,e8,e9,e10,hx,hle=>by
  rw[List.length_cons] at hle;have hxw:=hx x (by simp);obtain⟨z7,z8,z9,rR,e⟩:=Te B hy hw hl hn hp (e1:=e1) (xs:=xs) (acc:=acc++[cP (lK x (M y x) (cs x))]) (e7:=vA (.int (x:Int))) (e8:=vA (.int (M y x))) (e9:=vA (cP (if M y x=1 then [] else (cR (cs x)).map (pre x)))) (e10:=vA (.int (eU (M y x)))) (λ q hq=>hx q (by simp[hq])) (by simp;omega);refine⟨z7,z8,z9,rR,cX rfl (aK (aai B hy hxw hw (hl x) (hn x) (hp x)) (aah ?_ (by omega) |>.trans ?_)) (e.trans ?_)⟩
  ·split
   ·simp
   ·have:=su (cs:=cs x);simpa using this
  ·have:lK x (M y x) (cs x)=(if M y x=1 then [] else (cR (cs x)).map (pre x)).map (sb (eU (M y x))):=by unfold lK;split <;> rfl
   rw[this]
  ·rw[z1h,List.append_assoc];rfl
def dn (r:Nat):List D:=(List.range r).map λ (i:Nat)=>D.int ((r:Int) - 1 - (i:Int))
theorem acn (r:Nat):dn (r+1)=D.int (r:Int)::dn r:=by
 unfold dn;rw[List.range_succ_eq_map,z1h,List.map_map];congr 1
 ·congr 1;omega
 ·refine List.map_congr_left λ i _=>?_;show D.int _=D.int _;congr 1;simp only[Nat.succ_eq_add_one];omega
theorem aec (hk:k < h) (hy:y=h - 1 - k):Xz w T y ((List.range k).map (vG w h T M)) (pB w h T M k):=by
 cases k with
 |zero=>exact .last
 | succ k=>
  rw[List.range_succ,List.map_append];have e:pB w h T M (k+1)=cands w (pC w h T M k) (T (y+1)):=by
   funext x;rw[pX,show y+1=h - 1 - k by omega]
  rw[e];exact .more _ _ λ p _=>pY
theorem aed (hk:k < h) (hy:y=h - 1 - k) (hh:h<=20) (hw:w<=20) {e6 e7 e8:Option Ent}:∃z6 z7 z8 z9 rR,aad a (dY 1) [vA (tab w h T),vA (bD w h M),vA (.tup []),some (.obj (.fn a)),some (.lst ((List.range k).map (vG w h T M))),vA (.int (y:Int)),e6,e7,e8,e9,e10] =
  .nx [vA (tab w h T),vA (bD w h M),vA (.tup []),some (.obj (.fn a)),some (.lst ((List.range (k+1)).map (vG w h T M))),vA (.int (y:Int)),z6,z7,z8,z9,rR]:=by
 obtain⟨z7,z8,z9,rR,e⟩:=Te (h:=h) (a:=a) (M:=M) (e1:=vA (bD w h M)) (aec (w:=w) (T:=T) (M:=M) hk hy) (λ hne=>by
  have:k≠0:=λ z=>hne (by rw[z];rfl);omega) hw (λ x=>acj) (λ x=>Nv) (λ x t ht=>by rw[XC t ht];omega) (xs:=List.range w) (acc:=[]) (e7:=e7) (e8:=e8) (e9:=e9) (e10:=e10) (λ x hx=>z2e hx) (by simp;omega)
 refine⟨vA (.lst ([]++(List.range w).map λ x=>cP (lK x (M y x) (pB w h T M k x)))),z7,z8,z9,rR,aK (pR rfl) (aK (iM (sZ (aA (au rfl rfl (Ad (by omega)))) rfl) e) ((aci (ds:=(List.range k).map (vG w h T M)) (es:=[]++(List.range w).map λ x=>cP (lK x (M y x) (pB w h T M k x))) rfl rfl (by rw[z1g,z2d];omega)).trans ?_))⟩;rw[List.range_succ,List.map_append];have er:((List.range w).map λ x=>cP (lK x (M y x) (pB w h T M k x)))=(List.range w).map λ x=>cP (pC w h T M k x):=by
  refine List.map_congr_left λ x _=>?_;unfold pC;rw[hy]
 simp only[List.nil_append];rw[er];rfl
theorem Nx (hh:h<=20) (hw:w<=20):∀{r k:Nat} {e5 e6 e7 e8 e9 e10:Option Ent},k+r=h->∃z5 z6 z7 z8 z9 rR,forL (aF 5) (aad a (dY 1)) (dn r) [vA (tab w h T),vA (bD w h M),vA (.tup []),some (.obj (.fn a)),some (.lst ((List.range k).map (vG w h T M))),e5,e6,e7,e8,e9,e10] =
  .nx [vA (tab w h T),vA (bD w h M),vA (.tup []),some (.obj (.fn a)),some (.lst ((List.range h).map (vG w h T M))),z5,z6,z7,z8,z9,rR]
 |0,k,e5,e6,e7,e8,e9,e10,hk=>⟨e5,e6,e7,e8,e9,e10,by rw[show k=h by omega];rfl⟩
 | r+1,k,e5,e6,e7,e8,e9,e10,hk=>by
  obtain⟨y6,y7,y8,y9,y10,e1⟩:=aed (a:=a) (w:=w) (T:=T) (M:=M) (k:=k) (y:=r) (by omega) (by omega) hh hw (e6:=e6) (e7:=e7) (e8:=e8) (e9:=e9) (e10:=e10);obtain⟨z5,z6,z7,z8,z9,rR,e2⟩:=Nx hh hw (r:=r) (k:=k+1) (e5:=vA (.int (r:Int))) (e6:=y6) (e7:=y7) (e8:=y8) (e9:=y9) (e10:=y10) (by omega);rw[acn];exact⟨z5,z6,z7,z8,z9,rR,cX rfl e1 e2⟩
theorem aaj (hh:h<=20) (hw:w<=20):sY a (dY 1) [tab w h T,bD w h M,.tup []]= .ok (.lst ((List.range h).map (vG w h T M)).reverse):=by
 obtain⟨z5,z6,z7,z8,z9,rR,e⟩:=Nx (a:=a) (w:=w) (T:=T) (M:=M) hh hw (r:=h) (k:=0) (e5:=none) (e6:=none) (e7:=none) (e8:=none) (e9:=none) (e10:=none) (by omega);have er:zK [.int (h:Int)]= .ok (dn h):=by
  show (if _ then _ else _)=_;rw[if_pos (by omega)];rfl
 refine oW (aK (pR rfl) (aK (iM ?_ e) (bJ ?_)))
 ·show ((ak (aB bZ (ak (gv 1) nA)) nA) _).bind zK=_;rw[aA (aV (aA rfl) pU)];exact er
 ·show Lh _ _=_;unfold Lh;rfl
end
section
variable {w h:Nat} {T:Nat->Nat->Nat->Int} {M:Nat->Nat->Int} {f:Nat->Nat->Int} {m:Str} {ρ:ao}
theorem aco (hh:h<=20) (hw:w<=20):qy [tab w h T,bD w h M,.int 1]= .ok (.lst ((List.range h).map (vG w h T M)).reverse):=by
 refine oW ?_;show (match allOf (λ x=>sY x (dY 1) [tab w h T,bD w h M,.tup []]) with | .ok r=>So.rt r |_=> .bad)=_;rw[ZL λ a=>aaj hh hw]
theorem XD {F:Nat->D}:((List.range h).map F).reverse=(List.range h).map λ y=>F (h - 1 - y):=by
 apply List.ext_getElem?;intro i;by_cases hi:i < h
 ·rw[List.getElem?_reverse (by simpa using hi),z2b,z2b,List.getElem?_range hi,z1g,z2d,List.getElem?_range (by omega)];rfl
 ·rw[List.getElem?_eq_none (by simp;omega),List.getElem?_eq_none (by simp;omega)]
def Mk (w h:Nat) (M:Nat->Nat->Int):Prop:=∀y x,0<=M y x/\M y x<=2
theorem acp:dX [.int i]= .ok (.bl true):=by rfl
theorem aee (h:i<=j):v9 (.int i) (.int j)= .ok (.bl true):=by
 show R.ok (D.bl (decide _))=_;rw[decide_eq_true h]
theorem UJ (h:0<=i/\i<=2):qM [.int i]= .ok (.bl true):=
 cC (bJ (ud (aW (aA rfl) acp) (zp rfl rfl (aee h.1) rfl (aee h.2))))
theorem aa7 {l:List α}:qT [.lst (l.map λ _=> .bl true)]= .ok (.bl true):=sS
theorem Gw {g:Nat->Int} (hw:w<=20) (hg:∀x,0<=g x/\g x<=2):jz [row w g,.int (w:Int)]= .ok (.bl true):=by
 refine cC (bJ (ud rfl (ud (au (aV (aA rfl) nQ) rfl (by rw[Gv,decide_eq_true rfl])) (aV (aA (bN (c:=λ x=>D.int (g x)) (h:=λ _=>D.bl true) (l:=List.range w) (iz rfl) (by rw[z2d];omega) λ x hx=>?_)) aa7))));exact cu rfl (aW (aA rfl) (UJ (hg x)))
theorem uc:kh (.int i) (.int i)= .ok (.bl false):=by rw[aa6,decide_eq_true rfl];rfl
theorem Qp (o:Ok w h f) (hM:Mk w h M):oN [bD w h M,bD w h f]= .ok (.bl true):=by
 have dU:=o.h2;refine cC (aK (cL (zq (iK (b:=true) (bf rfl)) (bf (au (aV (aA rfl) pU) (aV (aA rfl) pU) uc))) rfl) (bJ (aV (aA (bN (c:=λ y=>row w (M y)) (h:=λ _=>D.bl true) (l:=List.range h) (iz rfl) (by rw[z2d];omega) λ y hy=>?_)) aa7)));exact cu rfl (aW (aD rfl (aA (len0 o rfl))) (Gw o.w2 (hM y)))
theorem mul_one {d:D} (h1:1<=k) (dU:k<=20):qW (.tup [d]) (.int (k:Int))= .ok (.tup ((List.range k).map λ _=>d)):=by
 rw[qW,if_pos ⟨by simp,by omega,by omega,by simp;omega⟩];congr 2;rw[show ((k:Nat):Int).toNat=k by omega]
 clear h1 dU
 induction k with
 |zero=>rfl
 |succ k ih=>rw[List.replicate_succ,List.flatten_cons,ih,List.range_succ_eq_map,z1h,List.map_map];rfl
theorem Qq (o:Ok w h f):oM [bD w h f]= .ok (bD w h λ _ _=>0):=
 cC (bJ (au (dh (aA (au (dh (aA rfl)) (len0 o rfl) (mul_one o.w1 o.w2)))) (aV (aA rfl) pU) (mul_one o.h1 o.h2)))
theorem XF (o:Ok w h f):gq [.non,bD w h f]= .ok (bD w h λ _ _=>0):=
 cC (lR (gP (bf (b:=true) (au rfl rfl rfl)) (bJ (aW (aA rfl) (Qq o)))))
theorem XH (o:Ok w h f) (hM:Mk w h M):gq [bD w h M,bD w h f]= .ok (bD w h M):=
 cC (aK (cL (bf (b:=false) (au rfl rfl rfl)) rfl) (aK (cL (iK (b:=true) (bf (aW (aD rfl (aA rfl)) (Qp o hM)))) rfl) (bJ rfl)))
theorem aak (hm:m= "worth"\/m= "joins") (o:Ok w h f):jX [bD w h f,.str m]= .ok (tab w h (tbl m w h f)):=by
 rcases hm with rfl |rfl
 ·exact S7 o
 ·exact S8 o
theorem Tf {d:D} (hm:m= "worth"\/m= "joins") (o:Ok w h f) (e:gq [d,bD w h f]= .ok (bD w h M)):oO [bD w h f,.str m,d]= .ok (.tup [tab w h (tbl m w h f),bD w h M]):=
 cC (aK (jV (aW (aA rfl) (wK o))) (aK (jV (aW (aA rfl) (wN hm))) (aK (aZ (aW (aD rfl (aA rfl)) e) rfl) (bJ (dh (aD (aW (aD rfl (aA rfl)) (aak hm o)) (aA rfl)))))))
end
abbrev lt (a b:Wy):Bool:=fZ (fl a) (fl b)
section
variable {w h:Nat} {T:Nat->Nat->Nat->Int} {M:Nat->Nat->Int}
theorem XJ {c:Int}:lt (gB c a) (gB c b)=lt a b:=by
 obtain⟨a1,a2,a3⟩:=a;obtain⟨b1,b2,b3⟩:=b;simp only[lt,fl,gB,fZ];by_cases e1:a1=b1
 ·rw[if_pos e1,if_pos e1];by_cases e:a2=b2
  ·rw[if_pos (by omega),if_pos e]
  ·rw[if_neg (by omega),if_neg e];exact decide_eq_decide.mpr (by omega)
 ·rw[if_neg e1,if_neg e1]
theorem afP {c:Int}:lt (sb c a) (sb c b)=lt a b:=by
 obtain⟨a1,a2,a3⟩:=a;obtain⟨b1,b2,b3⟩:=b;simp only[lt,fl,sb,fZ];by_cases e:a1=b1
 ·rw[if_pos (by omega),if_pos e]
 ·rw[if_neg (by omega),if_neg e];exact decide_eq_decide.mpr (by omega)
theorem aef:lt (pre x a) (pre x b)=lt a b:=by
 obtain⟨a1,a2,a3⟩:=a;obtain⟨b1,b2,b3⟩:=b;simp only[lt,fl,pre,fZ,if_true]
theorem Ny {c:Wy} (h1:lt b a=false) (h2:lt c b=false):lt c a=false:=by
 cases z:lt c a with
 |false=>rfl
 | true=>
  by_cases e:fl b=fl a
  ·have h2:fZ (fl c) (fl b)=false:=h2;rw[e] at h2;exact h2.symm.trans z |>.symm
  ·have:=nM z (Bw e h1);exact (this.symm.trans h2)
theorem uE {cs:List Wy} (hn:(cs.map fl).Nodup) (hne:cs≠[]):∃v,cR cs=[v]/\v∈cs/\∀u∈cs,lt u v=false:=by
 have hr:=zM hn;cases es:lC (cs.map fl) with
 | nil=>
  have:=(jD (cs.map fl)).length_eq;rw[es,z1g] at this;exact absurd (List.length_eq_zero_iff.mp this.symm) hne
 | cons l ls=>
  have ef:cR cs=[un l]:=by unfold cR;rw[es];rfl
  rw[es] at hr;obtain⟨hr1,_⟩:=List.pairwise_cons.mp hr;have hl:l∈lC (cs.map fl):=by rw[es];exact List.mem_cons_self
  have hul:fl (un l)=l:=Nu l hl;refine⟨un l,ef,yh _ (by rw[ef];exact List.mem_cons_self),λ u hu=>?_⟩;have hm:fl u∈lC (cs.map fl):=(jD _).mem_iff.mpr (List.mem_map_of_mem hu);rw[es] at hm;show fZ (fl u) (fl (un l))=false;rw[hul];rcases List.mem_cons.mp hm with z |z
  ·rw[z];exact sV _
  ·cases q:fZ (fl u) l with
   |false=>rfl
   |true=>have:=nM q (hr1 _ z);rw[sV] at this;cases this
def vl (T:Nat->Nat->Nat->Int) (M:Nat->Nat->Int):Nat->List Nat->Wy
 |_,[]=>(0,0,[])
 |y,[x]=>sb (eU (M y x)) (pre x (0,0,[]))
 |y,x::p::l=>sb (eU (M y x)) (pre x (gB (T (y+1) p (x+1 - p)) (vl T M (y+1) (p::l))))
def Pa (w:Nat) (M:Nat->Nat->Int):Nat->List Nat->Prop
 |_,[]=>True
 |y,[x]=>x < w/\M y x≠1
 |y,x::p::l=>x < w/\M y x≠1/\p<=x+1/\x<=p+1/\Pa w M (y+1) (p::l)
theorem Pa.lt {l:List Nat} (h:Pa w M y (x::l)):x < w:=by
 cases l with
 |nil=>exact h.1
 |cons p l=>exact h.1
theorem Pa.ne {l:List Nat} (h:Pa w M y (x::l)):M y x≠1:=by
 cases l with
 |nil=>exact h.2
 |cons p l=>exact h.2.1
theorem Tg {cs:List Wy} {t:Wy} (h:t∈lK x m cs):m≠1:=λ e=>by
 unfold lK at h;rw[if_pos e] at h;cases h
theorem XM {h:Nat} (hk:k+1 < h):h - 1 - k=h - 1 - (k+1)+1:=by omega
theorem Km:∀{k x:Nat} {t:Wy},x < w->k < h->t∈pC w h T M k x->∃l,l.length=k/\Pa w M (h - 1 - k) (x::l)/\t=vl T M (h - 1 - k) (x::l)
 | 0,x,t,hx,hk,ht=>by
  obtain⟨u,hu,e⟩:=nu ht;have hu:u=(0,0,[]):=by simpa[pB] using hu
  subst hu;exact⟨[],rfl,⟨hx,Tg ht⟩,e⟩
 | k+1,x,t,hx,hk,ht=>by
  obtain⟨u,hu,e⟩:=nu ht;have hm:=Tg ht;rw[pX] at hu;obtain⟨p,hp,hu⟩:=List.mem_flatMap.mp hu;obtain⟨v,hv,rfl⟩:=List.mem_map.mp hu;obtain⟨h1,h2,h3⟩:=(wO hx).mp hp;obtain⟨l,hl,hP,hvl⟩:=Km h1 (by omega) hv;have ey:h - 1 - k=h - 1 - (k+1)+1:=XM hk;rw[ey] at hP hvl e;exact⟨p::l,by rw[List.length_cons,hl],⟨hx,hm,h2,h3,hP⟩,by rw[e,hvl];rfl⟩
theorem Ko {cs:List Wy} {v:Wy} (hm:m≠1) (e:cR cs=[v]):lK x m cs=[sb (eU m) (pre x v)]:=by
 unfold lK;rw[if_neg hm,e];rfl
theorem Kp:∀{k x:Nat} {l:List Nat},l.length=k->k < h->Pa w M (h - 1 - k) (x::l)->∃t∈pC w h T M k x,lt (vl T M (h - 1 - k) (x::l)) t=false
 | 0,x,l,hl,hk,hP=>by
  cases List.length_eq_zero_iff.mp hl;obtain⟨v,ev,hv,_⟩:=uE (Nv (w:=w) (h:=h) (T:=T) (M:=M) (k:=0) (x:=x)) (by simp[pB]);have hv:v=(0,0,[]):=by simpa[pB] using hv
  subst hv;exact⟨_,by unfold pC;rw[Ko hP.ne ev];exact List.mem_cons_self,sV _⟩
 | k + 1,x,l,hl,hk,hP=>by
  cases l with
  |nil=>cases hl
  | cons p l=>
   have ey:h - 1 - k=h - 1 - (k+1)+1:=XM hk;obtain⟨hx,hm,h2,h3,hP'⟩:=hP;have hl:l.length=k:=by simpa using hl
   rw[<-ey] at hP';obtain⟨t,ht,hlt⟩:=Kp hl (by omega) hP';have hu:gB (T (h - 1 - k) p (x+1 - p)) t∈pB w h T M (k+1) x:=by
    rw[pX];exact List.mem_flatMap.mpr ⟨p,(wO hx).mpr ⟨hP'.lt,h2,h3⟩,List.mem_map_of_mem ht⟩
   obtain⟨v,ev,hv,hle⟩:=uE (Nv (w:=w) (h:=h) (T:=T) (M:=M) (k:=k+1) (x:=x)) (List.ne_nil_of_mem hu);refine⟨_,by unfold pC;rw[Ko hm ev];exact List.mem_cons_self,?_⟩;show lt (sb _ (pre x (gB (T (h - 1 - (k+1)+1) p (x+1 - p)) (vl T M (h - 1 - (k+1)+1) (p::l))))) _=false;rw[afP,aef,<-ey];exact Ny (hle _ hu) (by rw[XJ];exact hlt)
def topC (w h:Nat) (T:Nat->Nat->Nat->Int) (M:Nat->Nat->Int):List Wy:=(List.range w).flatMap λ x=>(pC w h T M (h - 1) x).map (gB (T 0 x 1))
theorem aal:(topC w h T M).length<=w:=by
 have:=Ed (F:=λ x=>(pC w h T M (h - 1) x).map (gB (T 0 x 1))) (l:=List.range w) λ p _=>by rw[z1g];exact pY
 rw[z2d] at this;exact this
theorem Ti:((topC w h T M).map fl).Nodup:=by
 unfold topC List.Nodup;rw[List.pairwise_map,List.pairwise_flatMap];refine⟨λ p _=>?_,?_⟩
 ·have hl:((pC w h T M (h - 1) p).map (gB (T 0 p 1))).length<=1:=by rw[z1g];exact pY
  match (pC w h T M (h - 1) p).map (gB (T 0 p 1)),hl with
  |[],_=>exact .nil
  |[_],_=>simp
  |_::_::_,hl=>simp at hl
 ·have nd:(List.range w).Nodup:=List.nodup_range;refine nd.imp λ {p q} hpq t ht u hu z=>?_;obtain⟨t',ht',rfl⟩:=List.mem_map.mp ht;obtain⟨u',hu',rfl⟩:=List.mem_map.mp hu;obtain⟨t2,_,rfl⟩:=nu ht';obtain⟨u2,_,rfl⟩:=nu hu';have:=Xw z;have h2:((p:Nat):Int)::t2.2.2=((q:Nat):Int)::u2.2.2:=congrArg (λ t:Wy=>t.2.2) this;have h3:((p:Nat):Int)=((q:Nat):Int):=(List.cons.inj h2).1;exact hpq (by omega)
def gn (M:Nat->Nat->Int) (h:Nat) (s:Nat->Nat):Int:=((List.range h).map λ y=>eU (M y (s y))).sum
def wS (T:Nat->Nat->Nat->Int) (M:Nat->Nat->Int) (h:Nat) (s:Nat->Nat):Wy:=(-gn M h s,cost h T s,(List.range h).map λ y=>((s y:Nat):Int))
structure Nz (w h:Nat) (M:Nat->Nat->Int) (s:Nat->Nat):Prop where
 sm:mq w h s
 ne:∀y < h,M y (s y)≠1
theorem aeg {s:Nat->Nat}:∀{k y:Nat},vl T M y ((List.range' y (k+1)).map s)=(-((List.range' y (k+1)).map λ y=>eU (M y (s y))).sum,((List.range' (y+1) k).map λ y=>fare T s y).sum,(List.range' y (k+1)).map λ y=>((s y:Nat):Int))
 | 0,y=>by
  show (0 - eU (M y (s y)),(0:Int),[((s y:Nat):Int)])=(-(eU (M y (s y))+0),0,[((s y:Nat):Int)]);rw[show 0 - eU (M y (s y))= -(eU (M y (s y))+0) by omega]
 | k +1,y=>by
  have ih:=aeg (s:=s) (k:=k) (y:=y+1);rw[List.range'_succ (s:=y),z1h,z1h,z1h,List.sum_cons];rw[List.range'_succ (s:=y+1),z1h,z1h,z1h,List.sum_cons] at ih |-;show sb _ (pre _ (gB _ (vl T M (y+1) _)))=_;rw[ih];simp only[sb,pre,gB];refine Prod.ext ?_ (Prod.ext ?_ rfl)
  ·show -_ - eU _= -_;omega
  ·rw[z1h,List.sum_cons];show _+T (y+1) (s (y+1)) (s y+1 - s (y+1))=T (y+1) (s (y+1)) (s y+1 - s (y+1))+_;rw[Int.add_comm]
theorem aeh (h1:1<=h):gB (T 0 (s 0) 1) (vl T M 0 ((List.range h).map s))=wS T M h s:=by
 obtain⟨k,rfl⟩:∃k,h=k+1:=⟨h - 1,by omega⟩;rw[List.range_eq_range',aeg];simp only[gB,wS,gn,cost];refine Prod.ext ?_ (Prod.ext ?_ ?_)
 ·rw[List.range_eq_range']
 ·show ((List.range' (0+1) k).map λ y=>fare T s y).sum+T 0 (s 0) 1=T 0 (s 0) 1+((List.range (k+1 - 1)).map λ y=>fare T s (y+1)).sum;rw[Int.add_comm,Nat.add_sub_cancel,List.range'_eq_map_range,List.map_map];congr 3;funext i;show fare T s (0+1+i)=fare T s (i+1);rw[show 0+1+i=i+1 by omega]
 ·rw[List.range_eq_range']
theorem aei {s : Nat -> Nat} : ∀ {k y : Nat},Pa w M y ((List.range' y (k+1)).map s)↔(∀z,y<=z->z<=y+k->s z < w/\M z (s z)≠1)/\∀z,y<=z->z < y+k->s (z+1)<=s z+1/\s z<=s (z+1)+1
 | 0, y => ⟨λ h => ⟨λ z h1 h2 => by have:z=y:=by omega
                                    subst this;exact h,λ z h1 h2=>by omega⟩,λ h=>h.1 y (z0g _) (z0g _)⟩
 | k + 1,y=>by
  have ih:=aei (s:=s) (k:=k) (y:=y+1);rw[List.range'_succ (s:=y),z1h];rw[List.range'_succ (s:=y+1),z1h] at ih |-;constructor
  ·rintro⟨h1,h2,h3,h4,h5⟩
   obtain⟨q1,q2⟩:=ih.mp h5;refine⟨λ z z1 z2=>?_,λ z z1 z2=>?_⟩
   ·by_cases e:z=y
    ·subst e;exact⟨h1,h2⟩
    ·exact q1 z (by omega) (by omega)
   ·by_cases e:z=y
    ·subst e;exact⟨h3,h4⟩
    ·exact q2 z (by omega) (by omega)
  ·rintro⟨q1,q2⟩
   have a:=q1 y (z0g _) (by omega);have b:=q2 y (z0g _) (by omega);exact⟨a.1,a.2,b.1,b.2,ih.mpr ⟨λ z z1 z2=>q1 z (by omega) (by omega),λ z z1 z2=>q2 z (by omega) (by omega)⟩⟩
theorem XQ (h1:1<=h):Pa w M 0 ((List.range h).map s)↔Nz w h M s:=by
 obtain⟨k,rfl⟩:∃k,h=k+1:=⟨h - 1,by omega⟩;rw[List.range_eq_range',aei];constructor
 ·rintro⟨a,b⟩
  exact⟨⟨λ y hy=>(a y (by omega) (by omega)).1,λ y hy=>b y (by omega) (by omega)⟩,λ y hy=>(a y (by omega) (by omega)).2⟩
 ·rintro⟨⟨a,b⟩,c⟩
  exact⟨λ z _ z2=>⟨a z (by omega),c z (by omega)⟩,λ z _ z2=>b z (by omega)⟩
theorem acq (l:List Nat):∃s:Nat->Nat,l=(List.range l.length).map s:=
 ⟨λ y=>l.getD y 0,by
  apply List.ext_getElem?;intro i;rw[z2b];by_cases hi:i < l.length
  ·rw[List.getElem?_range hi];simp[hi]
  ·rw[List.getElem?_eq_none (by omega),List.getElem?_eq_none (by simp;omega)];rfl⟩
theorem acr (h1:1<=h) {t:Wy} (ht:t∈topC w h T M):∃s,Nz w h M s/\t=wS T M h s:=by
 obtain⟨x,hx,hu⟩:=List.mem_flatMap.mp ht;obtain⟨u,hv,rfl⟩:=List.mem_map.mp hu;obtain⟨l,hl,hP,rfl⟩:=Km (k:=h - 1) (h:=h) (z2e hx) (by omega) hv;rw[show h - 1 - (h - 1)=0 by omega] at hP |-;obtain⟨s,hs⟩:=acq (x::l);have hlen:(x::l).length=h:=by rw[List.length_cons,hl];omega
 rw[hlen] at hs;have h0:s 0=x:=by
  obtain⟨k,rfl⟩:∃k,h=k+1:=⟨h - 1,by omega⟩;rw[List.range_succ_eq_map,z1h] at hs;exact (List.cons.inj hs).1.symm
 rw[hs] at hP |-;refine⟨s,(XQ h1).mp hP,?_⟩;rw[<-aeh h1,h0]
theorem XR (h1:1<=h) (q:Nz w h M s):∃t∈topC w h T M,lt (wS T M h s) t=false:=by
 have hP:=(XQ h1).mpr q;rw[<-aeh h1];obtain⟨k,rfl⟩:∃k,h=k+1:=⟨h - 1,by omega⟩;have e:(List.range (k+1)).map s=s 0::(List.range k).map λ y=>s (y+1):=by
  rw[List.range_succ_eq_map,z1h,List.map_map];rfl
 rw[e] at hP |-;obtain⟨t,ht,hl⟩:=Kp (w:=w) (h:=k+1) (T:=T) (M:=M) (k:=k+1 - 1) (x:=s 0) (l:=(List.range k).map λ y=>s (y+1)) (by simp) (by omega) (by rw[show k+1 - 1 - (k+1 - 1)=0 by omega];exact hP);rw[show k+1 - 1 - (k+1 - 1)=0 by omega] at hl;exact⟨_,List.mem_flatMap.mpr ⟨s 0,List.mem_range.mpr (q.sm.lt 0 (by omega)),List.mem_map_of_mem ht⟩,by rw[XJ];exact hl⟩
def Bst (w h:Nat) (T:Nat->Nat->Nat->Int) (M:Nat->Nat->Int) (s:Nat->Nat):Prop:=Nz w h M s/\∀s',Nz w h M s'->lt (wS T M h s') (wS T M h s)=false
theorem least (h1:1<=h):(cR (topC w h T M)=[]/\∀s,¬Nz w h M s)\/∃s,cR (topC w h T M)=[wS T M h s]/\Bst w h T M s:=by
 by_cases hne:topC w h T M=[]
 ·left;refine⟨by rw[hne];rfl,λ s q=>?_⟩;obtain⟨t,ht,_⟩:=XR (T:=T) h1 q;rw[hne] at ht;cases ht
 ·right;obtain⟨v,ev,hv,hle⟩:=uE Ti hne;obtain⟨s,q,rfl⟩:=acr h1 hv;refine⟨s,ev,q,λ s' q'=>?_⟩;obtain⟨t,ht,hl⟩:=XR (T:=T) h1 q';exact Ny (hle t ht) hl
end
section
variable {w h:Nat} {T:Nat->Nat->Nat->Int} {M:Nat->Nat->Int} {f:Nat->Nat->Int} {m:Str} {ρ:ao}
def aej:ao->So:=(aO (bB (aB (aQ dN 3) (ak (bin (gv 0) (ci 0) bF) (ak (gv 3) (ak (gv 3) nA)))) (aF 5)) (xX 2 (bA 3 [5] (cU (gv 4)) (cZ (c7 3 (aX (aF 0) (aX (aF 1) (aX (aF 2) nilG))))) tT (eE (ak (gv 0) (ak (bin (gv 1) (gv 3) cH) (ak (gv 2) nA)))))))
theorem acs (h1:1<=h) {C:Nat->List Wy} (hx:x < w) (hC:(C x).length<=1) (hl:acc.length<=1000):
  aej [vA (tab w h T),e1,some (.lst acc),vA (.int (x:Int)),vA (cP (C x)),e5]= .nx [vA (tab w h T),e1,some (.lst (acc++((C x).map (gB (T 0 x 1))).map gK)),vA (.int (x:Int)),vA (cP (C x)),vA (.int (T 0 x 1))]:=by
 have e0:dN [.lst ((List.range w).map λ x=>eO (T 0 x)),.int (x:Int),.int (x:Int)]= .ok (.int (T 0 x 1)):=by
  have:=rZ (T:=T 0 x) (p:=λ x=>eO (T 0 x)) (a:=x) (b:=x) hx (by omega) (by omega) rfl
  rwa [show x+1 - x=1 by omega] at this
 refine aK (aZ (aW (aD (au rfl rfl (gA (α:=D) (x:=0) h1)) (aD rfl (aA rfl))) e0) rfl) ?_;refine (BP (ds:=acc) rfl (bN (c:=gK) (h:=λ t=>gK (gB (T 0 x 1) t)) (l:=C x) (iB rfl) (by omega) λ t ht=>?_) (by simp;omega)).trans ?_
 ·exact cu rfl (dh (aD rfl (aD (x:= .int (t.2.1+T 0 x 1)) (au rfl rfl rfl) (aA rfl))))
 ·rw[List.map_map];rfl
theorem NK (h1:1<=h) {C:Nat->List Wy} (hC:∀p,(C p).length<=1) {e1:Option Ent}:∀{ps:List Nat} {acc:List D} {e3 e4 e5:Option Ent},(∀p∈ps,p < w)->acc.length+ps.length<=1000->
  ∃ z3 z4 z5,forL (cZ (c7 2 (aX (aF 3) (aX (aF 4) nilG)))) aej (ps.map λ (p:Nat)=>D.tup [.int (p:Int),cP (C p)]) [vA (tab w h T),e1,some (.lst acc),e3,e4,e5] =
   .nx [vA (tab w h T),e1,some (.lst (acc++(ps.flatMap λ p=>(C p).map (gB (T 0 p 1))).map gK)),z3,z4,z5]
 |[],acc,e3,e4,e5,_,_=>⟨e3,e4,e5,by simp[forL]⟩
 | p::ps,acc,e3,e4,e5,hp,hl=>by
  rw[List.length_cons] at hl;have hpw:=hp p (by simp);have hc:=hC p;obtain⟨z3,z4,z5,e⟩:=NK h1 hC (e1:=e1) (ps:=ps) (acc:=acc++((C p).map (gB (T 0 p 1))).map gK) (e3:=vA (.int (p:Int))) (e4:=vA (cP (C p))) (e5:=vA (.int (T 0 p 1))) (λ q hq=>hp q (by simp[hq])) (by simp;omega);refine⟨z3,z4,z5,cX rfl (acs h1 hpw hc (by omega)) (e.trans ?_)⟩;rw[List.flatMap_cons,List.map_append,List.append_assoc]
theorem Qs (h1:1<=h) (hw:w<=20):oR [tab w h T,.lst ((List.range h).map λ y=>vG w h T M (h - 1 - y))]= .ok (.lst ((topC w h T M).map gK)):=by
 obtain⟨z3,z4,z5,e⟩:=NK (T:=T) h1 (C:=pC w h T M (h - 1)) (λ p=>pY) (e1:=vA (.lst ((List.range h).map λ y=>vG w h T M (h - 1 - y)))) (ps:=List.range w) (acc:=[]) (e3:=none) (e4:=none) (e5:=none) (λ p hp=>z2e hp) (by simp;omega);exact cC (aK (pR rfl) (aK (iM (sZ (p:=λ p=>cP (pC w h T M (h - 1) p)) (aA (au rfl rfl (gA (α:=D) (x:=0) h1))) rfl) e) (bJ rfl)))
theorem UL {cs:List Wy} (hl:cs.length < 64) (hn:(cs.map fl).Nodup) {v:ao->R (Option Int)} (e:u ρ= .ok (.lst (cs.map gK))) (e0:v ρ= .ok (some 1)):nJ (aB oK (ak u nA)) (λ _=> .ok none) v ρ= .ok (.lst ((cR cs).map gK)):=by
 have e1:oK [.lst (cs.map gK)]= .ok (.lst ((lC (cs.map fl)).map jr)):=by
  rw[oK,yg];show (if _ then _ else _)=_;rw[if_pos ⟨by simpa using hl,hn⟩]
 have e2:j9 ((lC (cs.map fl)).map jr) none (some 1)=(cR cs).map gK:=by
  have e3:∀{n d:Nat},HT.sIx n d (some 1)=min 1 n:=λ {n d}=>by
   show (if (1:Int) < 0 then ((1:Int)+(n:Int)).toNat else min (1:Int).toNat n)=min 1 n;rw[if_neg (by decide)];rfl
  rw[j9,e3,Gu,Nat.sub_zero,List.drop_zero,<-List.map_take];have e4:∀l:List (List Int),l.take (min 1 (l.map jr).length)=l.take 1:=λ l=>by cases l <;> simp
  rw[e4];unfold cR;rw[List.map_map];refine List.map_congr_left λ l hl=>?_;show jr l=gK (un l);rw[Ec,Nu l (List.mem_of_mem_take hl)]
 unfold nJ;rw[aV (aA e) e1,e0];show R.ok (D.lst (j9 _ none (some 1)))=_;rw[e2]
theorem Ji (h1:1<=h) (hh:h<=20) (hw:w<=20):m7 [tab w h T,bD w h M,.int 1]= .ok (.lst ((cR (topC w h T M)).map gK)):=by
 have hl:=aal (w:=w) (h:=h) (T:=T) (M:=M);exact oW (bJ (UL (by omega) Ti (aW (aD rfl (aA (aW (aD rfl (aD rfl (aA rfl))) ((aco hh hw).trans (by rw[XD]))))) (Qs h1 hw)) rfl))
def lwD:List Wy->D
 |[]=> .non
 |t::_=> .tup [.int t.2.1,.tup (t.2.2.map .int)]
def lsD:List Wy->D
 |[]=> .non
 |t::_=> .tup (t.2.2.map .int)
theorem NP (h1:1<=h) (hh:h<=20) (hw:w<=20):qz [tab w h T,bD w h M]= .ok (lwD (cR (topC w h T M))):=by
 have e:=Ji (T:=T) (M:=M) h1 hh hw;have hl:=su (cs:=topC w h T M)
 match cR (topC w h T M),e,hl with
 |[],e,_=>exact oW (aK (aZ (aW (aD rfl (aD rfl (aA rfl))) e) rfl) (lR (gP (iK (BR (ds:=[]) rfl)) (bJ rfl))))
 |[t],e,_=>exact oW (aK (aZ (aW (aD rfl (aD rfl (aA rfl))) e) rfl) (aK (cL (iK (BR (ds:=[gK t]) rfl)) rfl) (aK (aZ (d:=gK t) (au (y:= .int 0) rfl rfl (LQ (i:=0) rfl)) rfl) (bJ (dh (aD rfl (aA rfl)))))))
 |_::_::_,_,hl=>simp at hl
theorem yV {d:D} (hm:m= "worth"\/m= "joins") (o:Ok w h f) (e:gq [d,bD w h f]= .ok (bD w h M)):jA [bD w h f,.str m,d]= .ok (lsD (cR (topC w h (tbl m w h f) M))):=by
 have e1:=NP (T:=tbl m w h f) (M:=M) o.h1 o.h2 o.w2
 match cR (topC w h (tbl m w h f) M),e1 with
 |[],e1=>exact oW (aK (aZ (aW (aD rfl (aD rfl (aA rfl))) (Tf hm o e)) rfl) (aK (aZ (aW (aD rfl (aA rfl)) e1) rfl) (lR (gP (bf (b:=true) (au rfl rfl rfl)) (bJ rfl)))))
 |t::r,e1=>exact oW (aK (aZ (aW (aD rfl (aD rfl (aA rfl))) (Tf hm o e)) rfl) (aK (aZ (aW (aD rfl (aA rfl)) e1) rfl) (aK (cL (bf (b:=false) (au rfl rfl rfl)) rfl) (bJ (d:=lsD (t::r)) (au (y:= .int 1) rfl rfl (oA (i:=1) rfl))))))
end
end nP
namespace nP
open PySem PySem.Spec L2 Pu
open Fl (inn out)
variable {y x:Nat}
section
variable {w h k:Nat} {C:Nat->Nat->Int} {T:Nat->Nat->Bool} {s:Nat->Nat->Nat} {ρ:ao}
theorem yj {a b:Nat} (h:a < 2 ^ 64):qW (.int (a:Int)) (.int (b:Int))= .ok (.int ((a*b:Nat):Int)):=by
 show iC (.int (a:Int)) (.int (b:Int))=_;rw[mL (.inl ⟨by omega,by omega⟩),Int.natCast_mul]
theorem BW (hy:y<=20):f9 [.int (x:Int),.int (y:Int),.int (w:Int)]= .ok (.int ((inn w x y:Nat):Int)):=
 cC (bJ (au rfl (au (y:= .int 1) (au (au rfl rfl (yj (a:=y) (b:=w) (by omega))) rfl rfl) rfl rfl) (yj (a:=2) (b:=y*w+x+1) (by omega))))
abbrev Ar:=Nat×Nat×Int
def eV (a:Ar):D:= .tup [.int (a.1:Int),.int (a.2.1:Int),.int a.2.2]
def cJ (w h:Nat) (T:Nat->Nat->Bool):List (List Bool):=(List.range h).map λ y=>(List.range w).map λ x=>T x y
theorem wQ:tk (cJ w h T)= .lst ((List.range h).map λ y=> .lst ((List.range w).map λ x=> .bl (T x y))):=by
 unfold tk cJ;rw[List.map_map];refine congrArg D.lst (List.map_congr_left λ y _=>?_);show D.lst (((List.range w).map λ x=>T x y).map D.bl)=_;rw[List.map_map];rfl
theorem UW (hy:y < h):bF (tk (cJ w h T)) (.int (y:Int))= .ok (.lst ((List.range w).map λ x=> .bl (T x y))):=by
 rw[wQ];exact gA (α:=Nat) hy
def cA (w h:Nat) (C:Nat->Nat->Int) (T:Nat->Nat->Bool) (y x:Nat):List Ar:=
 (if T x y=true then [] else [(inn w x y,out w x y,C y x)])++if y+1 < h then (nr w x).map λ p=>(out w x y,inn w p (y+1),0) else [(out w x y,1,0)]
theorem NQ:(cA w h C T y x).length<=4:=by
 unfold cA;rw[z1d];have:=Ag (w:=w) (x:=x);split <;> split <;> simp <;> omega
def Tj {a b:Nat}:ltI (.int (a:Int)) (.int (b:Int))= .ok (.bl (decide (a < b))):=by
 show R.ok (D.bl (decide ((a:Int) < (b:Int))))=_;simp
theorem aek (hy:y < h) (hx:x < w) (dU:h<=20) (w20:w<=20) {acc:List D} (hl:acc.length+4<=1000000) {e8:Option Ent}:
  adI [vA (bD w h C),vA (tk (cJ w h T)),vA (.int (w:Int)),some (.lst acc),vA (.int (y:Int)),vA (row w (C y)),vA (.int (x:Int)),vA (.int (C y x)),e8] =
   .nx [vA (bD w h C),vA (tk (cJ w h T)),vA (.int (w:Int)),some (.lst (acc++(cA w h C T y x).map eV)),vA (.int (y:Int)),vA (row w (C y)),vA (.int (x:Int)),vA (.int (C y x)),vA (.int ((inn w x y:Nat):Int))]:=by
 refine aK (ρ':=[vA (bD w h C),vA (tk (cJ w h T)),vA (.int (w:Int)),some (.lst acc),vA (.int (y:Int)),vA (row w (C y)),vA (.int (x:Int)),vA (.int (C y x)),vA (.int ((inn w x y:Nat):Int))]) (aZ (aW (aD rfl (aD rfl (aA rfl))) (BW (by omega))) rfl) ?_;refine aK (ρ':=[vA (bD w h C),vA (tk (cJ w h T)),vA (.int (w:Int)),some (.lst (acc++(if T x y=true then [] else [(inn w x y,out w x y,C y x)]).map eV)),vA (.int (y:Int)),vA (row w (C y)),vA (.int (x:Int)),vA (.int (C y x)),vA (.int ((inn w x y:Nat):Int))]) ?_ ?_
 ·have e:(kI (bU (bin (bin (gv 1) (gv 4) bF) (gv 6) bF))) (cG [vA (bD w h C),vA (tk (cJ w h T)),vA (.int (w:Int)),some (.lst acc),vA (.int (y:Int)),vA (row w (C y)),vA (.int (x:Int)),vA (.int (C y x)),vA (.int ((inn w x y:Nat):Int))])= .ok (!T x y):=
   iK (bf (au (au rfl rfl (UW hy)) rfl (gA (α:=Nat) (p:=λ x=>D.bl (T x y)) hx)))
  cases t:T x y with
  | true=>
   rw[t] at e;rw[if_pos rfl,List.map_nil,List.append_nil];exact cL e rfl
  | false=>
   rw[t] at e;rw[if_neg Bool.false_ne_true];exact gP e (Af (dh (aD rfl (aD (x:= .int ((out w x y:Nat):Int)) (au rfl rfl rfl) (aA rfl)))) rfl (by omega))
 ·have hl2:(acc++(if T x y=true then [] else [(inn w x y,out w x y,C y x)]).map eV).length<=acc.length+1:=by
   rw[z1d];split <;> simp
  generalize ha:acc++(if T x y=true then [] else [(inn w x y,out w x y,C y x)]).map eV=ael at hl2
  have e:(bU (bin (bin (gv 4) (ci 1) cH) (aB bZ (ak (gv 0) nA)) ltI)) (cG [vA (bD w h C),vA (tk (cJ w h T)),vA (.int (w:Int)),some (.lst ael),vA (.int (y:Int)),vA (row w (C y)),vA (.int (x:Int)),vA (.int (C y x)),vA (.int ((inn w x y:Nat):Int))])= .ok (decide (y+1 < h)):=
   bf (au (x:= .int ((y+1:Nat):Int)) (au rfl rfl rfl) (aV (aA rfl) pU) Tj)
  have ec:(acc++(cA w h C T y x).map eV)=ael++(if y+1 < h then (nr w x).map λ p=>(out w x y,inn w p (y+1),0) else [(out w x y,1,0)]).map eV:=by
   rw[<-ha];unfold cA;rw[List.map_append,List.append_assoc]
  rw[ec];by_cases hy1:y+1 < h
  ·rw[decide_eq_true hy1] at e;rw[if_pos hy1];refine gP e (BP rfl ?_ (es:=((nr w x).map λ p=>((out w x y,inn w p (y+1),0):Ar)).map eV) ?_)
   ·rw[List.map_map];refine bN (l:=nr w x) (c:=λ (p:Nat)=>D.int (p:Int)) (iB (aW (aD rfl (aA rfl)) (Tc hx w20))) (by have:=Ag (w:=w) (x:=x);omega) λ p hp=>?_;exact cu rfl (dh (aD (x:= .int ((out w x y:Nat):Int)) (au rfl rfl rfl) (aD (aW (aD rfl (aD (x:= .int ((y+1:Nat):Int)) (au rfl rfl rfl) (aA rfl))) (BW (by omega))) (aA rfl))))
   ·rw[z1g,z1g];have:=Ag (w:=w) (x:=x);omega
  ·rw[decide_eq_false hy1] at e;rw[if_neg hy1];exact cL e (Af (dh (aD (x:= .int ((out w x y:Nat):Int)) (au rfl rfl rfl) (aD rfl (aA rfl)))) rfl (by omega))
theorem NT {y:Nat} (hy:y < h) (dU:h<=20) (w20:w<=20):∀{xs:List Nat} {acc:List D} {e6 e7 e8:Option Ent},(∀x∈xs,x < w)->acc.length+4*xs.length<=1000000->
  ∃ lM qO Gx,forL (cZ (c7 2 (aX (aF 6) (aX (aF 7) nilG)))) adI (xs.map λ (x:Nat)=>D.tup [.int (x:Int),.int (C y x)]) [vA (bD w h C),vA (tk (cJ w h T)),vA (.int (w:Int)),some (.lst acc),vA (.int (y:Int)),vA (row w (C y)),e6,e7,e8] =
   .nx [vA (bD w h C),vA (tk (cJ w h T)),vA (.int (w:Int)),some (.lst (acc++(xs.flatMap (cA w h C T y)).map eV)),vA (.int (y:Int)),vA (row w (C y)),lM,qO,Gx]
 |[],acc,e6,e7,e8,_,_=>⟨e6,e7,e8,by rw[List.flatMap_nil,List.map_nil,List.map_nil,List.append_nil];rfl⟩
 | x::xs,acc,e6,e7,e8,hx,hl=>by
  rw[List.length_cons] at hl;have hc:=NQ (w:=w) (h:=h) (C:=C) (T:=T) (y:=y) (x:=x);obtain⟨lM,qO,Gx,e⟩:=NT hy dU w20 (xs:=xs) (acc:=acc++(cA w h C T y x).map eV) (e6:=vA (.int (x:Int))) (e7:=vA (.int (C y x))) (e8:=vA (.int ((inn w x y:Nat):Int))) (λ z hz=>hx z (z2f _ hz)) (by rw[z1d,z1g];omega);refine⟨lM,qO,Gx,?_⟩;rw[z1h,List.flatMap_cons,List.map_append,<-List.append_assoc];exact cX rfl (aek hy (hx x (List.mem_cons_self ..)) dU w20 (by omega)) e
theorem jm {α β:Type} {f:α->List β} {m:Nat}:∀{l:List α},(∀a∈l,(f a).length<=m)->(l.flatMap f).length<=m*l.length
 |[],_=>Nat.zero_le _
 | a::l,hf=>by
  rw[List.flatMap_cons,z1d,List.length_cons,Nat.mul_succ];have h1:=hf a (List.mem_cons_self ..);have h2:=jm (l:=l) λ b hb=>hf b (z2f _ hb);omega
theorem Tn (dU:h<=20) (w20:w<=20):∀{ys:List Nat} {acc:List D} {e4 e5 e6 e7 e8:Option Ent},(∀y∈ys,y < h)->acc.length+80*ys.length<=1000000->
  ∃ e4' e5' lM qO Gx,forL (cZ (c7 2 (aX (aF 4) (aX (aF 5) nilG)))) adO (ys.map λ (y:Nat)=>D.tup [.int (y:Int),row w (C y)]) [vA (bD w h C),vA (tk (cJ w h T)),vA (.int (w:Int)),some (.lst acc),e4,e5,e6,e7,e8] =
   .nx [vA (bD w h C),vA (tk (cJ w h T)),vA (.int (w:Int)),some (.lst (acc++(ys.flatMap λ y=>(List.range w).flatMap (cA w h C T y)).map eV)),e4',e5',lM,qO,Gx]
 |[],acc,e4,e5,e6,e7,e8,_,_=>⟨e4,e5,e6,e7,e8,by rw[List.flatMap_nil,List.map_nil,List.map_nil,List.append_nil];rfl⟩
 | y ::ys,acc,e4,e5,e6,e7,e8,hy,hl=>by
  rw[List.length_cons] at hl;have hf:((List.range w).flatMap (cA w h C T y)).length<=4*w:=by
   have:=jm (f:=cA w h C T y) (m:=4) (l:=List.range w) λ _ _=>NQ;rw[z2d] at this;exact this
  obtain⟨a6,a7,a8,e1⟩:=NT (C:=C) (T:=T) (hy y (List.mem_cons_self ..)) dU w20 (xs:=List.range w) (acc:=acc) (e6:=e6) (e7:=e7) (e8:=e8) (λ x hx=>z2e hx) (by rw[z2d];omega);obtain⟨b4,b5,b6,b7,b8,e2⟩:=Tn dU w20 (ys:=ys) (acc:=acc++((List.range w).flatMap (cA w h C T y)).map eV) (e4:=vA (.int (y:Int))) (e5:=vA (row w (C y))) (e6:=a6) (e7:=a7) (e8:=a8) (λ z hz=>hy z (z2f _ hz)) (by rw[z1d,z1g];omega);refine⟨b4,b5,b6,b7,b8,?_⟩;rw[z1h,List.flatMap_cons,List.map_append,<-List.append_assoc];exact cX rfl (iM (sZ (aA rfl) (n:=w) (p:=λ x=>D.int (C y x)) rfl) e1) e2
def AD (w h:Nat) (C:Nat->Nat->Int) (T:Nat->Nat->Bool):List Ar:=((List.range w).map λ x=>(0,inn w x 0,0))++(List.range h).flatMap λ y=>(List.range w).flatMap (cA w h C T y)
theorem Gy (h1:1<=h) {ρ:ao} {u:ao->R D} (e:u ρ= .ok (bD w h C)):aB bZ (ak (bin u (ci 0) bF) nA) ρ= .ok (.int (w:Int)):=
 aV (aA (au (y:= .int ((0:Nat):Int)) e rfl (Ad (by omega)))) nQ
theorem NZ {f:ao->R D} {i:Nat} {ds:List D} (e:f ρ= .ok (.lst ds)):xY f i ρ= .nx (ρ.set i (some (.lst ds))):=by unfold xY;rw[e];rfl
theorem N5 (h1:1<=h) (dU:h<=20) (w20:w<=20):mV [bD w h C,tk (cJ w h T)]= .ok (.lst ((AD w h C T).map eV)):=by
 obtain⟨b4,b5,b6,b7,b8,e⟩:=Tn (C:=C) (T:=T) dU w20 (ys:=List.range h) (acc:=((List.range w).map λ x=>((0,inn w x 0,0):Ar)).map eV) (e4:=none) (e5:=none) (e6:=none) (e7:=none) (e8:=none) (λ y hy=>z2e hy) (by rw[z1g,z1g,z2d,z2d];omega);rw[<-List.map_append] at e;refine cC (aK (aZ (Gy h1 rfl) rfl) (aK (ρ':=[vA (bD w h C),vA (tk (cJ w h T)),vA (.int (w:Int)),some (.lst (((List.range w).map λ x=>((0,inn w x 0,0):Ar)).map eV)),none,none,none,none,none]) (NZ ?_) (aK (iM (sZ (aA rfl) (n:=h) (p:=λ y=>row w (C y)) rfl) e) ?_)))
 rotate_left
 ·exact bJ rfl
 rw[List.map_map];exact bN (l:=List.range w) (jT (aA rfl) (by omega)) (by rw[z2d];omega) λ x _=>cu rfl (dh (aD rfl (aD (aW (aD rfl (aD (x:= .int ((0:Nat):Int)) rfl (aA rfl))) (BW (by omega))) (aA rfl))))
end
section
variable {w h k:Nat} {C:Nat->Nat->Int} {T:Nat->Nat->Bool} {s:Nat->Nat->Nat} {ρ:ao}
def pD (h k:Nat) (s:Nat->Nat->Nat):D:= .lst ((List.range k).map λ i=>sm h (s i))
def bn (w h:Nat) (s:Nat->Nat) (m:Nat):Nat:=if m < h then inn w (s m) m else 1
def uA (w h:Nat) (C:Nat->Nat->Int) (s:Nat->Nat) (y:Nat):List Ar:=[(bn w h s (y+1),out w (s y) y,0),(out w (s y) y,inn w (s y) y,-C y (s y))]
theorem aem {q:Nat->Nat} {d1:D} (h1:1<=h) (hy:y < h) (hq:q y < w) (dU:h<=20) {acc:List D} (hl:acc.length+2<=1000000) {b:Nat} {e6:Option Ent}:
  auI [vA (bD w h C),vA d1,some (.lst acc),vA (sm h q),vA (.int (b:Int)),vA (.int (y:Int)),e6] =
   .nx [vA (bD w h C),vA d1,some (.lst (acc++[eV (b,out w (q y) y,0),eV (out w (q y) y,inn w (q y) y,-C y (q y))])),vA (sm h q),vA (.int ((inn w (q y) y:Nat):Int)),vA (.int (y:Int)),vA (.int ((inn w (q y) y:Nat):Int))]:=by
 refine aK (ρ':=[vA (bD w h C),vA d1,some (.lst acc),vA (sm h q),vA (.int (b:Int)),vA (.int (y:Int)),vA (.int ((inn w (q y) y:Nat):Int))]) (aZ (aW (aD (x:= .int ((q y:Nat):Int)) (au rfl rfl (jd hy)) (aD rfl (aA (Gy h1 rfl)))) (BW (by omega))) rfl) ?_;refine aK (BP rfl (jw (aD (dh (aD rfl (aD (x:= .int ((out w (q y) y:Nat):Int)) (au rfl rfl rfl) (aA rfl)))) (aA (dh (aD (x:= .int ((out w (q y) y:Nat):Int)) (au rfl rfl rfl) (aD rfl (aA (x:= .int (-C y (q y))) ?_))))))) hl) (aZ rfl rfl);have e:(bin (bin (gv 0) (gv 5) bF) (bin (gv 3) (gv 5) bF) bF) [vA (bD w h C),vA d1,some (.lst acc),vA (sm h q),vA (.int (b:Int)),vA (.int (y:Int)),vA (.int ((inn w (q y) y:Nat):Int))]= .ok (.int (C y (q y))):=
  au (au rfl rfl (Ad hy)) (au (r:= .ok (.int ((q y:Nat):Int))) rfl rfl (jd hy)) (jd hq)
 rw[Ma,e];rfl
theorem N7 {q:Nat->Nat} {d1:D} (h1:1<=h) (hq:∀y < h,q y < w) (dU:h<=20):∀{m:Nat} {acc:List D} {e5 e6:Option Ent},m<=h->acc.length+2*m<=1000000->
  ∃ e4' e5' lM,forL (aF 5) auI ((List.range m).reverse.map λ (y:Nat)=>D.int (y:Int)) [vA (bD w h C),vA d1,some (.lst acc),vA (sm h q),vA (.int ((bn w h q m:Nat):Int)),e5,e6] =
   .nx [vA (bD w h C),vA d1,some (.lst (acc++((List.range m).reverse.flatMap (uA w h C q)).map eV)),vA (sm h q),e4',e5',lM]
 | 0,acc,e5,e6,_,_=>⟨_,e5,e6,by
  show So.nx _=So.nx _;rw[show (List.range 0).reverse=[] from rfl,List.flatMap_nil,List.map_nil,List.append_nil]⟩
 | m+1,acc,e5,e6,hm,hl=>by
  have eb:bn w h q m=inn w (q m) m:=if_pos (by omega);obtain⟨e4',e5',lM,e⟩:=N7 (d1:=d1) h1 hq dU (m:=m) (acc:=acc++(uA w h C q m).map eV) (e5:=vA (.int (m:Int))) (e6:=vA (.int ((inn w (q m) m:Nat):Int))) (by omega) (by rw[z1d];show _+2+_<=_;omega);refine⟨e4',e5',lM,?_⟩;rw[List.range_succ,List.reverse_append,List.reverse_singleton,List.singleton_append,z1h,List.flatMap_cons,List.map_append,<-List.append_assoc];rw[eb] at e;exact cX rfl (aem h1 (by omega) (hq m (by omega)) dU (by omega)) e
theorem XS {n:Nat}:qI ((n:Int) - 1) n=(List.range n).reverse.map λ (y:Nat)=>D.int (y:Int):=by
 unfold qI;rw[List.map_reverse,Kf (g:=λ (y:Nat)=>D.int (y:Int))];refine List.map_congr_left λ i hi=>?_;have:=z2e hi;exact congrArg D.int (by omega)
theorem acu {fa:ao->R (List D)} {n:Nat} (e:fa ρ= .ok [.int (n:Int)]) (h:n<=1000):(λ ρ=>(fa ρ).bind zK) ρ= .ok ((List.range n).reverse.map λ (y:Nat)=>D.int (y:Int)):=by
 show (fa ρ).bind zK=_;rw[e];show (if 0<=(n:Int)/\(n:Int)<=1000 then R.ok (qI ((n:Int) - 1) (n:Int).toNat) else .bad)=_;rw[if_pos ⟨by omega,by omega⟩,Int.toNat_natCast,XS]
theorem Tp {d1:D} (h1:1<=h) (dU:h<=20):∀{is:List Nat} {acc:List D} {e3 e4 e5 e6:Option Ent},(∀i∈is,∀y < h,s i y < w)->acc.length+40*is.length<=1000000->
  ∃ e3' e4' e5' lM,forL (aF 3) auO (is.map λ i=>sm h (s i)) [vA (bD w h C),vA d1,some (.lst acc),e3,e4,e5,e6] =
   .nx [vA (bD w h C),vA d1,some (.lst (acc++(is.flatMap λ i=>(List.range h).reverse.flatMap (uA w h C (s i))).map eV)),e3',e4',e5',lM]
 |[],acc,e3,e4,e5,e6,_,_=>⟨e3,e4,e5,e6,by rw[List.flatMap_nil,List.map_nil,List.map_nil,List.append_nil];rfl⟩
 | i ::is,acc,e3,e4,e5,e6,hs,hl=>by
  rw[List.length_cons] at hl;have hf:((List.range h).reverse.flatMap (uA w h C (s i))).length<=2*h:=by
   have:=jm (f:=uA w h C (s i)) (m:=2) (l:=(List.range h).reverse) λ _ _=>z0g _;rw[List.length_reverse,z2d] at this;exact this
  have eb:bn w h (s i) h=1:=if_neg (Nat.lt_irrefl _);obtain⟨a4,a5,a6,e1⟩:=N7 (C:=C) (d1:=d1) h1 (hs i (List.mem_cons_self ..)) dU (m:=h) (acc:=acc) (e5:=e5) (e6:=e6) (z0g _) (by omega);rw[eb] at e1;obtain⟨b3,b4,b5,b6,e2⟩:=Tp (d1:=d1) h1 dU (is:=is) (acc:=acc++((List.range h).reverse.flatMap (uA w h C (s i))).map eV) (e3:=vA (sm h (s i))) (e4:=a4) (e5:=a5) (e6:=a6) (λ j hj=>hs j (z2f _ hj)) (by rw[z1d,z1g];omega);refine⟨b3,b4,b5,b6,?_⟩;rw[z1h,List.flatMap_cons,List.map_append,<-List.append_assoc];exact cX rfl (aK (aZ rfl rfl) (iM (acu (aA (aV (aA rfl) nQ)) (by omega)) e1)) e2
def AU (w h k:Nat) (C:Nat->Nat->Int) (s:Nat->Nat->Nat):List Ar:=(List.range k).flatMap λ i=>(List.range h).reverse.flatMap (uA w h C (s i))
theorem U0 (h1:1<=h) (dU:h<=20) (k20:k<=20) (hs:∀i < k,∀y < h,s i y < w):qN [bD w h C,pD h k s]= .ok (.lst ((AU w h k C s).map eV)):=by
 obtain⟨b3,b4,b5,b6,e⟩:=Tp (C:=C) (d1:=pD h k s) h1 dU (is:=List.range k) (acc:=[]) (e3:=none) (e4:=none) (e5:=none) (e6:=none) (λ i hi=>hs i (z2e hi)) (by rw[z2d];show 0+_<=_;omega);rw[List.nil_append] at e;refine cC (aK (pR rfl) (aK (iM (iB rfl) e) ?_));exact bJ rfl
def TT (k:Nat) (s:Nat->Nat->Nat) (x y:Nat):Bool:=((List.range k).map λ i=>D.int ((s i y:Nat):Int)).any λ d=>fY d (.int (x:Int))
theorem X3:TT k s x y=true↔∃i,i < k/\s i y=x:=by
 unfold TT;rw[List.any_map,List.any_eq_true];constructor
 ·rintro⟨i,hi,e⟩
  have e:(((s i y:Nat):Int) ==(x:Int))=true:=e;exact⟨i,z2e hi,by have:=eq_of_beq e;omega⟩
 ·rintro⟨i,hi,e⟩
  refine⟨i,List.mem_range.mpr hi,?_⟩;show (((s i y:Nat):Int) ==(x:Int))=true;rw[e];exact beq_self_eq_true _
theorem aam (dU:h<=20) (w20:w<=20) (k20:k<=20):oV [pD h k s,.int (w:Int),.int (h:Int)]= .ok (tk (cJ w h (TT k s))):=by
 rw[wQ];refine cC (aK (ρ':=[vA (pD h k s),vA (.int (w:Int)),vA (.int (h:Int)),vA (.lst ((List.range h).map λ y=> .lst ((List.range k).map λ i=> .int ((s i y:Nat):Int))))]) (aZ ?_ rfl) (bJ ?_))
 ·refine bN (l:=List.range h) (jT (aA rfl) (by omega)) (by rw[z2d];omega) λ y hy=>cu rfl ?_;refine bN (l:=List.range k) (c:=λ i=>sm h (s i)) (iB rfl) (by rw[z2d];omega) λ i _=>cu rfl (au rfl rfl (jd (z2e hy)))
 ·refine bN (l:=List.range h) (c:=λ y=> .lst ((List.range k).map λ i=> .int ((s i y:Nat):Int))) (iB rfl) (by rw[z2d];omega) λ y hy=>cu rfl ?_;refine bN (l:=List.range w) (jT (aA rfl) (by omega)) (by rw[z2d];omega) λ x _=>cu rfl (au rfl rfl ?_);show (if gJ (.int (x:Int))=true/\((List.range k).map λ i=>D.int ((s i y:Nat):Int)).all gJ=true then R.ok (D.bl (if false=true then _ else ((List.range k).map λ i=>D.int ((s i y:Nat):Int)).any λ d=>fY d (.int (x:Int)))) else .bad)=_;rw[if_pos ⟨rfl,by rw[List.all_map,List.all_eq_true];exact λ _ _=>rfl⟩];rfl
theorem Kq {α:Type} {kf:D->R (Option D)} {c g:α->D} {P:α->Bool}:∀{l:List α},(∀a∈l,kf (c a)= .ok (if P a=true then some (g a) else none))->j5 kf (l.map c)= .ok ((l.filter P).map g)
 |[],_=>rfl
 | a::l,q=>by
  rw[z1h,j5,q a (by simp),zj,R.bC,Kq λ b hb=>q b (by simp[hb]),R.bC,List.filter_cons];cases P a <;> rfl
theorem X4 {α:Type} {n:Nat} {caps:List Nat} {fi:ao->R (List D)} {gt:D->ao->R ao} {ft:ao->R Bool} {fe:ao->R D} {c g:α->D} {P:α->Bool} {l:List α} (e1:fi ρ= .ok (l.map c)) (hl:l.length<=1000000)
  (e2:∀a∈l,pI gt ft fe (qu n caps ρ) (c a)= .ok (if P a=true then some (g a) else none)):bA n caps fi gt ft fe ρ= .ok (.lst ((l.filter P).map g)):=by
 rw[bA,e1,R.bC,Kq e2,R.bC,cap,if_pos (by rw[z1g];exact z0b (List.length_filter_le ..) hl)]
theorem acv {gt:D->ao->R ao} {ft:ao->R Bool} {fe:ao->R D} {x:D} {ρ1:ao} {b:Bool} {d:D} (e1:gt x ρ= .ok ρ1) (e2:ft ρ1= .ok b) (e3:fe ρ1= .ok d):pI gt ft fe ρ x= .ok (if b=true then some d else none):=by
 rw[pI,e1,R.bC,e2,R.bC,e3];cases b <;> rfl
theorem U3 {m:Nat} (dU:h<=20) (w20:w<=20) (m20:m<=20) (hr:∀y < h,(Fl.pl (λ x=>T x y) w).length=m):jc [tk (cJ w h T),.int (m:Int)]= .ok (pD h m (Fl.sq w T)):=by
 rw[wQ];refine cC (aK (ρ':=[vA (.lst ((List.range h).map λ y=> .lst ((List.range w).map λ x=> .bl (T x y)))),vA (.int (m:Int)),vA (.lst ((List.range h).map λ y=> .lst ((Fl.pl (λ x=>T x y) w).map λ (x:Nat)=>D.int (x:Int))))]) (aZ ?_ rfl) (bJ ?_))
 ·refine bN (l:=List.range h) (c:=λ y=> .lst ((List.range w).map λ x=> .bl (T x y))) (iB rfl) (by rw[z2d];omega) λ y hy=>cu rfl ?_;refine X4 (l:=List.range w) (c:=λ (x:Nat)=>D.tup [.int (x:Int),.bl (T x y)]) (P:=λ x=>T x y) (sZ (aA rfl) (n:=w) (p:=λ x=> .bl (T x y)) rfl) (by rw[z2d];omega) λ x _=>acv rfl (bf rfl) rfl
 ·refine bN (l:=List.range m) (jT (aA rfl) (by omega)) (by rw[z2d];omega) λ i hi=>cu rfl (aV (aA (x:= .lst ((List.range h).map λ y=>D.int ((Fl.sq w T i y:Nat):Int))) ?_) rfl);refine bN (l:=List.range h) (c:=λ y=> .lst ((Fl.pl (λ x=>T x y) w).map λ (x:Nat)=>D.int (x:Int))) (iB rfl) (by rw[z2d];omega) λ y hy=>cu rfl (au rfl rfl (LQ ?_));have hl:i < (Fl.pl (λ x=>T x y) w).length:=by rw[hr y (z2e hy)];exact z2e hi
  rw[z2b,List.getElem?_eq_getElem hl];unfold Fl.sq;rw[List.getD_eq_getElem?_getD,List.getElem?_eq_getElem hl];rfl
end
end nP
namespace nP
open PySem PySem.Spec L2 Pu
open Fl (inn out gQ d7 lZ gj)
variable {v:Nat} {f:Nat->Int}
section
variable {w h k:Nat} {C:Nat->Nat->Int} {T:Nat->Nat->Bool} {s:Nat->Nat->Nat} {ρ:ao}
theorem Jj {a:Ar} (ha:a∈AD w h C T++AU w h k C s):gQ w h k (λ x y=>C y x) T s a.1 a.2.1 a.2.2:=by
 rcases List.mem_append.mp ha with ha |ha
 ·unfold AD at ha;rcases List.mem_append.mp ha with ha |ha
  ·obtain⟨x,hx,rfl⟩:=List.mem_map.mp ha;exact .st (z2e hx)
  ·obtain⟨y,hy,ha⟩:=List.mem_flatMap.mp ha;obtain⟨x,hx,ha⟩:=List.mem_flatMap.mp ha;have hy:=z2e hy;have hx:=z2e hx;unfold cA at ha;rcases List.mem_append.mp ha with ha |ha
   ·cases t:T x y with
    |true=>rw[t,if_pos rfl] at ha;cases ha
    | false=>
     rw[t,if_neg Bool.false_ne_true,List.mem_singleton] at ha;subst ha;exact .cl hx hy t
   ·by_cases hy1:y+1 < h
    ·rw[if_pos hy1] at ha;obtain⟨p,hp,rfl⟩:=List.mem_map.mp ha;obtain⟨h1,h2,h3⟩:=(wO hx).mp hp;exact .dn hx h1 hy1 h2 h3
    ·rw[if_neg hy1,List.mem_singleton] at ha;subst ha;exact .en hx (by omega)
 ·unfold AU at ha;obtain⟨i,hi,ha⟩:=List.mem_flatMap.mp ha;obtain⟨y,hy,ha⟩:=List.mem_flatMap.mp ha;have hi:=z2e hi;have hy:=z2e (List.mem_reverse.mp hy);unfold uA at ha;rcases List.mem_cons.mp ha with ha |ha
  ·subst ha;unfold bn;by_cases hy1:y+1 < h
   ·rw[if_pos hy1];exact .up hi hy1
   ·rw[if_neg hy1];exact .ue hi (by omega)
  ·rw[List.mem_singleton] at ha;subst ha;exact .bk hi hy
theorem acw {u:Nat} {c:Int} (a:gQ w h k (λ x y=>C y x) T s u v c):(u,v,c)∈AD w h C T++AU w h k C s:=by
 have cell:∀{x y:Nat} {b:Ar},x < w->y < h->b∈cA w h C T y x->b∈AD w h C T++AU w h k C s:=λ {x y b} hx hy hb=>
  List.mem_append_left _ (List.mem_append_right _ (List.mem_flatMap.mpr ⟨y,List.mem_range.mpr hy,List.mem_flatMap.mpr ⟨x,List.mem_range.mpr hx,hb⟩⟩))
 have upw:∀{i y:Nat} {b:Ar},i < k->y < h->b∈uA w h C (s i) y->b∈AD w h C T++AU w h k C s:=λ {i y b} hi hy hb=>
  List.mem_append_right _ (List.mem_flatMap.mpr ⟨i,List.mem_range.mpr hi,List.mem_flatMap.mpr ⟨y,List.mem_reverse.mpr (List.mem_range.mpr hy),hb⟩⟩)
 cases a with
 | @st x hx=>exact List.mem_append_left _ (List.mem_append_left _ (List.mem_map.mpr ⟨x,List.mem_range.mpr hx,rfl⟩))
 | @cl x y hx hy t=>exact cell hx hy (List.mem_append_left _ (by rw[t,if_neg Bool.false_ne_true];exact List.mem_singleton.mpr rfl))
 | @dn x x' y hx hx' hy h1 h2=>exact cell hx (show y < h by omega) (List.mem_append_right _ (by rw[if_pos hy];exact List.mem_map.mpr ⟨x',(wO hx).mpr ⟨hx',h1,h2⟩,rfl⟩))
 | @en x y hx hy=>exact cell hx (show y < h by omega) (List.mem_append_right _ (by rw[if_neg (by omega)];exact List.mem_singleton.mpr rfl))
 | @ue i y hi hy=>
  refine upw hi (show y < h by omega) (List.mem_cons.mpr (.inl ?_));unfold bn;rw[if_neg (by omega)]
 | @up i y hi hy=>
  refine upw hi (show y < h by omega) (List.mem_cons.mpr (.inl ?_));unfold bn;rw[if_pos hy]
 | @bk i y hi hy=>exact upw hi hy (List.mem_cons.mpr (.inr (List.mem_singleton.mpr rfl)))
end
section
variable {n:Nat} {ρ:ao} {far:Int} {q least:Nat->Int} {ahead:Nat->Nat} {A:List Ar}
def LI (n:Nat) (f:Nat->Int):List D:=(List.range n).map λ v=>D.int (f v)
theorem X5:(LI n f).length=n:=by unfold LI;rw[z1g,z2d]
theorem X6 {a:Int}:(LI n f).set v (.int a)=LI n (Fl.upd f v a):=by
 unfold LI;refine List.ext_getElem (by simp) λ i h1 h2=>?_;rw[List.getElem_set,List.getElem_map,List.getElem_map,List.getElem_range];by_cases e:v=i
 ·rw[if_pos e,e,Fl.lF]
 ·rw[if_neg e,Fl.dI (Ne.symm e)]
theorem Lj (hv:v < n):bF (.lst (LI n f)) (.int (v:Int))= .ok (.int (f v)):=gA (α:=Nat) hv
def cst (a:Nat->Nat):Nat->Int:=λ v=>((a v:Nat):Int)
theorem acy {a:Nat->Nat} {u:Nat}:Fl.upd (cst a) v (u:Int)=cst (Fl.upd a v u):=funext λ i=>by
 unfold cst;by_cases e:i=v
 ·rw[e,Fl.lF,Fl.lF]
 ·rw[Fl.dI e,Fl.dI e]
theorem Tq {i:Nat} {fk fv:ao->R D} {ds:List D} {k:Nat} {d:D} (h:ρ[i]?=some (some (.lst ds))) (e1:fv ρ= .ok d) (e2:fk ρ= .ok (.int (k:Int))) (hk:k < ds.length):Iv i fk fv ρ= .nx (ρ.set i (some (.lst (ds.set k d)))):=by
 unfold Iv;simp only[e1,zj,fj,h,e2];rw[if_pos ⟨by omega,by omega⟩,Int.toNat_natCast]
def rT (A:List Ar) (n:Nat) (least:Nat->Int) (ahead:Nat->Nat) (ch:Bool) (e5 e6 e7:Option Ent):ao:=[vA (.lst (A.map eV)),vA (.int (n:Int)),some (.lst (LI n least)),some (.lst (LI n (cst ahead))),vA (.bl ch),e5,e6,e7]
theorem aen {u:Nat} {c:Int} {ch:Bool} (hu:u < n) (hv:v < n):
  seB (rT A n least ahead ch (vA (.int (u:Int))) (vA (.int (v:Int))) (vA (.int c)))= .nx (if least u+c < least v then rT A n (Fl.upd least v (least u+c)) (Fl.upd ahead v u) true (vA (.int (u:Int))) (vA (.int (v:Int))) (vA (.int c)) else rT A n least ahead ch (vA (.int (u:Int))) (vA (.int (v:Int))) (vA (.int c))):=by
 have e:(bU (bin (bin (bin (gv 2) (gv 5) bF) (gv 7) cH) (bin (gv 2) (gv 6) bF) ltI)) (cG (rT A n least ahead ch (vA (.int (u:Int))) (vA (.int (v:Int))) (vA (.int c))))= .ok (decide (least u+c < least v)):=
  bf (au (x:= .int (least u+c)) (y:= .int (least v)) (au (au rfl rfl (Lj hu)) rfl rfl) (au rfl rfl (Lj hv)) rfl)
 by_cases hc:least u+c < least v
 ·rw[if_pos hc];rw[decide_eq_true hc] at e;refine gP e (aK (ρ':=[vA (.lst (A.map eV)),vA (.int (n:Int)),some (.lst (LI n (Fl.upd least v (least u+c)))),some (.lst (LI n (cst ahead))),vA (.bl ch),vA (.int (u:Int)),vA (.int (v:Int)),vA (.int c)]) ?_ (aK (ρ':=[vA (.lst (A.map eV)),vA (.int (n:Int)),some (.lst (LI n (Fl.upd least v (least u+c)))),some (.lst (LI n (cst (Fl.upd ahead v u)))),vA (.bl ch),vA (.int (u:Int)),vA (.int (v:Int)),vA (.int c)]) ?_ (aZ rfl rfl)))
  ·refine (Tq (ds:=LI n least) (k:=v) (d:= .int (least u+c)) rfl (au (x:= .int (least u)) (Xx rfl rfl (Lj hu)) rfl rfl) rfl (by rw[X5];exact hv)).trans ?_;rw[X6];rfl
  ·refine (Tq (ds:=LI n (cst ahead)) (k:=v) (d:= .int (u:Int)) rfl rfl rfl (by rw[X5];exact hv)).trans ?_;rw[X6,acy];rfl
 ·rw[if_neg hc];rw[decide_eq_false hc] at e;exact cL e rfl
abbrev Rel (A:List Ar):Nat->Nat->Int->Prop:=λ u v c=>(u,v,c)∈A
theorem Jk (hA:∀u v c,Rel A u v c->u < n/\v < n/\v≠0) (hf:∀u v c,Rel A u v c->q v<=q u+c):∀{l:List Ar} {least:Nat->Int} {ahead:Nat->Nat} {ch:Bool} {e5 e6 e7:Option Ent},(∀a∈l,a∈A)->lZ (Rel A) n far q least ahead->
  ∃ mX wR Cz e5' lM qO,forL (cZ (c7 3 (aX (aF 5) (aX (aF 6) (aX (aF 7) nilG))))) seB (l.map eV) (rT A n least ahead ch e5 e6 e7)= .nx (rT A n mX wR Cz e5' lM qO)/\lZ (Rel A) n far q mX wR/\
   (Cz=false->ch=false/\mX=least/\wR=ahead/\∀a∈l,least a.2.1<=least a.1+a.2.2)/\Fl.sm n mX<=Fl.sm n least/\(Cz=true->ch=true\/Fl.sm n mX < Fl.sm n least)
 |[],least,ahead,ch,e5,e6,e7,_,S=>⟨least,ahead,ch,e5,e6,e7,rfl,S,λ e=>⟨e,rfl,rfl,λ _ h=>by cases h⟩,Int.le_refl _,λ e=> .inl e⟩
 | (u, v,c)::l,least,ahead,ch,e5,e6,e7,hl,S=>by
  have ha:Rel A u v c:=hl _ (List.mem_cons_self ..);obtain⟨hu,hv,v0⟩:=hA u v c ha;have hl':∀a∈l,a∈A:=λ a h=>hl a (z2f _ h);have step:=aen (A:=A) (n:=n) (least:=least) (ahead:=ahead) (ch:=ch) (c:=c) hu hv;by_cases hc:least u+c < least v
  ·rw[if_pos hc] at step;obtain⟨l',a',c',x5,x6,x7,e,S',h1,h2,h3⟩:=Jk hA hf (l:=l) (ch:=true) (e5:=vA (.int (u:Int))) (e6:=vA (.int (v:Int))) (e7:=vA (.int c)) hl' (S.step hA hf ha hc);have hsm:=Fl.adZ (f:=least) (a:=least u+c) hv;refine⟨l',a',c',x5,x6,x7,?_,S',λ z=>?_,by omega,λ z=> .inr (by omega)⟩
   ·rw[z1h];exact cX rfl step e
   ·exact absurd (h1 z).1 (by decide)
  ·rw[if_neg hc] at step;obtain⟨l',a',c',x5,x6,x7,e,S',h1,h2,h3⟩:=Jk hA hf (l:=l) (ch:=ch) (e5:=vA (.int (u:Int))) (e6:=vA (.int (v:Int))) (e7:=vA (.int c)) hl' S;refine⟨l',a',c',x5,x6,x7,?_,S',λ z=>?_,h2,h3⟩
   ·rw[z1h];exact cX rfl step e
   ·obtain⟨z1,z2,z3,z4⟩:=h1 z;refine⟨z1,z2,z3,λ a h=>?_⟩;rcases List.mem_cons.mp h with h |h
    ·rw[h];show least v<=least u+c;omega
    ·exact z4 a h
theorem aa8 (hA:∀u v c,Rel A u v c->u < n/\v < n/\v≠0) (hf:∀u v c,Rel A u v c->q v<=q u+c):∀{N:Nat} {least:Nat->Int} {ahead:Nat->Nat} {e5 e6 e7:Option Ent},lZ (Rel A) n far q least ahead->Fl.sm n least - Fl.sm n q+2<=N->
  ∃mX wR e5' lM qO,gH (bU (gv 4)) Ke N (rT A n least ahead true e5 e6 e7)= .nx (rT A n mX wR false e5' lM qO)/\lZ (Rel A) n far q mX wR/\∀u v c,Rel A u v c->mX v<=mX u+c
 | 0,least,ahead,e5,e6,e7,S,hN=>by
  have:=Fl.eN S.lo;have hN:Fl.sm n least - Fl.sm n q+2<=0:=hN;omega
 | N + 1,least,ahead,e5,e6,e7,S,hN=>by
  have hlo:=Fl.eN S.lo;obtain⟨l',a',c',x5,x6,x7,e,S',h1,h2,h3⟩:=Jk (far:=far) hA hf (l:=A) (ch:=false) (e5:=e5) (e6:=e6) (e7:=e7) (λ _ h=>h) S;have body:Ke (rT A n least ahead true e5 e6 e7)= .nx (rT A n l' a' c' x5 x6 x7):=
   aK (ρ':=rT A n least ahead false e5 e6 e7) (aZ rfl rfl) (iM (iB rfl) e)
  have hw:gH (bU (gv 4)) Ke (N+1) (rT A n least ahead true e5 e6 e7)=gH (bU (gv 4)) Ke N (rT A n l' a' c' x5 x6 x7):=by
   rw[gH,show (bU (gv 4)) (cG (rT A n least ahead true e5 e6 e7))= .ok true from rfl];show (match Ke (rT A n least ahead true e5 e6 e7) with
    | .nx ρ'=>gH (bU (gv 4)) Ke N ρ'
    | .ct ρ'=>gH (bU (gv 4)) Ke N ρ'
    | .bk ρ'=> .nx ρ'
    |o=>o)=_
   rw[body]
  rw[hw];cases c' with
  | false=>
   obtain⟨_,z2,z3,z4⟩:=h1 rfl;have hlo':=Fl.eN S'.lo;cases N with
   |zero=>have hN:Fl.sm n least - Fl.sm n q+2<=1:=hN;omega
   | succ N=>
    refine⟨l',a',x5,x6,x7,?_,S',λ u v c ha=>?_⟩
    ·rw[gH,show (bU (gv 4)) (cG (rT A n l' a' false x5 x6 x7))= .ok false from rfl]
    ·rw[z2];exact z4 _ ha
  | true=>
   have hlt:=(h3 rfl).resolve_left (by decide);exact aa8 hA hf S' (by have hN:Fl.sm n least - Fl.sm n q+2<=(N:Int)+1:=hN;omega)
theorem yp {b:D}:∀m:Nat,(List.replicate m [b]).flatten=List.replicate m b
 |0=>rfl
 |m+1=>by rw[List.replicate_succ,List.flatten_cons,yp m];rfl
theorem aan {m:Nat} {b:Int}:[D.int 0]++(List.replicate m [D.int b]).flatten=LI (m+1) λ v=>if v=0 then 0 else b:=by
 rw[yp];unfold LI;refine List.ext_getElem (by simp) λ i h1 h2=>?_;rw[List.getElem_map,List.getElem_range];cases i with
 |zero=>rfl
 |succ i=>simp
theorem acz {m:Nat}:(List.replicate m [D.int 0]).flatten=LI m (cst λ _=>0):=by
 rw[yp];unfold LI;refine List.ext_getElem (by simp) λ i h1 h2=>?_;simp[cst]
theorem Qt (hn:2<=n) (hn2:n<=900) (hA:∀u v c,Rel A u v c->u < n/\v < n/\v≠0) (hf:∀u v c,Rel A u v c->q v<=q u+c) (q0:q 0<=0) (hq0:∀v,v < n->0<=q v) (hq:∀v,v < n->q v<=1000000):
  ∃least ahead,oU [.lst (A.map eV),.int (n:Int)]= .ok (.tup [.lst (LI n least),.lst (LI n (cst ahead))])/\lZ (Rel A) n 1000000 q least ahead/\∀u v c,Rel A u v c->least v<=least u+c:=by
 have S0:lZ (Rel A) n 1000000 q (λ v=>if v=0 then 0 else 1000000) (λ _=>0):=lZ.first q0 hq (by decide);have hs1:Fl.sm n (λ v=>if v=0 then 0 else (1000000:Int))<=n*1000000:=by
  rw[<-Fl.ji (a:=1000000) n];exact Fl.eN λ v hv=>S0.hi v hv
 have hs2:=Fl.lE hq0;obtain⟨l',a',x5,x6,x7,e,S',ex⟩:=aa8 hA hf (N:=1000000000) (e5:=none) (e6:=none) (e7:=none) S0 (by omega);refine⟨l',a',?_,S',ex⟩;obtain⟨m,rfl⟩:∃m,n=m+1:=⟨n - 1,by omega⟩;refine cC (aK (ρ':=[vA (.lst (A.map eV)),vA (.int ((m+1:Nat):Int)),some (.lst (LI (m+1) λ v=>if v=0 then 0 else 1000000)),none,none,none,none,none]) ?_ (aK (ρ':=[vA (.lst (A.map eV)),vA (.int ((m+1:Nat):Int)),some (.lst (LI (m+1) λ v=>if v=0 then 0 else 1000000)),some (.lst (LI (m+1) (cst λ _=>0))),none,none,none,none]) ?_ (aK (aZ rfl rfl) (aK e (bJ (dh (aD rfl (aA rfl))))))))
 ·rw[<-aan];refine NZ (au (jw (aA rfl)) (au (x:= .lst [.int 1000000]) (y:= .int (m:Int)) (jw (aA rfl)) (au rfl rfl ?_) (r:= .ok (.lst (List.replicate m [D.int 1000000]).flatten)) ?_) ?_)
  ·show R.ok (D.int (((m+1:Nat):Int) - 1))=_;rw[show ((m+1:Nat):Int) - 1=(m:Int) by omega]
  ·show (if [D.int 1000000]≠[]/\1<=(m:Int)/\(m:Int) < 2 ^ 63/\[D.int 1000000].length*(m:Int).toNat<=1000000 then R.ok (D.lst (List.replicate (m:Int).toNat [D.int 1000000]).flatten) else .bad)=_;rw[if_pos ⟨by simp,by omega,by omega,by rw[Int.toNat_natCast];show 1*m<=_;omega⟩,Int.toNat_natCast]
  ·show (if [D.int 0].length+((List.replicate m [D.int 1000000]).flatten).length<=1000000 then R.ok _ else .bad)=_;rw[if_pos (by rw[yp,List.length_replicate];show 1+m<=_;omega)]
 ·rw[<-acz];refine NZ (au (x:= .lst [.int 0]) (y:= .int ((m+1:Nat):Int)) (jw (aA rfl)) rfl ?_);show (if [D.int 0]≠[]/\1<=((m+1:Nat):Int)/\((m+1:Nat):Int) < 2 ^ 63/\[D.int 0].length*((m+1:Nat):Int).toNat<=1000000 then R.ok (D.lst (List.replicate ((m+1:Nat):Int).toNat [D.int 0]).flatten) else .bad)=_;rw[if_pos ⟨by simp,by omega,by omega,by rw[Int.toNat_natCast];show 1*(m+1)<=_;omega⟩,Int.toNat_natCast]
end
end nP
namespace nP
open PySem PySem.Spec L2 Pu
open Fl (inn out gQ d7 lZ gj jF vis fQ uo)
theorem Tr {ahead:Nat->Nat} {n:Nat} {G:Nat->Prop} (hG:∀v,G v->v≠0->G (ahead v)) (hn:∀v,G v->v < n):∀{d v:Nat},jF ahead d v->G v->Fl.sm n (λ w=>if vis ahead d v w=true then 1 else 0)=d
 |0,_,_,_=>Fl.lD λ i _=>if_neg Bool.false_ne_true
 | d + 1,v,c,g=>by
  have ih:=Tr hG hn c.2 (hG v g c.1);have nv:=Fl.Jb c;have e1:Fl.sm n (λ w=>if vis ahead (d+1) v w=true then (1:Int) else 0)=Fl.sm n (λ w=>if vis ahead d (ahead v) w=true then 1 else 0)+1:=by
   refine Eq.trans ?_ (congrArg (λ z=>_+z) (Fl.mQ (a:=1) (hn v g)));rw[<-Fl.iZ];refine Fl.aY λ i _=>?_;show (if (i ==v || vis ahead d (ahead v) i)=true then (1:Int) else 0)=_;by_cases z:i=v
   ·subst z;rw[nv,if_pos (by simp),if_pos rfl,if_neg Bool.false_ne_true];omega
   ·have:(i ==v)=false:=by simpa using z
    rw[this,Bool.false_or,if_neg z];omega
  rw[e1,ih];rfl
theorem aeo {ahead:Nat->Nat} {n:Nat} {G:Nat->Prop} (hG:∀v,G v->v≠0->G (ahead v)) (hn:∀v,G v->v < n) {d v:Nat} (c:jF ahead d v) (g:G v):d<=n:=by
 have h1:=Tr hG hn c g;have h2:Fl.sm n (λ w=>if vis ahead d v w=true then (1:Int) else 0)<=Fl.sm n λ _=>1:=Fl.eN λ i _=>by split <;> decide
 rw[Fl.ji n,h1] at h2;omega
section
variable {w h k n:Nat} {C:Nat->Nat->Int} {T:Nat->Nat->Bool} {s:Nat->Nat->Nat} {ahead:Nat->Nat} {ρ:ao}
theorem uF {f:ao->R D} {i:Nat} {a:Int} (e:f ρ= .ok (.int a)):xZ f i ρ= .nx (ρ.set i (some (.val (.int a)))):=by unfold xZ;rw[e]
theorem acA {f g:ao->R D} {i j:Nat} {a b:Int} (e1:f ρ= .ok (.int a)) (e2:g ρ= .ok (.int b)):M7 i j f g ρ= .nx ((ρ.set i (some (.val (.int a)))).set j (some (.val (.int b)))):=by unfold M7;rw[e1,e2]
theorem acB {p:ao->R Bool} {g k:ao->So} {o:So} (e:p ρ= .ok true) (e2:g ρ=o):M8 p g k ρ=o:=by unfold M8;rw[e];exact e2
theorem acC {p:ao->R Bool} {g k:ao->So} {o:So} (e:p ρ= .ok false) (e2:k ρ=o):M8 p g k ρ=o:=by unfold M8;rw[e];exact e2
theorem div2 {a:Nat}:d9 (.int (a:Int)) (.int 2)= .ok (.int ((a / 2:Nat):Int)):=by rw[lu ⟨by decide,by decide⟩];rfl
theorem aao {x y:Nat} (hx:x < w) (hy:y < h):(D.lst (((List.range h).map λ y=>D.lst ((List.range w).map λ x=> .bl (T x y))).set y (.lst (((List.range w).map λ x=>D.bl (T x y)).set x (.bl (!T x y))))))=tk (cJ w h (uo T x y)):=by
 rw[wQ];refine congrArg D.lst (List.ext_getElem (by simp) λ i h1 h2=>?_);rw[List.getElem_set,List.getElem_map,List.getElem_map,List.getElem_range];by_cases e:y=i
 ·rw[if_pos e];subst e;refine congrArg D.lst (List.ext_getElem (by simp) λ j h3 h4=>?_);rw[List.getElem_set,List.getElem_map,List.getElem_map,List.getElem_range];by_cases e2:x=j
  ·rw[if_pos e2,<-e2,Fl.Xe]
  ·rw[if_neg e2,Fl.sX (λ z=>e2 z.1.symm)]
 ·rw[if_neg e];refine congrArg D.lst (List.map_congr_left λ j _=>?_);rw[Fl.sX (λ z=>e z.2.symm)]
def wU (w h n:Nat) (ahead:Nat->Nat) (T:Nat->Nat->Bool) (v:Nat) (e4 e5 e6 e7:Option Ent):ao:=[vA (tk (cJ w h T)),vA (.lst (LI n (cst ahead))),vA (.int (w:Int)),vA (.int (v:Int)),e4,e5,e6,e7]
theorem acD {x y:Nat} (hx:x < w) (hy:y < h) {e1 e2 e3 e4 e5:Option Ent}:
  Gb 6 7 (HY (bin (bin (gv 0) (gv 6) bF) (gv 7) bF)) [vA (tk (cJ w h T)),e1,e2,e3,e4,e5,vA (.int (y:Int)),vA (.int (x:Int))] =
   .nx [vA (tk (cJ w h (uo T x y))),e1,e2,e3,e4,e5,vA (.int (y:Int)),vA (.int (x:Int))]:=by
 have e:(bin (bin (gv 0) (gv 6) bF) (gv 7) bF) [vA (tk (cJ w h T)),e1,e2,e3,e4,e5,vA (.int (y:Int)),vA (.int (x:Int))]= .ok (.bl (T x y)):=
  au (au rfl rfl (UW hy)) rfl (gA (α:=Nat) (p:=λ x=>D.bl (T x y)) hx)
 unfold Gb;have e0:HY (bin (bin (gv 0) (gv 6) bF) (gv 7) bF) [vA (tk (cJ w h T)),e1,e2,e3,e4,e5,vA (.int (y:Int)),vA (.int (x:Int))]= .ok (.bl (!T x y)):=by
  rw[HY,e];rfl
 have e9:bL [vA (tk (cJ w h T)),e1,e2,e3,e4,e5,vA (.int (y:Int)),vA (.int (x:Int))] 0= .ok (.lst ((List.range h).map λ y=> .lst ((List.range w).map λ x=> .bl (T x y)))):=by
  show R.ok (tk (cJ w h T))=_;rw[wQ]
 have e6:bL [vA (tk (cJ w h T)),e1,e2,e3,e4,e5,vA (.int (y:Int)),vA (.int (x:Int))] 6= .ok (.int (y:Int)):=rfl;have e7:bL [vA (tk (cJ w h T)),e1,e2,e3,e4,e5,vA (.int (y:Int)),vA (.int (x:Int))] 7= .ok (.int (x:Int)):=rfl;simp only[e0,e9,e6,e7,Int.toNat_natCast];rw[show ((List.range h).map λ y=>D.lst ((List.range w).map λ x=>D.bl (T x y)))[y]?=some (.lst ((List.range w).map λ x=>D.bl (T x y))) by rw[z2b,List.getElem?_range hy];rfl];show (if 0<=(y:Int)/\0<=(x:Int)/\(x:Int) < (((List.range w).map λ x=>D.bl (T x y)).length:Nat) then So.nx _ else .bad)=_;rw[if_pos ⟨by omega,by omega,by rw[z1g,z2d];omega⟩,aao hx hy];rfl
theorem aep {v:Nat} (hv:v < n) (hw:0 < w) (w20:w<=20) (hc:ahead v / 2=v / 2->∃x y,x < w/\y < h/\v / 2=y*w+x+1) {e4 e5 e6 e7:Option Ent}:
  ∃e4' e5' lM qO,Xm (wU w h n ahead T v e4 e5 e6 e7)= .nx (wU w h n ahead (if ahead v / 2=v / 2 then uo T ((v / 2 - 1) % w) ((v / 2 - 1) / w) else T) (ahead v) e4' e5' lM qO):=by
 have e0:(bin (gv 1) (gv 3) bF) (wU w h n ahead T v e4 e5 e6 e7)= .ok (.int ((ahead v:Nat):Int)):=au rfl rfl (Lj hv);have et:(bU (bin (bin (gv 4) (ci 2) d9) (bin (gv 3) (ci 2) d9) pA)) (wU w h n ahead T v (vA (.int ((ahead v:Nat):Int))) e5 e6 e7)= .ok (decide (ahead v / 2=v / 2)):=by
  refine bf (au (au rfl rfl div2) (au rfl rfl div2) ?_);rw[acd,show (decide (((ahead v / 2:Nat):Int)=((v / 2:Nat):Int)))=decide (ahead v / 2=v / 2) from decide_eq_decide.mpr ⟨λ z=>by omega,λ z=>by omega⟩]
 by_cases hh:ahead v / 2=v / 2
 ·obtain⟨x,y,hx,hy,ev⟩:=hc hh;have ec:v / 2 - 1=y*w+x:=by omega
  rw[if_pos hh,ec,Fl.wC hx,Fl.wD hx];rw[decide_eq_true hh] at et;refine⟨vA (.int ((ahead v:Nat):Int)),vA (.int ((y*w+x:Nat):Int)),vA (.int (y:Int)),vA (.int (x:Int)),?_⟩;refine aK (uF e0) (aK (ρ':=wU w h n ahead (uo T x y) v (vA (.int ((ahead v:Nat):Int))) (vA (.int ((y*w+x:Nat):Int))) (vA (.int (y:Int))) (vA (.int (x:Int)))) (acB et ?_) (uF rfl));refine aK (ρ':=wU w h n ahead T v (vA (.int ((ahead v:Nat):Int))) (vA (.int ((y*w+x:Nat):Int))) e6 e7) (uF ?_) (aK (ρ':=wU w h n ahead T v (vA (.int ((ahead v:Nat):Int))) (vA (.int ((y*w+x:Nat):Int))) (vA (.int (y:Int))) (vA (.int (x:Int)))) (acA ?_ ?_) (acD hx hy))
  ·refine au (au rfl rfl div2) rfl ?_;show R.ok (D.int (((v / 2:Nat):Int) - 1))=_;rw[ev];exact congrArg (λ z=>R.ok (D.int z)) (by omega)
  ·refine au rfl rfl ?_;show d9 (.int ((y*w+x:Nat):Int)) (.int (w:Int))=_;rw[lu ⟨by omega,by omega⟩];exact congrArg (λ z=>R.ok (D.int z)) (by rw[<-Int.natCast_ediv,Fl.wD hx])
  ·refine au rfl rfl ?_;show fW (.int ((y*w+x:Nat):Int)) (.int (w:Int))=_;rw[mO (by omega)];exact congrArg (λ z=>R.ok (D.int z)) (by rw[<-Int.natCast_emod,Fl.wC hx])
 ·rw[if_neg hh];rw[decide_eq_false hh] at et;exact⟨vA (.int ((ahead v:Nat):Int)),e5,e6,e7,aK (uF e0) (aK (acC et rfl) (uF rfl))⟩
theorem Tt {G:Nat->Prop} (hw:0 < w) (w20:w<=20) (hG:∀v,G v->v≠0->G (ahead v)) (hn:∀v,G v->v < n) (hc:∀v,G v->v≠0->ahead v / 2=v / 2->∃x y,x < w/\y < h/\v / 2=y*w+x+1):
  ∀ {d N v:Nat} {T:Nat->Nat->Bool} {e4 e5 e6 e7:Option Ent},jF ahead d v->G v->d < N->
   ∃e4' e5' lM qO,Cv (bU (bin (gv 3) (ci 0) kh)) Xm N (wU w h n ahead T v e4 e5 e6 e7)= .nx (wU w h n ahead (fQ w ahead d v T) 0 e4' e5' lM qO)
 |_,0,_,_,_,_,_,_,_,_,hN=>absurd hN (Nat.not_lt_zero _)
 | 0,N+1,v,T,e4,e5,e6,e7,ch,g,hN=>by
  have ch:v=0:=ch;subst ch;refine⟨e4,e5,e6,e7,?_⟩;rw[Cv,show (bU (bin (gv 3) (ci 0) kh)) (wU w h n ahead T 0 e4 e5 e6 e7)= .ok false from bf (au (x:= .int 0) rfl rfl (wL rfl))];rfl
 | d +1,N+1,v,T,e4,e5,e6,e7,ch,g,hN=>by
  obtain⟨v0,Cz⟩:=ch;obtain⟨x4,x5,x6,x7,eb⟩:=aep (T:=T) (h:=h) (hn v g) hw w20 (hc v g v0) (e4:=e4) (e5:=e5) (e6:=e6) (e7:=e7);obtain⟨y4,y5,y6,y7,e⟩:=Tt hw w20 hG hn hc (d:=d) (N:=N) (v:=ahead v) (T:=if ahead v / 2=v / 2 then uo T ((v / 2 - 1) % w) ((v / 2 - 1) / w) else T) (e4:=x4) (e5:=x5) (e6:=x6) (e7:=x7) Cz (hG v g v0) (by omega);refine⟨y4,y5,y6,y7,?_⟩;rw[Cv,show (bU (bin (gv 3) (ci 0) kh)) (wU w h n ahead T v e4 e5 e6 e7)= .ok true from bf (au (x:= .int (v:Int)) rfl rfl (by rw[aa6];congr 2;simp;omega))];show (match Xm (wU w h n ahead T v e4 e5 e6 e7) with
   | .nx ρ'=>Cv (bU (bin (gv 3) (ci 0) kh)) Xm N ρ'
   |_=> .bad)=_
  rw[eb];exact e
theorem aa9 {f:Nat->Int}:D.lst (LI n f)=il ((List.range n).map f):=by unfold LI il;rw[List.map_map];rfl
theorem aer {G:Nat->Prop} {d:Nat} (hw:0 < w) (hh:0 < h) (w20:w<=20) (n2:2<=n) (n9:n<=900) (hG:∀v,G v->v≠0->G (ahead v)) (hn:∀v,G v->v < n) (hc:∀v,G v->v≠0->ahead v / 2=v / 2->∃x y,x < w/\y < h/\v / 2=y*w+x+1) (ch:jF ahead d 1) (g:G 1):
  Xd d8 6 (tk (cJ w h T)) (.lst (LI n (cst ahead)))=some (tk (cJ w h (fQ w ahead d 1 T))):=by
 have hd:=aeo hG hn ch g;obtain⟨e4,e5,e6,e7,e⟩:=Tt (h:=h) hw w20 hG hn hc (d:=d) (N:=1000) (v:=1) (T:=T) (e4:=none) (e5:=none) (e6:=none) (e7:=none) ch g (by omega);have eg:d8 (some (.val (tk (cJ w h T)))::some (.val (.lst (LI n (cst ahead))))::List.replicate 6 none)= .nx (wU w h n ahead (fQ w ahead d 1 T) 0 e4 e5 e6 e7):=by
  refine aK (ρ':=[vA (tk (cJ w h T)),vA (.lst (LI n (cst ahead))),vA (.int (w:Int)),none,none,none,none,none]) (uF (aV (aA (au (y:= .int ((0:Nat):Int)) rfl rfl (UW hh))) ?_)) (aK (uF rfl) e);simp[bZ]
 have hz:(List.range n).map (cst ahead)≠[]/\∀row∈cJ w h T,row≠[]:=by
  refine⟨λ z=>?_,λ row hr z=>?_⟩
  ·have:=congrArg List.length z;rw[z1g,z2d] at this;simp at this;omega
  ·unfold cJ at hr;obtain⟨y,_,rfl⟩:=List.mem_map.mp hr;have:=congrArg List.length z;rw[z1g,z2d] at this;simp at this;omega
 rw[aa9] at eg |-;unfold Xd;rw[IV,Sv];simp only;rw[if_pos hz,eg];show (if (Iz (tk (cJ w h (fQ w ahead d 1 T)))).isSome=true then some (tk (cJ w h (fQ w ahead d 1 T))) else none)=_;rw[IV];rfl
end
end nP
namespace Fl
section
variable {W H k:Nat} {c:Nat->Nat->Int} {T T':Nat->Nat->Bool} {s:Nat->Nat->Nat} {p:Nat->Int}
theorem d7.congr (e:∀x y,x < W->y < H->T' x y=T x y) (S:d7 W H k T s):d7 W H k T' s:=⟨S.lt,S.rP,S.nr,λ x y hx hy=>by rw[e x y hx hy];exact S.tk x y hx hy⟩
theorem gQ.congr (e:∀x y,x < W->y < H->T' x y=T x y) {u v:Nat} {w:Int} (a:gQ W H k c T' s u v w):gQ W H k c T s u v w:=by
 cases a with
 |st hx=>exact .st hx
 |cl hx hy t=>exact .cl hx hy (by rw[<-e _ _ hx hy];exact t)
 |dn hx hx' hy h1 h2=>exact .dn hx hx' hy h1 h2
 |en hx hy=>exact .en hx hy
 |ue hi hy=>exact .ue hi hy
 |up hi hy=>exact .up hi hy
 |bk hi hy=>exact .bk hi hy
theorem gj.congr (e:∀x y,x < W->y < H->T' x y=T x y) (P:gj W H k c T s p):gj W H k c T' s p:=⟨P.z,P.nn,λ u v w a=>P.ar u v w (a.congr e)⟩
end
theorem lZ.weak {A B:Nat->Nat->Int->Prop} {n:Nat} {far:Int} {q least:Nat->Int} {ahead:Nat->Nat} (h:∀u v c,A u v c->B u v c) (S:lZ A n far q least ahead):lZ B n far q least ahead:=
 ⟨S.z,S.lo,S.hi,λ v hv h0 hl=>let ⟨c,a,l⟩:=S.ar v hv h0 hl;⟨c,h _ _ _ a,l⟩,S.ch⟩
end Fl
namespace nP
open PySem PySem.Spec L2 Pu
open Fl (inn out gQ d7 lZ gj jF vis fQ uo)
section
variable {w h k m:Nat} {C:Nat->Nat->Int} {s:Nat->Nat->Nat} {p:Nat->Int} {ρ:ao}
theorem acE {iT iA iL iH iS n m:Nat} {f1:ao->R (List D)} {F1:List D->R D} {f2 f3 f5:ao->R D} {gC:ao->So} {ds:List D} {dT dA dL dH J4 dS:D} {z:Int} {zs:List Int}
  (e1:f1 ρ= .ok ds) (hl:ds.length=n) (e2:F1 ds= .ok dT) (e3:f2 (ρ.set iT (some (.val dT)))= .ok dA) (e4:f3 ((ρ.set iT (some (.val dT))).set iA (some (.val dA)))= .ok (.tup [dL,dH])) (e5:Xd gC m dT dH=some J4) (e6:IK dL=some (z::zs))
  (e7:f5 ((((ρ.set iT (some (.val J4))).set iA none).set iL (some (.val dL))).set iH none)= .ok dS):
  Ge iT iA iL iH iS f1 n F1 f2 f3 gC m f5 ρ= .nx (((((ρ.set iT (some (.val J4))).set iA none).set iL (some (.val dL))).set iH none).set iS (some (.val dS))):=by
 unfold Ge;rw[e1,R.bC,if_pos hl,e2];simp only[e3,e4,e5,e6,e7]
def nn (w h:Nat):Nat:=2*(w*h+1)
structure nR (w h:Nat) (C:Nat->Nat->Int) (k:Nat) (s:Nat->Nat->Nat) (p:Nat->Int):Prop where
 sm:d7 w h k (TT k s) s
 po:gj w h k (λ x y=>C y x) (TT k s) s p
def X7 (w h:Nat) (C:Nat->Nat->Int) (m k:Nat) (s:Nat->Nat->Nat) (e5 e6 e7 e8:Option Ent):ao:=[vA (bD w h C),vA (.int (m:Int)),vA (.int (w:Int)),vA (.int (h:Int)),vA (pD h k s),e5,e6,e7,e8]
theorem aes:(AD w h C (TT k s)).length<=w+4*w*h:=by
 unfold AD;rw[z1d,z1g,z2d];have:=jm (f:=λ y=>(List.range w).flatMap (cA w h C (TT k s) y)) (m:=4*w) (l:=List.range h) λ y _=>by
  have:=jm (f:=cA w h C (TT k s) y) (m:=4) (l:=List.range w) λ _ _=>NQ;rw[z2d] at this;exact this
 rw[z2d] at this;omega
theorem aeu:(AU w h k C s).length<=2*h*k:=by
 unfold AU;have:=jm (f:=λ i=>(List.range h).reverse.flatMap (uA w h C (s i))) (m:=2*h) (l:=List.range k) λ i _=>by
  have:=jm (f:=uA w h C (s i)) (m:=2) (l:=(List.range h).reverse) λ _ _=>z0g _;rw[List.length_reverse,z2d] at this;exact this
 rw[z2d] at this;exact this
theorem Ah {a b c d:Nat} (h1:a<=c) (h2:b<=d):a*b<=c*d:=Nat.mul_le_mul h1 h2
theorem acF (hw:1<=w) (hh:1<=h) (w20:w<=20) (dU:h<=20) (hk:k < w) (hc:∀x y,x < w->y < h->0<=C y x) (hC:3*(Fl.sm h λ y=>Fl.sm w λ x=>C y x) < 1000000) (I:nR w h C k s p) {e5 e6 e7 e8:Option Ent}:
  ∃s' p' lM qO Gx,flB (X7 w h C m k s e5 e6 e7 e8)= .nx (X7 w h C m (k+1) s' (vA (.lst (LI (nn w h) p'))) lM qO Gx)/\nR w h C (k+1) s' p':=by
 obtain⟨S,Q⟩:=I;have hwh:w*h<=20*20:=Ah w20 dU;have hwp:0 < w*h:=Nat.mul_pos hw hh;have hA:∀u v c,Rel (AD w h C (TT k s)++AU w h k C s) u v c->u < nn w h/\v < nn w h/\v≠0:=λ u v c a=>(Jj a).nodes S hw hh;have hf:∀u v c,Rel (AD w h C (TT k s)++AU w h k C s) u v c->p v<=p u+c:=λ u v c a=>Q.ar _ _ _ (Jj a);have hc':∀x y,x < w->y < h->0<=(λ x y=>C y x) x y:=hc;have hS0:0<=Fl.sm h λ y=>Fl.sm w λ x=>C y x:=Fl.lE λ y hy=>Fl.lE λ x hx=>hc x y hx hy;obtain⟨p',ah,eS,Sc,ex⟩:=Qt (n:=nn w h) (A:=AD w h C (TT k s)++AU w h k C s) (q:=p) (by unfold nn;omega) (by unfold nn;omega) hA hf (by rw[Q.z];exact Int.le_refl _) Q.nn (λ v hv=>by
  have:=Q.le hw hh S hc' hk hv;have hC':3*(Fl.sm h λ y=>Fl.sm w λ x=>(λ x y=>C y x) x y) < 1000000:=hC;have ag6:0<=(Fl.sm h λ y=>Fl.sm w λ x=>(λ x y=>C y x) x y):=hS0;omega)
 obtain⟨P,d,G,ch,g1,hG⟩:=Fl.searched hw hh S Q hc' hk hC (Sc.weak λ u v c a=>Jj a) λ u v c a=>ex u v c (acw a);obtain⟨B,P'⟩:=Fl.augment hw hh S P hG ch g1;have S':=B.sms hh;have et:∀x y,x < w->y < h->TT (k+1) (Fl.sq w (fQ w ah d 1 (TT k s))) x y=fQ w ah d 1 (TT k s) x y:=λ x y hx hy=>by
  have:=(S'.tk x y hx hy);cases e1:fQ w ah d 1 (TT k s) x y with
  |true=>exact X3.mpr (this.mp e1)
  | false=>
   cases e2:TT (k+1) (Fl.sq w (fQ w ah d 1 (TT k s))) x y with
   |false=>rfl
   |true=>rw[this.mpr (X3.mp e2)] at e1;cases e1
 have G2:∀v,G v/\v < nn w h->v≠0->G (ah v)/\ah v < nn w h:=λ v g v0=>by
  obtain⟨g',c,a,_⟩:=hG v g.1 v0;exact⟨g',(a.nodes S hw hh).1⟩
 have eC:=aer (T:=TT k s) (n:=nn w h) (G:=λ v=>G v/\v < nn w h) hw hh w20 (by unfold nn;omega) (by unfold nn;omega) G2 (λ v g=>g.2) (λ v g v0 e=>by
  obtain⟨_,c,a,_⟩:=hG v g.1 v0;obtain⟨x,y,hx,hy,hcl⟩:=a.cell S e;refine⟨x,y,hx,hy,?_⟩;rcases hcl with⟨_,z,_⟩ |⟨_,z,_⟩
  ·rw[z,Fl.iQ]
  ·rw[z,Fl.jj]) ch ⟨g1,by unfold nn;omega⟩
 refine⟨Fl.sq w (fQ w ah d 1 (TT k s)),p',vA (tk (cJ w h (fQ w ah d 1 (TT k s)))),none,none,?_,⟨S'.congr et,P'.congr et⟩⟩;obtain⟨N0,hN0⟩:∃N0,nn w h=N0+1:=⟨nn w h - 1,by unfold nn;omega⟩;have e6:IK (.lst (LI (nn w h) p'))=some (p' 0::(List.range N0).map λ i=>p' (i+1)):=by
  rw[aa9,Sv,hN0,List.range_succ_eq_map,z1h,List.map_map];rfl
 have lA:=aes (w:=w) (h:=h) (C:=C) (k:=k) (s:=s);have lU:=aeu (w:=w) (h:=h) (C:=C) (k:=k) (s:=s);have b1:4*w*h<=4*20*20:=Ah (Ah (z0g 4) w20) dU;have b2:2*h*k<=2*20*20:=Ah (Ah (z0g 2) dU) (by omega);refine (acE (ds:=[pD h k s,.int (w:Int),.int (h:Int)]) (aD rfl (aD rfl (aA rfl))) rfl (aam dU w20 (by omega)) (dA:= .lst ((AD w h C (TT k s)++AU w h k C s).map eV)) ?_ (dL:= .lst (LI (nn w h) p')) (dH:= .lst (LI (nn w h) (cst ah))) ?_ eC e6 (dS:=pD h (k+1) (Fl.sq w (fQ w ah d 1 (TT k s)))) ?_).trans rfl
 ·rw[List.map_append];refine au (aW (aD rfl (aA rfl)) (N5 hh dU w20)) (aW (aD rfl (aA rfl)) (U0 hh dU (by omega) λ i hi y hy=>S.lt i y hi hy)) (acg ?_);rw[z1g,z1g];omega
 ·refine aW (aD rfl (aA (x:= .int ((nn w h:Nat):Int)) (au rfl (au (y:= .int 1) (au rfl rfl (yj (a:=w) (b:=h) (by omega))) rfl rfl) (yj (a:=2) (b:=w*h+1) (by omega))))) eS
 ·refine aW (aD rfl (aA (x:= .int ((k+1:Nat):Int)) (au (x:= .int (k:Int)) (y:= .int 1) (aV (aA rfl) ?_) rfl rfl))) (U3 dU w20 (by omega) λ y hy=>B.row hh hy);show bZ [pD h k s]=_;simp[pD,bZ]
theorem acG {p:ao->R Bool} {b:ao->So} {n:Nat} {ρ ρ':ao} (e1:p (cG ρ)= .ok true) (e2:b ρ= .nx ρ'):gH p b (n+1) ρ=gH p b n ρ':=by rw[gH,e1];simp only[e2]
theorem acH {p:ao->R Bool} {b:ao->So} {n:Nat} {ρ:ao} (e1:p (cG ρ)= .ok false):gH p b (n+1) ρ= .nx ρ:=by rw[gH,e1]
theorem Tv (hw:1<=w) (hh:1<=h) (w20:w<=20) (dU:h<=20) (hm:m<=w) (hc:∀x y,x < w->y < h->0<=C y x) (hC:3*(Fl.sm h λ y=>Fl.sm w λ x=>C y x) < 1000000):
  ∀ {N k:Nat} {s:Nat->Nat->Nat} {p:Nat->Int} {e5 e6 e7 e8:Option Ent},nR w h C k s p->k<=m->m - k < N->(k=0\/e5=vA (.lst (LI (nn w h) p)))->1<=m->
   ∃s' p' lM qO Gx,gH (bU (bin (aB bZ (ak (gv 4) nA)) (gv 1) ltI)) flB N (X7 w h C m k s e5 e6 e7 e8)= .nx (X7 w h C m m s' (vA (.lst (LI (nn w h) p'))) lM qO Gx)/\nR w h C m s' p'
 |0,k,s,p,e5,e6,e7,e8,I,hk,hN,h0,m1=>absurd hN (Nat.not_lt_zero _)
 | N +1,k,s,p,e5,e6,e7,e8,I,hk,hN,h0,m1=>by
  have et:(bU (bin (aB bZ (ak (gv 4) nA)) (gv 1) ltI)) (cG (X7 w h C m k s e5 e6 e7 e8))= .ok (decide (k < m)):=by
   refine bf (au (x:= .int (k:Int)) (y:= .int (m:Int)) (aV (aA rfl) ?_) rfl Tj);show bZ [pD h k s]=_;simp[pD,bZ]
  by_cases hkm:k < m
  ·obtain⟨s',p',x6,x7,x8,eb,I'⟩:=acF (m:=m) hw hh w20 dU (show k < w by omega) hc hC I (e5:=e5) (e6:=e6) (e7:=e7) (e8:=e8);obtain⟨s2,p2,y6,y7,y8,e,I2⟩:=Tv hw hh w20 dU hm hc hC (N:=N) (e6:=x6) (e7:=x7) (e8:=x8) I' hkm (by omega) (.inr rfl) m1;refine⟨s2,p2,y6,y7,y8,?_,I2⟩;rw[decide_eq_true hkm] at et;rw[acG et eb];exact e
  ·have e:k=m:=by omega
   subst e;rw[decide_eq_false hkm] at et;refine⟨s,p,e6,e7,e8,?_,I⟩;rw[acH et,<-h0.resolve_left (by omega)]
theorem acI (hw:1<=w) (hh:1<=h) (w20:w<=20) (dU:h<=20) (m1:1<=m) (hm:m<=w) (hc:∀x y,x < w->y < h->0<=C y x) (hC:3*(Fl.sm h λ y=>Fl.sm w λ x=>C y x) < 1000000):
  ∃s p,wJ [bD w h C,.int (m:Int)]= .ok (.tup [pD h m s,.lst (LI (nn w h) p)])/\nR w h C m s p:=by
 have hT:∀x y,TT 0 (λ _ _=>0) x y=false:=λ x y=>rfl;have I0:nR w h C 0 (λ _ _=>0) (λ _=>0):=⟨d7.none hT,gj.none (λ x y hx hy=>hc x y hx hy) hT⟩;obtain⟨s',p',x6,x7,x8,e,I⟩:=Tv hw hh w20 dU hm hc hC (N:=64) (e5:=vA (.lst [])) (e6:=none) (e7:=none) (e8:=none) I0 (Nat.zero_le _) (by omega) (.inl rfl) m1;refine⟨s',p',?_,I⟩;refine cC (aK (abx (Gy hh rfl) (aV (aA rfl) pU)) (aK (aZ (jw rfl) rfl) (aK (aZ (jw rfl) rfl) (aK e (bJ (dh (aD rfl (aA rfl))))))))
end
end nP
namespace nP
open PySem PySem.Spec L2 Pu
open Fl (inn out gQ d7 lZ gj)
variable {v:Int} {x y:Nat} {q:Nat->Nat->Nat}
section
variable {w h m:Nat} {f C:Nat->Nat->Int} {s:Nat->Nat->Nat} {p:Nat->Int} {ρ:ao}
theorem X8 {n:Nat} {g:Nat->Int} (hg:∀x < n,0<=g x/\g x<=99) (hx:x < n):0<=gap n g x/\gap n g x<=99:=by
 have h1:=hg (x - 1) (by omega);have h2:=hg (min (x+1) (n - 1)) (by omega);unfold gap ab;split <;> omega
theorem Yb (o:Ok w h f) (hx:x < w) (hy:y < h):0<=bQ w h f y x/\bQ w h f y x<=198:=by
 have h1:=X8 (o.c y hy) hx;have h2:=X8 (n:=h) (g:=λ y=>f y x) (λ y hy=>o.c y hy x hx) hy;unfold bQ;omega
theorem acJ (o:Ok w h f):3*(Fl.sm h λ y=>Fl.sm w λ x=>bQ w h f y x) < 1000000:=by
 have h1:(Fl.sm h λ y=>Fl.sm w λ x=>bQ w h f y x)<=h*(w*198):=by
  rw[<-Fl.ji (a:=(w:Int)*198) h];refine Fl.eN λ y hy=>?_;rw[<-Fl.ji (a:=198) w];exact Fl.eN λ x hx=>(Yb o hx hy).2
 have h2:(h:Int)*(w*198)<=20*(20*198):=by
  have hw:=o.w2;have hh:=o.h2;have e1:(w:Int)*198<=20*198:=by omega
  have e2:(h:Int)*(w*198)<=h*(20*198):=Int.mul_le_mul_of_nonneg_left e1 (by omega);omega
 omega
theorem Ai {g:Nat->Int}:∀n:Nat,((List.range n).map g).sum=Fl.sm n g
 |0=>rfl
 | n+1=>by
  rw[List.range_succ,List.map_append,List.sum_append,Ai n];show _+(g n+0)=Fl.sm n g+g n;omega
def pri (w:Nat) (C:Nat->Nat->Int) (p:Nat->Int) (y x:Nat):Int:=if p (out w x y) - p (inn w x y) - C y x < 0 then 0 else p (out w x y) - p (inn w x y) - C y x
theorem aev:0<=pri w C p y x:=by unfold pri;split <;> omega
theorem aew:p (out w x y) - p (inn w x y)<=C y x+pri w C p y x:=by unfold pri;split <;> omega
theorem aex {k:Nat} {T:Nat->Nat->Bool} (hh:1<=h) (P:gj w h k (λ x y=>C y x) T s p) {q:Nat->Nat} (Q:mq w h q):p 1<=Fl.sm h λ y=>C y (q y)+pri w C p y (q y):=by
 have ht:=P.top hh (Q.lt 0 hh);have t:=Fl.Nh (W:=w) (H:=h) (s:=λ _=>q) hh p 0;have d0:Fl.sm h (Fl.dl w h (λ _=>q) p 0)<=0:=by
  rw[<-Fl.nO h];refine Fl.eN λ y hy=>?_;show (if y+1 < h then p (inn w (q (y+1)) (y+1)) else p 1) - p (out w (q y) y)<=0;by_cases hy1:y+1 < h
  ·rw[if_pos hy1];obtain⟨h1,h2⟩:=Q.st y hy1;have:=P.ar _ _ _ (.dn (Q.lt y hy) (Q.lt _ hy1) hy1 h1 h2);omega
  ·rw[if_neg hy1];have:=P.ar _ _ _ (.en (Q.lt y hy) (show y+1=h by omega));omega
 have le:Fl.sm h (λ y=>p (out w (q y) y) - p (inn w (q y) y))<=Fl.sm h λ y=>C y (q y)+pri w C p y (q y):=Fl.eN λ y _=>aew;have t:Fl.sm h (λ y=>p (out w (q y) y) - p (inn w (q y) y))=p 1 - p (inn w (q 0) 0) - Fl.sm h (Fl.dl w h (λ _=>q) p 0):=t;omega
theorem total (hh:1<=h) (I:nR w h C m s p):(m:Int)*p 1 - (Fl.sm h λ y=>Fl.sm w λ x=>pri w C p y x)=Fl.sm m λ i=>Fl.sm h λ y=>C y (s i y):=by
 have e1:=I.po.Sf I.sm hh;have co:=I.po.cells I.sm;have e2:(Fl.sm h λ y=>Fl.sm w λ x=>pri w C p y x)=Fl.Sf w h (TT m s) p - Fl.sm h λ y=>Fl.sm w λ x=>if TT m s x y=true then C y x else 0:=by
  unfold Fl.Sf;rw[<-Fl.zP];refine Fl.aY λ y hy=>?_;rw[<-Fl.zP];refine Fl.aY λ x hx=>?_;obtain⟨c1,c2⟩:=co x y hx hy;have c1:TT m s x y=true->p (inn w x y)+C y x<=p (out w x y):=c1;have c2:TT m s x y=false->p (out w x y)<=p (inn w x y)+C y x:=c2;unfold pri;cases t:TT m s x y with
  |true=>have:=c1 t;rw[if_pos rfl,if_pos rfl,if_neg (by omega)]
  | false=>
   have:=c2 t;rw[if_neg Bool.false_ne_true,if_neg Bool.false_ne_true];split <;> omega
 have e3:(Fl.sm h λ y=>Fl.sm w λ x=>if TT m s x y=true then C y x else 0)=Fl.sm m λ i=>Fl.sm h λ y=>C y (s i y):=by
  rw[Fl.aY λ y hy=>I.sm.row hy λ x=>C y x];exact Fl.jW m h
 omega
theorem nR.seam (I:nR w h C m s p) {i:Nat} (hi:i < m):mq w h (s i):=⟨λ y hy=>I.sm.lt i y hi hy,λ y hy=>I.sm.nr i y hi hy⟩
end
section
variable {w h m k n:Nat} {g:Nat->Int} {f C:Nat->Nat->Int} {s:Nat->Nat->Nat} {p:Nat->Int} {ρ:ao}
theorem U4 (hx:x < n):gap n (λ x=>g (n - 1 - x)) x=gap n g (n - 1 - x):=by
 simp only[gap];rw[ad8];rw[show n - 1 - min (x+1) (n - 1)=n - 1 - x - 1 by omega,show n - 1 - (x - 1)=min (n - 1 - x+1) (n - 1) by omega]
theorem U5 (hx:x < w):bQ w h (λ y x=>f y (w - 1 - x)) y x=bQ w h f y (w - 1 - x):=by
 unfold bQ;rw[U4 (g:=f y) hx]
structure Dj (w h m:Nat) (q:Nat->Nat->Nat):Prop where
 se:∀i,i < m->mq w h (q i)
 ne:∀i j y,i < m->j < m->i≠j->y < h->q i y≠q j y
def cs (h m:Nat) (C:Nat->Nat->Int) (q:Nat->Nat->Nat):Int:=Fl.sm m λ i=>Fl.sm h λ y=>C y (q i y)
theorem aey {g:Nat->Int} {a:Nat->Nat} (hg:∀x,x < w->0<=g x) (ha:∀i,i < m->a i < w) (hn:∀i j,i < m->j < m->i≠j->a i≠a j):Fl.sm m (λ i=>g (a i))<=Fl.sm w g:=by
 have e:Fl.sm m (λ i=>g (a i))=Fl.sm m λ i=>Fl.sm w λ x=>if x=a i then g x else 0:=Fl.aY λ i hi=>(Fl.BK (f:=g) (ha i hi)).symm;rw[e,Fl.jW];refine Fl.eN λ x hx=>?_;by_cases c:∃i,i < m/\a i=x
 ·obtain⟨i,hi,rfl⟩:=c;have:Fl.sm m (λ j=>if a i=a j then g (a i) else 0)=Fl.sm m λ j=>if j=i then g (a i) else 0:=Fl.aY λ j hj=>by
   by_cases z:j=i
   ·subst z;rw[if_pos rfl,if_pos rfl]
   ·rw[if_neg z,if_neg (λ q=>hn i j hi hj (Ne.symm z) q)]
  rw[this,Fl.mQ hi];exact Int.le_refl _
 ·have:Fl.sm m (λ j=>if x=a j then g x else 0)=0:=Fl.lD λ j hj=>if_neg λ q=>c ⟨j,hj,q.symm⟩;rw[this];exact hg x hx
abbrev sp (w h:Nat) (C:Nat->Nat->Int) (p:Nat->Int):Int:=Fl.sm h λ y=>Fl.sm w λ x=>pri w C p y x
theorem wd (hh:1<=h) (I:nR w h C k s p) (d:Dj w h m q):(m:Int)*p 1 - sp w h C p<=cs h m C q:=by
 have e1:(m:Int)*p 1<=Fl.sm m λ i=>(Fl.sm h λ y=>C y (q i y))+Fl.sm h λ y=>pri w C p y (q i y):=by
  rw[<-Fl.ji];refine Fl.eN λ i hi=>?_;rw[<-Fl.iZ];exact aex hh I.po (d.se i hi)
 rw[Fl.iZ,Fl.jW (f:=λ i y=>pri w C p y (q i y))] at e1;have e2:(Fl.sm h λ y=>Fl.sm m λ i=>pri w C p y (q i y))<=sp w h C p:=Fl.eN λ y hy=>aey (g:=pri w C p y) (a:=λ i=>q i y) (λ _ _=>aev) (λ i hi=>(d.se i hi).lt y hy) λ i j hi hj n=>d.ne i j y hi hj n hy;unfold cs;omega
theorem N8 (I:nR w h C m s p) {i y:Nat} (hy:y < h):∀{j:Nat},i < j->j < m->s i y < s j y
 |0,h0,_=>absurd h0 (by omega)
 | j +1,h0,h1=>by
  have:=I.sm.rP j y h1 hy;by_cases c:i=j
  ·subst c;exact this
  ·have:=N8 I hy (i:=i) (j:=j) (by omega) (by omega);omega
theorem nR.dj (I:nR w h C m s p):Dj w h m s:=⟨λ i hi=>I.seam hi,λ i j y hi hj n hy=>by
 rcases Nat.lt_or_gt_of_ne n with c |c
 ·have:=N8 I hy c hj;omega
 ·have:=N8 I hy c hi;omega⟩
theorem Yc (hh:1<=h) (I:nR w h C m s p):(m:Int)*p 1 - sp w h C p=cs h m C s:=total hh I
theorem opt (hh:1<=h) (I:nR w h C m s p) (d:Dj w h m q):cs h m C s<=cs h m C q:=by rw[<-Yc hh I];exact wd hh I d
def Is (w h:Nat) (C:Nat->Nat->Int) (m:Nat) (v:Int):Prop:=∃s p,nR w h C m s p/\v=cs h m C s
theorem Is.one {v':Int} (hh:1<=h) (a:Is w h C m v) (b:Is w h C m v'):v=v':=by
 obtain⟨s,p,I,rfl⟩:=a;obtain⟨s',p',I',rfl⟩:=b;exact Int.le_antisymm (opt hh I I'.dj) (opt hh I' I.dj)
def cv (w h:Nat) (C:Nat->Nat->Int) (m:Nat):Int:= @Classical.epsilon Int ⟨0⟩ (Is w h C m)
theorem BX (hh:1<=h) (a:Is w h C m v):cv w h C m=v:=Is.one hh (Classical.epsilon_spec (p:=Is w h C m) ⟨v,a⟩) a
theorem abb (hh:1<=h) (a:Is w h C m v):Is w h C m (cv w h C m):=by rw[BX hh a];exact a
theorem is_zero (hc:∀x y,x < w->y < h->0<=C y x):Is w h C 0 0:=by
 have hT:∀x y,TT 0 (λ _ _=>0) x y=false:=λ x y=>rfl;exact⟨λ _ _=>0,λ _=>0,⟨d7.none hT,gj.none (λ x y hx hy=>hc x y hx hy) hT⟩,rfl⟩
theorem aez {a b c:Int} (hh:1<=h) (ha:Is w h C k a) (hb:Is w h C (k+1) b) (hc:Is w h C (k+1+1) c):b - a<=c - b:=by
 obtain⟨s0,p0,I0,rfl⟩:=ha;obtain⟨s1,p1,I1,rfl⟩:=hb;obtain⟨s2,p2,I2,rfl⟩:=hc;have e:=Yc hh I1;have e0:=wd hh I1 I0.dj;have e2:=wd hh I1 I2.dj;have:((k+1:Nat):Int)*p1 1=(k:Int)*p1 1+p1 1:=by rw[Int.natCast_add,Int.add_mul];simp
 have:((k+1+1:Nat):Int)*p1 1=((k+1:Nat):Int)*p1 1+p1 1:=by rw[Int.natCast_add,Int.add_mul];simp
 omega
theorem aeA (I:nR w h C w s p) {i:Nat} (hi:i < w) (hy:y < h):s i y=i:=by
 have lo:∀{j:Nat},j < w->j<=s j y:=λ {j}=>by
  induction j with
  |zero=>intro _;exact Nat.zero_le _
  | succ j ih=>
   intro hj;have:=I.sm.rP j y hj hy;have:=ih (by omega);omega
 have hi':∀{d j:Nat},j+d+1=w->s j y<=j:=λ {d}=>by
  induction d with
  |zero=>intro j e;have:=I.sm.lt j y (by omega) hy;omega
  | succ d ih=>
   intro j e;have:=I.sm.rP j y (by omega) hy;have:=ih (j:=j+1) (by omega);omega
 have h1:=lo hi;have h2:=hi' (d:=w - 1 - i) (j:=i) (by omega);omega
theorem aeB (I:nR w h C w s p):cs h w C s=Fl.sm h λ y=>Fl.sm w λ x=>C y x:=by
 unfold cs;rw[Fl.jW];exact Fl.aY λ y hy=>Fl.aY λ i hi=>by rw[aeA I hi hy]
abbrev Gz (w:Nat) (f:Nat->Nat->Int):Nat->Nat->Int:=λ y x=>f y (w - 1 - x)
theorem Dj.Gz (d:Dj w h m q):Dj w h m λ i y=>w - 1 - q i y:=
 ⟨λ i hi=>⟨λ y hy=>by have:=(d.se i hi).lt y hy;show w - 1 - q i y < w;omega,λ y hy=>by
   have:=(d.se i hi).lt y (by omega);have:=(d.se i hi).lt (y+1) hy;have:=(d.se i hi).st y hy;show w - 1 - q i (y+1)<=w - 1 - q i y+1/\w - 1 - q i y<=w - 1 - q i (y+1)+1;omega⟩,λ i j y hi hj n hy=>by
  have:=(d.se i hi).lt y hy;have:=(d.se j hj).lt y hy;have:=d.ne i j y hi hj n hy;show w - 1 - q i y≠w - 1 - q j y;omega⟩
theorem Yd (d:Dj w h m q):cs h m (bQ w h (Gz w f)) q=cs h m (bQ w h f) λ i y=>w - 1 - q i y:=by
 unfold cs;exact Fl.aY λ i hi=>Fl.aY λ y hy=>U5 ((d.se i hi).lt y hy)
theorem acK (d:Dj w h m q):cs h m (bQ w h (Gz w f)) (λ i y=>w - 1 - q i y)=cs h m (bQ w h f) q:=by
 rw[Yd d.Gz];unfold cs;exact Fl.aY λ i hi=>Fl.aY λ y hy=>by
  have:=(d.se i hi).lt y hy;show bQ w h f y (w - 1 - (w - 1 - q i y))=_;rw[show w - 1 - (w - 1 - q i y)=q i y by omega]
theorem aeC {v':Int} (hh:1<=h) (a:Is w h (bQ w h f) m v) (b:Is w h (bQ w h (Gz w f)) m v'):v'=v:=by
 obtain⟨s,p,I,rfl⟩:=a;obtain⟨s',p',I',rfl⟩:=b;refine Int.le_antisymm ?_ ?_
 ·have:=opt hh I' I.dj.Gz;rw[acK I.dj] at this;exact this
 ·have:=opt hh I I'.dj.Gz;rw[<-Yd I'.dj] at this;exact this
end
section
variable {T:Nat->Nat->Nat->Int} {M:Nat->Nat->Int} {ns:List Int}
section
variable {s:Nat->Nat}
theorem Ye:lsD [wS T M h s]=sm h s:=by
 show D.tup (((List.range h).map λ y=>((s y:Nat):Int)).map .int)=_;rw[List.map_map];rfl
theorem acL {ρ1:ao} {gt:D->ao->R ao} {b:ao->So} {x:D} {xs:List D} {d:D} (e1:gt x ρ= .ok ρ1) (e2:b ρ1= .rt d):forL gt b (x::xs) ρ= .rt d:=by rw[forL,e1];simp only[e2]
end
variable {w h m k n:Nat} {g:Nat->Int} {f C:Nat->Nat->Int} {s:Nat->Nat->Nat} {p:Nat->Int} {ρ:ao}
theorem Aj (o:Ok w h f) (h1:1<=m) (h6:m<=6):mW [bD w h f,.int (m:Int)]= .ok .non:=
 Fi (aK (jV (aW (aA rfl) (wK o))) (cL (zq (iK (bf (aW (aA rfl) vC))) (iK (bf (zp rfl rfl (u9 (by omega)) rfl (u9 (by omega)))))) rfl))
theorem Tw {a b:Nat}:rM (.int (a:Int)) (.int (b:Int))= .ok (.bl (decide (b < a))):=by
 show R.ok (D.bl (decide ((b:Int) < (a:Int))))=_;simp
theorem Qu (o:Ok w h f) (h1:1<=m) (h6:m<=6) (hm:w < m):gR [bD w h f,.int (m:Int)]= .ok .non:=by
 refine cC (aK (jV (aW (aD rfl (aA rfl)) (Aj o h1 h6))) (lR (gP (bf (b:=true) (au rfl (Gy o.h1 rfl) ?_)) (bJ rfl))));rw[Tw,decide_eq_true hm]
theorem Qv (o:Ok w h f) (h1:1<=m) (h6:m<=6) (hm:m<=w) {d:D} (e:wJ [bD w h (bQ w h f),.int (m:Int)]= .ok (.tup [pD h m s,d])):gR [bD w h f,.int (m:Int)]= .ok (pD h m s):=by
 refine cC (aK (jV (aW (aD rfl (aA rfl)) (Aj o h1 h6))) (aK (cL (bf (b:=false) (au rfl (Gy o.h1 rfl) ?_)) rfl) (bJ (au (aW (aD (aW (aA rfl) (Ae o)) (aA rfl)) e) rfl rfl))));rw[Tw,decide_eq_false (by omega)]
theorem Yg {F:Nat->D} {a:D} {n k:Nat} (hk:k < n):(((List.range n).map F).take k++[a])++((List.range n).map F).drop (k+1)=(List.range n).map λ i=>if i=k then a else F i:=by
 rw[List.append_assoc];have e:=List.set_eq_take_append_cons_drop (l:=(List.range n).map F) (i:=k) (a:=a);rw[if_pos (by simpa using hk)] at e;refine Eq.trans e.symm (List.ext_getElem (by simp) λ i h1 h2=>?_);rw[List.getElem_set];simp only[List.getElem_map,List.getElem_range];by_cases z:k=i
 ·rw[if_pos z,if_pos z.symm]
 ·rw[if_neg z,if_neg λ q=>z q.symm]
theorem free_eq (o:Ok w h f):mR [bD w h f]= .ok (bD w h λ _ _=>0):=by
 have dU:=o.h2;exact cC (bJ (aV (aA (bN (c:=λ y=>row w (f y)) (h:=λ _=>row w λ _=>0) (l:=List.range h) (iz rfl) (by rw[z2d];omega) λ y hy=>cu rfl (au (dh (aA rfl)) (aV (aA rfl) nQ) (mul_one o.w1 o.w2)))) rfl))
theorem mk0:Mk w h λ _ _=>0:=λ _ _=>⟨Int.le_refl 0,(by decide:(0:Int)<=2)⟩
theorem aeD (hns:ns.length<=1000000):∃w h f,mU [.lst (ns.map .int),.int 0,.int 5,.int 4]= .ok (bD w h f)/\Ok w h f/\w<=5/\h<=4:=by
 obtain⟨e1,h1,h2⟩:=Fq (k:=0) (m:=5) hns (by omega) (by omega);obtain⟨e2,h3,h4⟩:=Fq (k:=0+1) (m:=4) hns (by omega) (by omega);obtain⟨w,hw⟩:=Int.eq_ofNat_of_zero_le (show 0<=1+dr ns 0 5 by omega);obtain⟨h,hh⟩:=Int.eq_ofNat_of_zero_le (show 0<=1+dr ns (0+1) 4 by omega);obtain⟨f,e,o⟩:=Uw (ns:=ns) (a:=0+2) (w:=w) (h:=h) hns (by omega) (by omega) (by omega) (by omega) (by omega);refine⟨w,h,f,cC (bJ (aW (aD rfl (aD (au rfl rfl rfl) (aD (au rfl (aW (aD rfl (aD rfl (aA rfl))) e1) (congrArg (λ z=>R.ok (D.int z)) hw)) (aA (au rfl (aW (aD rfl (aD (au rfl rfl rfl) (aA rfl))) e2) (congrArg (λ z=>R.ok (D.int z)) hh)))))) e)),o,by omega,by omega⟩
theorem worst {f:Nat->Nat->Int} (o:Ok w h f):∀x y,x < w->y < h->0<=bQ w h f y x:=λ x y hx hy=>(Yb o hx hy).1
theorem wV (o:Ok w h f) (h1:1<=m) (h6:m<=6) (hm:m<=w):∃s p,gR [bD w h f,.int (m:Int)]= .ok (pD h m s)/\nR w h (bQ w h f) m s p:=by
 obtain⟨s,p,e,I⟩:=acI (C:=bQ w h f) o.w1 o.h1 o.w2 o.h2 h1 hm (worst o) (acJ o);exact⟨s,p,Qv o h1 h6 hm e,I⟩
theorem Yh (hh:1<=h):((List.range m).map λ i=>cost h (tbl "worth" w h f) (s i)).sum=cs h m (bQ w h f) s:=by
 rw[Ai];exact Fl.aY λ i _=>by rw[aea hh,Ai]
theorem Yi {f':Nat->Nat->Int} {u v z:ao->R D} (o:Ok w h f') (I:nR w h (bQ w h f') m s p) (m20:m<=20) (e:u ρ= .ok (pD h m s))
  (ev:∀i,v (qu 1 [1] ρ |>.set 0 (some (.val (sm h (s i)))))= .ok (bD w h f')) (ez:∀i,z (qu 1 [1] ρ |>.set 0 (some (.val (sm h (s i)))))= .ok (sm h (s i)))
  (eg:∀i,aF 0 (sm h (s i)) (qu 1 [1] ρ)= .ok (qu 1 [1] ρ |>.set 0 (some (.val (sm h (s i)))))):
  aB pL (ak (bA 1 [1] (cU u) (aF 0) tT (lV jH 3 0 [.inr (.str "worth")] (ak v (ak z nA)) nA)) nA) ρ= .ok (.int (cs h m (bQ w h f') s)):=by
 rw[<-Yh o.h1];refine aV (aA (bN (c:=λ i=>sm h (s i)) (h:=λ i=> .int (cost h (tbl "worth" w h f') (s i))) (l:=List.range m) (iB e) (by rw[z2d];omega) λ i hi=>?_)) RK;exact cu (eg i) (pW (ds:=[bD w h f',sm h (s i)]) (zs:=[]) (aD (ev i) (aA (ez i))) rfl (yd (.inl rfl) o (I.seam (z2e hi))))
theorem acM {ds:List D} {d:D}:bF (.lst (ds++[d])) (.int (-1))= .ok d:=by
 have:atI (ds++[d]) (-1)=some d:=by
  unfold atI ixN;rw[if_neg (by omega),if_pos (by simp;omega)];show (ds++[d])[_]?=_;have e:(-1+((ds++[d]).length:Int)).toNat=ds.length:=by simp;omega
  rw[e];simp
 exact Fo this
abbrev jL (w h:Nat) (f:Nat->Nat->Int) (k:Nat):List D:=(List.range k).map λ i=>D.int (cv w h (bQ w h f) i)
theorem aeE (o:Ok w h f) (h1:1<=k) (h6:k<=6) (hk:k<=w) {e0 e2 e3 e6 e7 e8 e9 e10 mj:Option Ent}:
  ∃z6,lcB [e0,vA (bD w h f),e2,e3,some (.lst (jL w h f k)),vA (.int (k:Int)),e6,e7,e8,e9,e10,mj]= .nx [e0,vA (bD w h f),e2,e3,some (.lst (jL w h f (k+1))),vA (.int (k:Int)),z6,e7,e8,e9,e10,mj]:=by
 obtain⟨s,p,e,I⟩:=wV o h1 h6 hk;obtain⟨s',p',e',I'⟩:=wV (f:=Gz w f) o.mirror h1 h6 hk;have i1:Is w h (bQ w h f) k (cs h k (bQ w h f) s):=⟨s,p,I,rfl⟩;have i2:cs h k (bQ w h (Gz w f)) s'=cs h k (bQ w h f) s:=aeC o.h1 i1 ⟨s',p',I',rfl⟩;have ec:jL w h f (k+1)=jL w h f k++[.int (cs h k (bQ w h f) s)]:=by
  unfold jL;rw[List.range_succ,List.map_append,List.map_singleton,BX o.h1 i1]
 refine⟨vA (pD h k s),?_⟩;rw[ec];refine aK (aZ (aW (aD rfl (aA rfl)) e) rfl) (aK (Af (ds:=jL w h f k) (Yi o I (by omega) rfl (λ _=>rfl) (λ _=>rfl) λ _=>rfl) rfl (by rw[z1g,z2d];omega)) ?_);refine cL (bf (au (Yi o.mirror I' (by omega) (aW (aD (aW (aA rfl) (CW o)) (aA rfl)) e') (λ _=>aW (aA rfl) (CW o)) (λ _=>rfl) λ _=>rfl) (au rfl rfl acM) (wL i2))) rfl
theorem Tz (o:Ok w h f) {e0 e2 e3 e7 e8 e9 e10 mj:Option Ent}:∀{n k:Nat} {e5 e6:Option Ent},1<=k->k+n<=w+1->k+n<=7->
  ∃z5 z6,forL (aF 5) lcB ((List.range' k n).map λ (i:Nat)=>D.int (i:Int)) [e0,vA (bD w h f),e2,e3,some (.lst (jL w h f k)),e5,e6,e7,e8,e9,e10,mj]= .nx [e0,vA (bD w h f),e2,e3,some (.lst (jL w h f (k+n))),z5,z6,e7,e8,e9,e10,mj]
 |0,k,e5,e6,_,_,_=>⟨e5,e6,rfl⟩
 | n+1,k,e5,e6,h1,h2,h3=>by
  obtain⟨z6,e⟩:=aeE o h1 (by omega) (by omega) (e0:=e0) (e2:=e2) (e3:=e3) (e6:=e6) (e7:=e7) (e8:=e8) (e9:=e9) (e10:=e10) (mj:=mj);obtain⟨y5,y6,i⟩:=Tz o (e0:=e0) (e2:=e2) (e3:=e3) (e7:=e7) (e8:=e8) (e9:=e9) (e10:=e10) (mj:=mj) (n:=n) (k:=k+1) (e5:=vA (.int (k:Int))) (e6:=z6) (by omega) (by omega) (by omega);refine⟨y5,y6,?_⟩;rw[show k+(n+1)=k+1+n by omega,List.range'_succ,z1h];exact cX rfl e i
theorem acO {a b c:Int} {l l':List Int} (e:lt (a,b,l) (a,c,l')=false):c<=b:=by
 simp only[lt,fl,fZ,if_true] at e;by_cases z:b=c
 ·omega
 ·rw[if_neg z] at e;have:=of_decide_eq_false e;omega
theorem TF {q:Nat->Nat}:gn (λ _ _=>0) h q=0:=by
 unfold gn;have:∀l:List Nat,(l.map λ y=>eU ((λ _ _=>(0:Int)) y (q y))).sum=0:=λ l=>by
  induction l with
  |nil=>rfl
  |cons a l ih=>rw[z1h,List.sum_cons,ih];rfl
 exact this _
theorem aeF (o:Ok w h f):∃q,mq w h q/\jA [bD w h f,.str "worth",.non]= .ok (sm h q)/\∀q',mq w h q'->cost h (tbl "worth" w h f) q<=cost h (tbl "worth" w h f) q':=by
 have el:=yV (.inl rfl) o (XF o);rcases least (w:=w) (T:=tbl "worth" w h f) (M:=λ _ _=>0) o.h1 with⟨_,z⟩ |⟨q,e,b,z⟩
 ·exact absurd ⟨⟨λ y hy=>by show 0 < w;have:=o.w1;omega,λ y hy=>by show 0<=0+1/\0<=0+1;omega⟩,λ y hy=>by show (0:Int)≠1;decide⟩ (z λ _=>0)
 ·rw[e,Ye] at el;refine⟨q,b.sm,el,λ q' Q=>?_⟩;have:=z q' ⟨Q,λ _ _=>by show (0:Int)≠1;decide⟩;unfold wS at this;rw[TF,TF] at this;exact acO this
theorem Jl {q:Nat->Nat} (hh:1<=h):cost h (tbl "worth" w h f) q=cs h 1 (bQ w h f) λ _=>q:=by
 rw[<-Yh hh];simp
theorem aeG {q:Nat->Nat} (Q:mq w h q):Dj w h 1 λ _=>q:=⟨λ _ _=>Q,λ i j y hi hj n _=>absurd (show i=j by omega) n⟩
theorem aap (o:Ok w h f) {q:Nat->Nat} (Q:mq w h q) (z:∀q',mq w h q'->cost h (tbl "worth" w h f) q<=cost h (tbl "worth" w h f) q'):cv w h (bQ w h f) 1=cost h (tbl "worth" w h f) q:=by
 obtain⟨s,p,e,I⟩:=wV o (m:=1) (by omega) (by omega) o.w1;have i1:Is w h (bQ w h f) 1 (cs h 1 (bQ w h f) s):=⟨s,p,I,rfl⟩;rw[BX o.h1 i1];refine Int.le_antisymm ?_ ?_
 ·rw[Jl o.h1];exact opt o.h1 I (aeG Q)
 ·have:=z (s 0) (I.seam (by omega));have e:cs h 1 (bQ w h f) s=cs h 1 (bQ w h f) λ _=>s 0:=Fl.aY λ i hi=>by rw[show i=0 by omega]
  rw[e,<-Jl o.h1];exact this
def Ef (q:Nat->Nat) (M:Nat->Nat->Int):Nat->Nat->Int:=λ y x=>if x=q y then 1 else M y x
structure Gr (w h:Nat) (f M:Nat->Nat->Int) (i:Nat) (q:Nat->Nat->Nat) (t:Int):Prop where
 dj:Dj w h i q
 mm:Mk w h M
 at_:∀j y,j < i->y < h->M y (q j y)=1
 t:t=cs h i (bQ w h f) q
theorem Gr.next {M:Nat->Nat->Int} {i:Nat} {t:Int} {r:Nat->Nat} (hh:1<=h) (G:Gr w h f M i q t) (R:Nz w h M r):Gr w h f (Ef r M) (i+1) (λ j=>if j=i then r else q j) (t+cost h (tbl "worth" w h f) r):=by
 have ne:∀j y,j < i->y < h->q j y≠r y:=λ j y hj hy e=>R.ne y hy (by rw[<-e];exact G.at_ j y hj hy);refine⟨⟨λ j hj=>?_,λ j l y hj hl n hy=>?_⟩,λ y x=>?_,λ j y hj hy=>?_,?_⟩
 ·by_cases c:j=i
  ·rw[if_pos c];exact R.sm
  ·rw[if_neg c];exact G.dj.se j (by omega)
 ·by_cases c:j=i
  ·rw[if_pos c,if_neg (by omega:¬l=i)];exact Ne.symm (ne l y (by omega) hy)
  ·by_cases c':l=i
   ·rw[if_neg c,if_pos c'];exact ne j y (by omega) hy
   ·rw[if_neg c,if_neg c'];exact G.dj.ne j l y (by omega) (by omega) n hy
 ·unfold Ef;split
  ·exact⟨by decide,by decide⟩
  ·exact G.mm y x
 ·unfold Ef;by_cases c:j=i
  ·rw[if_pos c,if_pos rfl]
  ·rw[if_neg c];split
   ·rfl
   ·exact G.at_ j y (by omega) hy
 ·rw[G.t,Jl hh];unfold cs;have e1:(Fl.sm (i+1) λ j=>Fl.sm h λ y=>bQ w h f y ((if j=i then r else q j) y))=(Fl.sm i λ j=>Fl.sm h λ y=>bQ w h f y ((if j=i then r else q j) y))+Fl.sm h λ y=>bQ w h f y ((if i=i then r else q i) y):=rfl;have e2:(Fl.sm i λ j=>Fl.sm h λ y=>bQ w h f y ((if j=i then r else q j) y))=Fl.sm i λ j=>Fl.sm h λ y=>bQ w h f y (q j y):=Fl.aY λ j hj=>by rw[if_neg (by omega)]
  have e3:(Fl.sm 1 λ _=>Fl.sm h λ y=>bQ w h f y (r y))=Fl.sm h λ y=>bQ w h f y (r y):=Int.zero_add _;rw[e1,e2,e3,if_pos rfl]
theorem aeH {M:Nat->Nat->Int} {r:Nat->Nat} (Q:mq w h r) (dU:h<=20) (w20:w<=20) {u v:ao->R D} (eu:u ρ= .ok (bD w h M)) (ev:v ρ= .ok (sm h r)):
  aB nq (ak (bA 2 [] (λ ρ=>((ak u (ak v nA)) ρ).bind zip2) (cZ (c7 2 (aX (aF 0) (aX (aF 1) nilG)))) tT (bin (bin (oE (gv 0) (λ _=> .ok none) (λ ρ=>((gv 1) ρ).bind JQ)) (eE (ak (ci 1) nA)) cH) (oE (gv 0) (λ ρ=>((bin (gv 1) (ci 1) cH) ρ).bind JQ) (λ _=> .ok none)) cH)) nA) ρ= .ok (bD w h (Ef r M)):=by
 refine aV (aA (bN (c:=λ y=> .tup [row w (M y),.int ((r y:Nat):Int)]) (h:=λ y=>row w (Ef r M y)) (l:=List.range h) (ab9 (aD eu (aA ev)) rfl rfl) (by rw[z2d];omega) λ y hy=>?_)) rfl;have hr:=Q.lt y (z2e hy);refine cu rfl (au (au (acf (n:=r y) rfl rfl (by rw[z1g,z2d];omega)) (dh (aA rfl)) (Jg (by simp;omega))) (Xr (n:=r y+1) rfl rfl (by rw[z1g,z2d];omega)) ?_);rw[Jg (by simp;omega),Yg (F:=λ x=>D.int (M y x)) hr];refine congrArg (λ l=>R.ok (D.tup l)) (Eb λ x _=>?_);unfold Ef;split <;> rfl
theorem Yj {i n:Nat} (hi:i < n):bF (.lst (jL w h f n)) (.int (i:Int))= .ok (.int (cv w h (bQ w h f) i)):=gA (α:=Nat) hi
theorem TJ (o:Ok w h f) {N:Nat} (hN:N<=w+1) (N6:N<=7) {e0 e2 e3 e6 e7 e8:Option Ent}:∀{n i:Nat} {M:Nat->Nat->Int} {q:Nat->Nat->Nat} {t:Int} {e5 mj:Option Ent},Gr w h f M i q t->i+n+1=N->
  forL (aF 5) gdB ((List.range' (i+1) n).map λ (i:Nat)=>D.int (i:Int)) [e0,vA (bD w h f),e2,e3,vA (.lst (jL w h f N)),e5,e6,e7,e8,vA (.int t),vA (bD w h M),mj]= .rt (.bl true)\/
  ∃z5 z9 rR z11,forL (aF 5) gdB ((List.range' (i+1) n).map λ (i:Nat)=>D.int (i:Int)) [e0,vA (bD w h f),e2,e3,vA (.lst (jL w h f N)),e5,e6,e7,e8,vA (.int t),vA (bD w h M),mj]= .nx [e0,vA (bD w h f),e2,e3,vA (.lst (jL w h f N)),z5,e6,e7,e8,z9,rR,z11]
 |0,i,M,q,t,e5,mj,G,hn=> .inr ⟨e5,vA (.int t),vA (bD w h M),mj,rfl⟩
 | n + 1,i,M,q,t,e5,mj,G,hn=>by
  have el:=yV (.inl rfl) o (XH o G.mm);rw[List.range'_succ,z1h];rcases least (w:=w) (T:=tbl "worth" w h f) (M:=M) o.h1 with⟨e,_⟩ |⟨r,e,R,_⟩
  ·rw[e] at el;exact .inl (acL rfl (aK (aZ (pW (ds:=[bD w h f]) (aA rfl) (aA rfl) el) rfl) (lR (gP (bf (au rfl rfl rfl)) (bJ rfl)))))
  ·rw[e,Ye] at el;have G':=G.next o.h1 R;obtain⟨s',p',et,I⟩:=wV o (m:=i+1) (by omega) (by omega) (by omega);have hc:cv w h (bQ w h f) (i+1)<=t+cost h (tbl "worth" w h f) r:=by
    rw[BX o.h1 ⟨s',p',I,rfl⟩,G'.t];exact opt o.h1 I G'.dj
   have eb:gdB [e0,vA (bD w h f),e2,e3,vA (.lst (jL w h f N)),vA (.int ((i+1:Nat):Int)),e6,e7,e8,vA (.int t),vA (bD w h M),mj]= .nx [e0,vA (bD w h f),e2,e3,vA (.lst (jL w h f N)),vA (.int ((i+1:Nat):Int)),e6,e7,e8,vA (.int (t+cost h (tbl "worth" w h f) r)),vA (bD w h (Ef r M)),vA (sm h r)]:=by
    refine aK (aZ (pW (ds:=[bD w h f]) (aA rfl) (aA rfl) el) rfl) (aK (cL (bf (au rfl rfl rfl)) rfl) (aK (aZ (au rfl (pW (ds:=[bD w h f,sm h r]) (zs:=[]) (aD rfl (aA rfl)) rfl (yd (.inl rfl) o R.sm)) rfl) rfl) (aK (aZ (aeH R.sm o.h2 o.w2 rfl rfl) rfl) (cL (bf (au (au rfl rfl (Yj (by omega))) rfl ?_)) rfl))));rw[uZ,decide_eq_false (by omega)]
   rcases TJ o hN N6 (e0:=e0) (e2:=e2) (e3:=e3) (e6:=e6) (e7:=e7) (e8:=e8) (n:=n) (i:=i+1) (e5:=vA (.int ((i+1:Nat):Int))) (mj:=vA (sm h r)) G' (by omega) with z |⟨z5,z9,rR,z11,z⟩
   ·exact .inl (cX rfl eb z)
   ·exact .inr ⟨z5,z9,rR,z11,cX rfl eb z⟩
end
section
variable {w h m k n:Nat} {g:Nat->Int} {f C:Nat->Nat->Int} {s:Nat->Nat->Nat} {p:Nat->Int} {ρ:ao}
theorem aaq:((List.range n).map λ (i:Nat)=>D.int ((i+1:Nat):Int))=(List.range' 1 n).map λ (i:Nat)=>D.int (i:Int):=by
 rw[List.range'_eq_map_range,List.map_map];exact Eb λ i _=>by show _=D.int ((1+i:Nat):Int);rw[Nat.add_comm]
theorem aar {c:Nat->Int} {M:Nat}:xU ((List.range (M+1)).map λ i=>D.int (c i)) (((List.range (M+1)).map λ i=>D.int (c i)).drop 1)=(List.range M).map λ i=>D.tup [.int (c i),.int (c (i+1))]:=by
 unfold xU;refine List.ext_getElem (by simp) λ i h1 h2=>by simp[Nat.add_comm]
theorem aas {c:Nat->Int} {M:Nat}:dep (.lst ((List.range M).map λ i=>D.int (c i)))<=40:=by
 rw[dep];have:=Ih (c:=λ i=>D.int (c i)) (n:=0) (l:=List.range M) λ x _=>by simp[dep]
 omega
theorem aat {d:Nat->Int} {M:Nat} (hd:∀i,i+1 < M->d i<=d (i+1)):((List.range M).map d).Pairwise (· <= ·):=by
 have h:∀{i j:Nat},i<=j->j < M->d i<=d j:=λ {i j}=>by
  induction j with
  |zero=>intro a _;rw[show i=0 by omega];exact Int.le_refl _
  | succ j ih=>
   intro a b;by_cases c:i=j+1
   ·rw[c];exact Int.le_refl _
   ·exact Int.le_trans (ih (by omega) (by omega)) (hd j b)
 rw[List.pairwise_map];refine List.Pairwise.imp_of_mem (λ {a b} _ hb q=>h (z0e q) (z2e hb)) List.pairwise_lt_range
theorem agI:minD [.int 4,.int (w:Int)]= .ok (.int ((min 4 w:Nat):Int)):=min1 (x:=3) (n:=w)
theorem aeI (o:Ok w h f) (h6:w<=6) {i:Nat} (hi:i<=w):Is w h (bQ w h f) i (cv w h (bQ w h f) i):=by
 cases i with
 |zero=>exact abb o.h1 (is_zero (worst o))
 | succ i=>
  obtain⟨s,p,_,I⟩:=wV o (m:=i+1) (by omega) (by omega) hi;exact abb o.h1 ⟨s,p,I,rfl⟩
theorem aau (ns:List Int) (hns:ns.length<=63):Gq [.lst (ns.map .int)]= .ok (.bl true):=by
 have hn:ns.length<=1000000:=by omega
 obtain⟨w,h,f,e1,o,hw,hh⟩:=aeD (ns:=ns) hn;have w1:=o.w1;have h1:=o.h1;obtain⟨N,hN⟩:∃N,N=min 4 w:=⟨_,rfl⟩;have n1:1<=N:=by omega
 have c0:cv w h (bQ w h f) 0=0:=BX h1 (is_zero (worst o));have hi:∀i,i<=w->Is w h (bQ w h f) i (cv w h (bQ w h f) i):=λ i hi=>aeI o (by omega) hi;refine oW (aK (aZ (aW (aD rfl (aD rfl (aD rfl (aA rfl)))) e1) rfl) ?_);refine aK (aZ (aW (aA rfl) (size_eq o)) rfl) ?_;have e0:[D.int 0]=jL w h f 1:=by show _=[D.int (cv w h (bQ w h f) 0)];rw[c0]
 refine aK (pR (ds:=jL w h f 1) (by rw[<-e0];exact aA rfl) (by simp)) ?_;have er:∀{ρ:ao},bL ρ 2= .ok (.int (w:Int))->(λ ρ=>((ak (ci 1) (ak (bin (aB minD (ak (ci 4) (ak (gv 2) nA))) (ci 1) cH) nA)) ρ).bind vh) ρ= .ok ((List.range' 1 N).map λ (i:Nat)=>D.int (i:Int)):=λ {ρ} e=>by
  rw[Jf (m:=N+1) (aD rfl (aA (au (aV (aD rfl (aA e)) agI) rfl (by rw[hN];rfl)))) (by omega),show N+1 - 1=N by omega,aaq]
 obtain⟨z5,z6,i1⟩:=Tz o (e0:=vA (.lst (ns.map .int))) (e2:=vA (.int (w:Int))) (e3:=vA (.int (h:Int))) (e7:=none) (e8:=none) (e9:=none) (e10:=none) (mj:=none) (n:=N) (k:=1) (e5:=none) (e6:=none) (by omega) (by omega) (by omega);rw[Nat.add_comm 1 N] at i1;refine aK (iM (er rfl) i1) (adY ?_);refine aK (aZ (d:= .lst ((List.range N).map λ i=>D.int (cv w h (bQ w h f) (i+1) - cv w h (bQ w h f) i))) (bN (c:=λ i=>D.tup [.int (cv w h (bQ w h f) i),.int (cv w h (bQ w h f) (i+1))]) (h:=λ i=>D.int (cv w h (bQ w h f) (i+1) - cv w h (bQ w h f) i)) (l:=List.range N) ?_ (by rw[z2d];omega) λ i _=>cu rfl (au rfl rfl rfl)) rfl) ?_
 ·show R.bind (R.bind _ _) _=_;show R.ok (xU (jL w h f (N+1)) (j9 (jL w h f (N+1)) (some ((1:Nat):Int)) none))=_;rw[Kg (by rw[z1g,z2d];omega)];exact congrArg R.ok aar
 obtain⟨q,Q,el,z⟩:=aeF o;have ef:cv w h (bQ w h f) (0+1) - cv w h (bQ w h f) 0=cost h (tbl "worth" w h f) q:=by rw[c0,aap o Q z];omega
 have rs:((List.range N).map λ i=>cv w h (bQ w h f) (i+1) - cv w h (bQ w h f) i).Pairwise (· <= ·):=aat (d:=λ i=>cv w h (bQ w h f) (i+1) - cv w h (bQ w h f) i) (M:=N) λ i hi'=>aez h1 (hi i (by omega)) (hi (i+1) (by omega)) (hi (i+1+1) (by omega));have es:rP ((List.range N).map λ i=>cv w h (bQ w h f) (i+1) - cv w h (bQ w h f) i)=(List.range N).map λ i=>cv w h (bQ w h f) (i+1) - cv w h (bQ w h f) i:=(Mr (List.Perm.refl _) rs).symm;have em:(List.range N).map (λ i=>D.int (cv w h (bQ w h f) (i+1) - cv w h (bQ w h f) i))=((List.range N).map λ i=>cv w h (bQ w h f) (i+1) - cv w h (bQ w h f) i).map .int:=by rw[List.map_map];rfl
 refine aK (cL (zq (bf (au (au rfl rfl (gA (α:=Nat) (x:=0) n1)) (pW (ds:=[bD w h f,sm h q]) (zs:=[]) (aD rfl (aA (pW (ds:=[bD w h f]) (zs:=[]) (aA rfl) rfl el))) rfl (yd (.inl rfl) o Q)) (wL ef))) (bf (au rfl (aV (aA rfl) (by rw[em,abF (by simp;omega),es])) (Pu.uc (congrArg D.lst em) aas)))) rfl) ?_;have e3:∀{e5 e6 e7 e8 e9 e10 mj:Option Ent},ni (bU (bin (gv 2) (ci 5) ltI)) (bU (bin (bin (gv 4) (gv 2) bF) (aB pL (ak (bA 1 [] (cU (aB (aQ jk 1) (ak (gv 1) nA))) (aF 0) tT (aB pL (ak (gv 0) nA))) nA)) kh)) [vA (.lst (ns.map .int)),vA (bD w h f),vA (.int (w:Int)),vA (.int (h:Int)),vA (.lst (jL w h f (N+1))),e5,e6,e7,e8,e9,e10,mj]= .ok false:=λ {e5 e6 e7 e8 e9 e10 mj}=>by
  by_cases c:w < 5
  ·obtain⟨s,p,_,I⟩:=wV o (m:=w) w1 (by omega) (z0g _);have ec:cv w h (bQ w h f) w=((List.range h).map λ y=>((List.range w).map (bQ w h f y)).sum).sum:=by
    rw[BX h1 ⟨s,p,I,rfl⟩,aeB I,Ai];exact Fl.aY λ y _=>by rw[Ai]
   refine wu (bf (au rfl rfl (Ux (by omega)))) (bf (au (au rfl rfl (Yj (by omega))) (aV (aA (bN (c:=λ y=>row w (bQ w h f y)) (h:=λ y=> .int ((List.range w).map (bQ w h f y)).sum) (l:=List.range h) (iz (aW (aA rfl) (Ae o))) (by rw[z2d];omega) λ y _=>cu rfl (aV (aA rfl) abv))) RK) (wL ec)))
  ·refine Ii (bf (au rfl rfl ?_));show R.ok (D.bl (decide ((w:Int) < 5)))=_;rw[decide_eq_false (by omega)]
 refine aK (cL e3 rfl) ?_;refine aK (ab5 (jw rfl) rfl (aW (aA rfl) (free_eq o))) ?_;have G0:Gr w h f (λ _ _=>0) 0 (λ _ _=>0) 0:=⟨⟨λ i hi=>absurd hi (by omega),λ i j y hi=>absurd hi (by omega)⟩,mk0,λ j y hj=>absurd hj (by omega),rfl⟩;rcases TJ o (N:=N+1) (by omega) (by omega) (e0:=vA (.lst (ns.map .int))) (e2:=vA (.int (w:Int))) (e3:=vA (.int (h:Int))) (e6:=Ey z6) (e7:=vA (.lst ((List.range N).map λ i=>D.int (cv w h (bQ w h f) (i+1) - cv w h (bQ w h f) i)))) (e8:=vA (.lst [])) (n:=N) (i:=0) (e5:=Ey z5) (mj:=none) G0 (by omega) with i2 |⟨y5,y9,y10,y11,i2⟩
 ·exact lR (iM (er rfl) i2)
 ·refine aK (iM (er rfl) i2) (bJ (S9 (bf (au rfl rfl (Ux (by omega)))) (au (aW (aD rfl (aA (au (y:= .int 1) rfl rfl (by rfl:cH (.int (w:Int)) (.int 1)= .ok (.int ((w+1:Nat):Int)))))) (Qu o (m:=w+1) (by omega) (by omega) (by omega))) rfl rfl)))
end
end nP
namespace nP
open PySem PySem.Spec L2 Pu
open PyProof.Rows hiding St
variable {f:Addr} {A:Around} {fd F:FuncData} {H:Hp} {Kr:List (Addr×Str)} {outer:List PySem.Env} {ps:List Str} {us:List Value} {s:Shared} {rW gU:Tok} {cdv:Value} {E:XK}
def DX (K:PySem.W.Frag) (x:Str) (st:Stmt):Prop:=∃f fd,Fun K x x st f fd/\PySem.W.nsIn K mainGlobals x=some (some (.ref f))
theorem afQ {K:PySem.W.Frag} {x:Str} {st:Stmt} {oc:Value} {od an:Option Addr} {osl:Array (Option Value)} {kV doc pm ct:Value} (a:PySem.W.nsIn K mainGlobals x=some (some (.ref f))) (l:K.lookup f=some ⟨oc,od,.func (PySem.W.fnOf x x (defArgs st) (defBody st) (defScope st) .none kV doc pm an cdv ct),osl⟩)
  (c:PySem.W.codeIn K cdv x=true) (k:PySem.W.keepIn K (.ref f)=true):DX K x st:=⟨f,_,fun_mk l c k,a⟩
theorem CZ {n:Nat} (hl:us.length=n+1):∃a u,us=a::u/\u.length=n:=by
 cases us with
 |nil=>cases hl
 |cons a u=>exact⟨a,u,rfl,Nat.succ.inj hl⟩
theorem rY (hl:us.length=1) (h:∀a0,bindArgs F ⟨[a0],[]⟩=pure (ps.zip [a0])):bindArgs F ⟨us,[]⟩=pure (ps.zip us):=by
 obtain⟨a0,u1,rfl,h1⟩:=CZ hl;cases List.eq_nil_of_length_eq_zero h1;exact h a0
theorem nU (hl:us.length=2) (h:∀a0 a1,bindArgs F ⟨[a0,a1],[]⟩=pure (ps.zip [a0,a1])):bindArgs F ⟨us,[]⟩=pure (ps.zip us):=by
 obtain⟨a0,u1,rfl,h1⟩:=CZ hl;obtain⟨a1,u2,rfl,h2⟩:=CZ h1;cases List.eq_nil_of_length_eq_zero h2;exact h a0 a1
theorem GC (hl:us.length=3) (h:∀a0 a1 a2,bindArgs F ⟨[a0,a1,a2],[]⟩=pure (ps.zip [a0,a1,a2])):bindArgs F ⟨us,[]⟩=pure (ps.zip us):=by
 obtain⟨a0,u1,rfl,h1⟩:=CZ hl;obtain⟨a1,u2,rfl,h2⟩:=CZ h1;obtain⟨a2,u3,rfl,h3⟩:=CZ h2;cases List.eq_nil_of_length_eq_zero h3;exact h a0 a1 a2
theorem lk4 (hl:us.length=4) (h:∀a0 a1 a2 a3,bindArgs F ⟨[a0,a1,a2,a3],[]⟩=pure (ps.zip [a0,a1,a2,a3])):bindArgs F ⟨us,[]⟩=pure (ps.zip us):=by
 obtain⟨a0,u1,rfl,h1⟩:=CZ hl;obtain⟨a1,u2,rfl,h2⟩:=CZ h1;obtain⟨a2,u3,rfl,h3⟩:=CZ h2;obtain⟨a3,u4,rfl,h4⟩:=CZ h3;cases List.eq_nil_of_length_eq_zero h4;exact h a0 a1 a2 a3
def top (i:Nat):Stmt:=PySem.Challenge.pw_seamhall_k47_whole_together.main.body.getD i (.Pass ⟨0,0,0,0⟩)
abbrev vI:Stmt:=top 70
theorem Oa:FnScope ["_law_picture_here"] ["_law_picture_here"] (defScope vI):=⟨rfl,rfl,rfl,by decide +kernel,rfl,by decide +kernel,by decide +kernel⟩
abbrev uG:Stmt:=top 67
theorem dD:FnScope ["_law_script","_law_k","_law_many","_law_cell","_law_turn","_law_rest"] ["_law_script","_law_k","_law_many"] (defScope uG):=⟨rfl,rfl,rfl,by decide +kernel,rfl,by decide +kernel,by decide +kernel⟩
abbrev pZ:Stmt:=top 68
theorem oX:FnScope ["_law_script","_law_at","_law_broad","_law_tall","_law_most","_law_rows","_law_y"] ["_law_script","_law_at","_law_broad","_law_tall"] (defScope pZ):=⟨rfl,rfl,rfl,by decide +kernel,rfl,by decide +kernel,by decide +kernel⟩
abbrev vJ:Stmt:=top 69
theorem Oc:FnScope ["_law_script","_law_at","_law_broad","_law_tall"] ["_law_script","_law_at","_law_broad","_law_tall"] (defScope vJ):=⟨rfl,rfl,rfl,by decide +kernel,rfl,by decide +kernel,by decide +kernel⟩
abbrev Od:Stmt:=top 20
theorem TQ:FnScope ["line","last"] ["line"] (defScope Od):=⟨rfl,rfl,rfl,by decide +kernel,rfl,by decide +kernel,by decide +kernel⟩
abbrev uH:Stmt:=top 35
theorem fG:FnScope ["picture","y","row","above","last","told","x","gap","from_left","from_right"] ["picture","y"] (defScope uH):=⟨rfl,rfl,rfl,by decide +kernel,rfl,by decide +kernel,by decide +kernel⟩
abbrev Ak:Stmt:=top 12
theorem U6:FnScope ["thing"] ["thing"] (defScope Ak):=⟨rfl,rfl,rfl,by decide +kernel,rfl,by decide +kernel,by decide +kernel⟩
abbrev yq:Stmt:=top 10
theorem Qw:FnScope ["thing"] ["thing"] (defScope yq):=⟨rfl,rfl,rfl,by decide +kernel,rfl,by decide +kernel,by decide +kernel⟩
abbrev Al:Stmt:=top 11
theorem U7:FnScope ["thing"] ["thing"] (defScope Al):=⟨rfl,rfl,rfl,by decide +kernel,rfl,by decide +kernel,by decide +kernel⟩
abbrev Eh:Stmt:=top 13
theorem Yk:FnScope ["thing"] ["thing"] (defScope Eh):=⟨rfl,rfl,rfl,by decide +kernel,rfl,by decide +kernel,by decide +kernel⟩
abbrev uI:Stmt:=top 14
theorem KN:FnScope ["thing"] ["thing"] (defScope uI):=⟨rfl,rfl,rfl,by decide +kernel,rfl,by decide +kernel,by decide +kernel⟩
abbrev p7:Stmt:=top 15
theorem GD:FnScope ["thing"] ["thing"] (defScope p7):=⟨rfl,rfl,rfl,by decide +kernel,rfl,by decide +kernel,by decide +kernel⟩
abbrev Am:Stmt:=top 16
theorem U8:FnScope ["picture"] ["picture"] (defScope Am):=⟨rfl,rfl,rfl,by decide +kernel,rfl,by decide +kernel,by decide +kernel⟩
abbrev Ei:Stmt:=top 17
theorem Ks:FnScope ["picture","wide","high"] ["picture"] (defScope Ei):=⟨rfl,rfl,rfl,by decide +kernel,rfl,by decide +kernel,by decide +kernel⟩
abbrev Ej:Stmt:=top 21
theorem vd:FnScope ["picture","wide","high","across","down"] ["picture"] (defScope Ej):=⟨rfl,rfl,rfl,by decide +kernel,rfl,by decide +kernel,by decide +kernel⟩
abbrev Jm:Stmt:=top 36
theorem aav:FnScope ["picture","manner"] ["picture","manner"] (defScope Jm):=⟨rfl,rfl,rfl,by decide +kernel,rfl,by decide +kernel,by decide +kernel⟩
abbrev qY:Stmt:=top 27
theorem Jo:FnScope ["thing"] ["thing"] (defScope qY):=⟨rfl,rfl,rfl,by decide +kernel,rfl,by decide +kernel,by decide +kernel⟩
abbrev Ek:Stmt:=top 33
theorem Yl:FnScope ["thing","wide","high"] ["thing","wide","high"] (defScope Ek):=⟨rfl,rfl,rfl,by decide +kernel,rfl,by decide +kernel,by decide +kernel⟩
abbrev Ao:Stmt:=top 62
theorem GF:FnScope ["thing","picture","wide","high"] ["thing","picture"] (defScope Ao):=⟨rfl,rfl,rfl,by decide +kernel,rfl,by decide +kernel,by decide +kernel⟩
abbrev vK:Stmt:=top 63
theorem Oe:FnScope ["thing","picture"] ["thing","picture"] (defScope vK):=⟨rfl,rfl,rfl,by decide +kernel,rfl,by decide +kernel,by decide +kernel⟩
abbrev Aq:Stmt:=top 37
theorem U9:FnScope ["row","above","place"] ["row","above","place"] (defScope Aq):=⟨rfl,rfl,rfl,by decide +kernel,rfl,by decide +kernel,by decide +kernel⟩
abbrev yt:Stmt:=top 38
theorem qC:FnScope ["table","way","total","y"] ["table","way"] (defScope yt):=⟨rfl,rfl,rfl,by decide +kernel,rfl,by decide +kernel,by decide +kernel⟩
abbrev fH:Stmt:=top 64
theorem Va:FnScope ["picture","seam","manner"] ["picture","seam","manner"] (defScope fH):=⟨rfl,rfl,rfl,by decide +kernel,rfl,by decide +kernel,by decide +kernel⟩
abbrev yu:Stmt:=top 31
theorem Qx:FnScope ["picture"] ["picture"] (defScope yu):=⟨rfl,rfl,rfl,by decide +kernel,rfl,by decide +kernel,by decide +kernel⟩
abbrev Av:Stmt:=top 28
theorem Vb:FnScope ["thing"] ["thing"] (defScope Av):=⟨rfl,rfl,rfl,by decide +kernel,rfl,by decide +kernel,by decide +kernel⟩
abbrev p8:Stmt:=top 29
theorem GJ:FnScope ["thing","wide"] ["thing","wide"] (defScope p8):=⟨rfl,rfl,rfl,by decide +kernel,rfl,by decide +kernel,by decide +kernel⟩
abbrev yw:Stmt:=top 30
theorem Qy:FnScope ["thing","picture"] ["thing","picture"] (defScope yw):=⟨rfl,rfl,rfl,by decide +kernel,rfl,by decide +kernel,by decide +kernel⟩
abbrev uJ:Stmt:=top 32
theorem KQ:FnScope ["thing","picture"] ["thing","picture"] (defScope uJ):=⟨rfl,rfl,rfl,by decide +kernel,rfl,by decide +kernel,by decide +kernel⟩
abbrev yx:Stmt:=top 39
theorem Dc:FnScope ["picture","manner","marks","marked"] ["picture","manner","marks"] (defScope yx):=⟨rfl,rfl,rfl,by decide +kernel,rfl,by decide +kernel,by decide +kernel⟩
abbrev Og:Stmt:=top 34
theorem acQ:FnScope ["place","wide"] ["place","wide"] (defScope Og):=⟨rfl,rfl,rfl,by decide +kernel,rfl,by decide +kernel,by decide +kernel⟩
abbrev El:Stmt:=top 40
theorem qP:FnScope ["beneath","row","x","told","place","fare"] ["beneath","row","x"] (defScope El):=⟨rfl,rfl,rfl,by decide +kernel,rfl,by decide +kernel,by decide +kernel⟩
abbrev tu:Stmt:=top 41
theorem jM:FnScope ["table","marks","start","gather","rows","y","row","x","mark","told","lost"] ["table","marks","start","gather"] (defScope tu):=⟨rfl,rfl,rfl,by decide +kernel,rfl,by decide +kernel,by decide +kernel⟩
abbrev jo:Stmt:=top 42
theorem Aw:FnScope ["table","marks","many","first_ones"] ["table","marks","many"] (defScope jo):=⟨rfl,rfl,rfl,by decide +kernel,rfl,by decide +kernel,by decide +kernel⟩
abbrev yC:Stmt:=top 43
theorem mY:FnScope ["table","rows","told","x","cell","fare"] ["table","rows"] (defScope yC):=⟨rfl,rfl,rfl,by decide +kernel,rfl,by decide +kernel,by decide +kernel⟩
abbrev qZ:Stmt:=top 44
theorem Jp:FnScope ["table","marks","many"] ["table","marks","many"] (defScope qZ):=⟨rfl,rfl,rfl,by decide +kernel,rfl,by decide +kernel,by decide +kernel⟩
abbrev vL:Stmt:=top 45
theorem uK:FnScope ["table","marks","found","less","cost","seam"] ["table","marks"] (defScope vL):=⟨rfl,rfl,rfl,by decide +kernel,rfl,by decide +kernel,by decide +kernel⟩
abbrev cV:Stmt:=top 65
theorem q8:FnScope ["picture","manner","marks","table","marked","found"] ["picture","manner","marks"] (defScope cV):=⟨rfl,rfl,rfl,by decide +kernel,rfl,by decide +kernel,by decide +kernel⟩
abbrev yD:Stmt:=top 18
theorem Qz:FnScope ["picture"] ["picture"] (defScope yD):=⟨rfl,rfl,rfl,by decide +kernel,rfl,by decide +kernel,by decide +kernel⟩
abbrev vM:Stmt:=top 51
theorem Oh:FnScope ["x","y","wide"] ["x","y","wide"] (defScope vM):=⟨rfl,rfl,rfl,by decide +kernel,rfl,by decide +kernel,by decide +kernel⟩
abbrev vN:Stmt:=top 52
theorem iR:FnScope ["costs","taken","wide","arcs","y","row","x","cost","into"] ["costs","taken"] (defScope vN):=⟨rfl,rfl,rfl,by decide +kernel,rfl,by decide +kernel,by decide +kernel⟩
abbrev Ax:Stmt:=top 53
theorem je:FnScope ["costs","seams","arcs","seam","beneath","y","into"] ["costs","seams"] (defScope Ax):=⟨rfl,rfl,rfl,by decide +kernel,rfl,by decide +kernel,by decide +kernel⟩
abbrev fX:Stmt:=top 56
theorem eX:FnScope ["taken","ahead","wide","node","before","cell","y","x"] ["taken","ahead"] (defScope fX):=⟨rfl,rfl,rfl,by decide +kernel,rfl,by decide +kernel,by decide +kernel⟩
abbrev oY:Stmt:=top 57
theorem uL:FnScope ["taken","many","rows"] ["taken","many"] (defScope oY):=⟨rfl,rfl,rfl,by decide +kernel,rfl,by decide +kernel,by decide +kernel⟩
abbrev yE:Stmt:=top 54
theorem jq:FnScope ["arcs","many","least","ahead","changed","node","following","cost"] ["arcs","many"] (defScope yE):=⟨rfl,rfl,rfl,by decide +kernel,rfl,by decide +kernel,by decide +kernel⟩
abbrev jf:Stmt:=top 55
theorem Df:FnScope ["seams","wide","high","rows"] ["seams","wide","high"] (defScope jf):=⟨rfl,rfl,rfl,by decide +kernel,rfl,by decide +kernel,by decide +kernel⟩
abbrev Oi:Stmt:=top 58
theorem wW:FnScope ["costs","many","wide","high","seams","least","taken","arcs","ahead"] ["costs","many"] (defScope Oi):=⟨rfl,rfl,rfl,by decide +kernel,rfl,by decide +kernel,by decide +kernel⟩
abbrev vO:Stmt:=top 59
theorem Oj:FnScope ["picture","many"] ["picture","many"] (defScope vO):=⟨rfl,rfl,rfl,by decide +kernel,rfl,by decide +kernel,by decide +kernel⟩
abbrev yF:Stmt:=top 60
theorem QB:FnScope ["picture","many"] ["picture","many"] (defScope yF):=⟨rfl,rfl,rfl,by decide +kernel,rfl,by decide +kernel,by decide +kernel⟩
abbrev sy:Stmt:=top 71
theorem jU:FnScope ["_law_script","_law_picture_here","_law_broad","_law_tall","_law_costs","_law_many","_law_seams","_law_steps","_law_taken","_law_total","_law_tags","_law_seam"] ["_law_script"] (defScope sy):=⟨rfl,rfl,rfl,by decide +kernel,rfl,by decide +kernel,by decide +kernel⟩
abbrev iU:Stmt:=(defBody jo).getD 0 (.Pass ⟨0,0,0,0⟩)
theorem KR:Io ["x","told","many"] ["x","told"] "many" (defScope iU):=⟨rfl,rfl,rfl,by decide +kernel,rfl,by decide +kernel,by decide +kernel,by decide +kernel,by decide +kernel⟩
structure Txt (K:PySem.W.Frag) (mg:Str->Option Value):Prop where
 GK:∃t,mg "END" =some (.int 1 t)
 Vc:∃t,mg "FAR" =some (.int 1000000 t)
 GQ:∃t,mg "FREE" =some (.int 0 t)
 GR:∃t,mg "GONE" =some (.int 2 t)
 Ol:∃t,mg "KEPT" =some (.int 1 t)
 vP:∃t,mg "MOST_CELL" =some (.int 99 t)
 vQ:∃t,mg "MOST_LONG" =some (.int 20 t)
 oZ:∃t,mg "MOST_TOGETHER" =some (.int 6 t)
 wX:∃t,mg "START" =some (.int 0 t)
 Ay:ZD K mg "MANNERS" ["worth","joins"]
 BZ:mg "abs" =none
 sE:mg "all" =none
 Om:mg "bool" =none
 gZ:mg "enumerate" =none
 Vd:mg "int" =none
 gD:mg "isinstance" =none
 cM:mg "len" =none
 Oo:mg "list" =none
 Ca:mg "max" =none
 yG:mg "min" =none
 cW:mg "range" =none
 sG:mg "reversed" =none
 uM:mg "sorted" =none
 Cd:mg "sum" =none
 eY:mg "tuple" =none
 Ln:mg "zip" =none
 GX:∀d:D,PySem.W.kitOne K (.type (lq d)) (.type "int")=some (Bs (lq d))
 Az:∀d:D,PySem.W.kitOne K (.type (lq d)) (.type "bool")=some (xQ (lq d))
 nW:∀d:D,PySem.W.kitOne K (.type (lq d)) (.type "tuple")=some (gY (lq d))
 GZ:∀d:D,PySem.W.kitOne K (.type (lq d)) (.type "list")=some (LK (lq d))
section
variable {P:Program} {w:World} {K:PySem.W.Frag} {mg:Str->Option Value} {base:Heap} {f:Addr} {cdv:Value} {A:Around} {outer:List PySem.Env} {s:Shared} {H:Hp} {E:XK}
theorem Oq (Fn:Fun K "_law_free" "_law_free" vI f fd) (hmg:mg "_law_free" =some (.ref f)) (hb:Binds K fd ["_law_picture_here"] []) (T:Txt K mg)  :aU P w K mg base 1 "_law_free" 1 mR:=
 bV (k:=0) (g:=CG) Fn hmg hb Oa rfl rfl λ cdv A outer s H E hr=>(aL (bx (jg jh rfl T.eY boot_tuple (aj (bW ["_law_row"] [] rfl (by kernel_rfl) (by kernel_rfl) (cT (dv 0)) (aR (by decide)) (λ _ _ _ _ nd=>bh 0 nd) (λ _ _ _ _=>bM) (λ _ _ _ _=>(aM nF (dg (aj aJ aq)) (aP cF rfl T.cM PySem.boot_len (aj (dv 0) aq))))) aq))))
theorem KY (Fn:Fun K "_law_drawn" "_law_drawn" uG f fd) (hmg:mg "_law_drawn" =some (.ref f)) (hb:Binds K fd ["_law_script","_law_k","_law_many"] []) (T:Txt K mg)  :aU P w K mg base 1 "_law_drawn" 3 dR:=
 bV (k:=0) (g:=zV) Fn hmg hb dD rfl rfl λ cdv A outer s H E hr=>(aH (bO 3 dD.nd (aM qD aJ (dv 1))) (aH (dG (cQ (uY (iY hr)) (dv 0) (kJ aq)) (aH (bO 3 dD.nd (bK (dv 0) (aM ou (dv 1) (aP cF rfl T.cM PySem.boot_len (aj (dv 0) aq))))) (aH (bO 4 dD.nd (aM kj (dv 1) (aP cF rfl T.cM PySem.boot_len (aj (dv 0) aq)))) (aH (dG (DW.dt (Lp (cQ afw (dv 3) (aM Wj aJ aJ)) (Ia (cQ xG (dv 4) aJ)))) (aH (bO 5 dD.nd (aM kj (dv 3) (aM Wj aJ aJ))) (aH (Du 64 PassesOwn.never (DW.dt (Lp (cQ Et (dv 5) aJ) (Ia (cQ Et (dv 4) aJ)))) (aH (bO 5 dD.nd (aM kj (dv 5) aJ)) (aL (bO 4 dD.nd (aM fM (dv 4) aJ))))) (aL (dG (cQ Et (dv 5) aJ) (aL (bx (aM ou (aM ou (dv 5) aJ) (dv 2)))) cO)))) cO) (aL (bO 3 dD.nd (aM jR (dv 3) (aM qD aJ (aM kj (dv 1) (aP cF rfl T.cM PySem.boot_len (aj (dv 0) aq)))))))))) cO) (aH (bO 3 dD.nd (aM ou (aM jR (aM qD (aM ou (dv 3) aJ) aJ) (aM qD aJ (aM jR (dv 1) aJ))) aJ)) (aH (bO 3 dD.nd (aM ou (aM jR (aM qD (dv 3) (dv 3)) (aM kj (dv 3) aJ)) aJ)) (aL (bx (aM ou (aM kj (aM ou (aM jR (aM qD (dv 3) (dv 3)) (aM kj (dv 3) aJ)) aJ) aJ) (dv 2))))))))
theorem G3 (Fn:Fun K "_law_picture" "_law_picture" pZ f fd) (hmg:mg "_law_picture" =some (.ref f)) (hb:Binds K fd ["_law_script","_law_at","_law_broad","_law_tall"] []) (T:Txt K mg) (gF:aU P w K mg base 1 "_law_drawn" 3 dR):aU P w K mg base 2 "_law_picture" 4 jx:=
 bV (k:=1) (g:=wG) Fn hmg hb oX rfl rfl λ cdv A outer s H E hr=>(aH (abu 4 5 rfl oX.nd (bK (kJ (aj aJ (aj aJ (aj aJ (aj aJ aq))))) (bw gF hr (by decide) (aj (dv 0) (aj (dv 1) (aj aJ aq))))) aq) (aH (iW PassesOwn.never rfl (eZ rfl T.cW (aj (dv 3) aq)) (lg 6 oX.nd) (aL (wk 5 (jg jh rfl T.eY boot_tuple (aj (bW ["_law_x"] [1,2,4,0,6] rfl (by kernel_rfl) (by kernel_rfl) (eZ rfl T.cW (aj (dv 2) aq)) (aR (by decide)) (λ _ _ _ _ nd=>bh 0 nd) (λ _ _ _ _=>bM) (λ _ _ _ _=>(bw gF hr (by decide) (aj (dv 4) (aj (aM jR (aM jR (aM jR (dv 1) aJ) (aM qD (dv 2) (dv 5))) (dv 0)) (aj (dv 3) aq)))))) aq))))) (aL (bx (jg jh rfl T.eY boot_tuple (aj (dv 5) aq))))))
theorem Ot (Fn:Fun K "_law_some" "_law_some" vJ f fd) (hmg:mg "_law_some" =some (.ref f)) (hb:Binds K fd ["_law_script","_law_at","_law_broad","_law_tall"] []) (T:Txt K mg) (gF:aU P w K mg base 1 "_law_drawn" 3 dR) (qb:aU P w K mg base 2 "_law_picture" 4 jx):aU P w K mg base 3 "_law_some" 4 mU:=
 bV (k:=2) (g:=CJ) Fn hmg hb Oc rfl rfl λ cdv A outer s H E hr=>(aL (bx (bw qb hr (by decide) (aj (dv 0) (aj (aM jR (dv 1) aJ) (aj (aM jR aJ (bw gF hr (by decide) (aj (dv 0) (aj (dv 1) (aj (dv 2) aq))))) (aj (aM jR aJ (bw gF hr (by decide) (aj (dv 0) (aj (aM jR (dv 1) aJ) (aj (dv 3) aq))))) aq)))))))
theorem acR (Fn:Fun K "gaps" "gaps" Od f fd) (hmg:mg "gaps" =some (.ref f)) (hb:Binds K fd ["line"] []) (T:Txt K mg)  :aU P w K mg base 1 "gaps" 1 qJ:=
 bV (k:=0) (g:=Xk) Fn hmg hb TQ rfl rfl λ cdv A outer s H E hr=>(aH (bO 1 TQ.nd (aM fM (aP cF rfl T.cM PySem.boot_len (aj (dv 0) aq)) aJ)) (aL (bx (bW ["at"] [1,0] rfl (by kernel_rfl) (by kernel_rfl) (eZ rfl T.cW (aj (aP cF rfl T.cM PySem.boot_len (aj (dv 0) aq)) aq)) (aR (by decide)) (λ _ _ _ _ nd=>bh 0 nd) (λ _ _ _ _=>bM) (λ _ _ _ _=>(aP Ft rfl T.BZ boot_abs (aj (aM fM (bK (dv 2) (aP (Fv rfl) rfl T.Ca boot_max (aj (aM fM (dv 0) aJ) (aj aJ aq)))) (bK (dv 2) (aP (zx rfl) rfl T.yG boot_min (aj (aM cg (dv 0) aJ) (aj (dv 1) aq))))) aq)))))))
theorem KZ (Fn:Fun K "join_fares" "join_fares" uH f fd) (hmg:mg "join_fares" =some (.ref f)) (hb:Binds K fd ["picture","y"] []) (T:Txt K mg) (uN:aU P w K mg base 1 "gaps" 1 qJ):aU P w K mg base 2 "join_fares" 2 lG:=
 bV (k:=1) (g:=zW) Fn hmg hb fG rfl rfl λ cdv A outer s H E hr=>(aH (bO 2 fG.nd (bK (dv 0) (dv 1))) (aH (bO 3 fG.nd (bK (dv 0) (aP (Fv rfl) rfl T.Ca boot_max (aj (aM fM (dv 1) aJ) (aj aJ aq))))) (aH (bO 4 fG.nd (aM fM (aP cF rfl T.cM PySem.boot_len (aj (dv 2) aq)) aJ)) (aH (pJ 5 fG.nd aq) (aH (iW PassesOwn.never rfl (sU rfl T.gZ (aj (bw uN hr (by decide) (aj (dv 2) aq)) aq)) (wj 6 7 rfl fG.nd) (aH (bO 8 fG.nd (aM cg (dv 7) (aP Ft rfl T.BZ boot_abs (aj (aM fM (bK (dv 3) (dv 6)) (bK (dv 2) (aP (Fv rfl) rfl T.Ca boot_max (aj (aM fM (dv 6) aJ) (aj aJ aq))))) aq)))) (aH (bO 9 fG.nd (aM cg (dv 7) (aP Ft rfl T.BZ boot_abs (aj (aM fM (bK (dv 3) (dv 6)) (bK (dv 2) (aP (zx rfl) rfl T.yG boot_min (aj (aM cg (dv 6) aJ) (aj (dv 4) aq))))) aq)))) (aL (wk 5 (dg (aj (dv 8) (aj (dv 7) (aj (dv 9) aq))))))))) (aL (bx (dv 5))))))))
theorem Ve (Fn:Fun K "is_line" "is_line" Ak f fd) (hmg:mg "is_line" =some (.ref f)) (hb:Binds K fd ["thing"] []) (T:Txt K mg)  :aU P w K mg base 1 "is_line" 1 jG:=
  bV (k:=0) (g:=J6) Fn hmg hb U6 rfl rfl fun cdv A outer s H E hr=>(by
      obtain⟨afa,QC⟩:=T.vQ
      exact (aL (bx (qF (sO (ans:=gY) T.nW (dv 0) rfl T.gD boot_isinstance rfl T.eY boot_tuple) (tO (xH qm qm aJ (aP cF rfl T.cM PySem.boot_len (aj (dv 0) aq)) (fU rfl QC)))))))
theorem QD (Fn:Fun K "is_whole" "is_whole" yq f fd) (hmg:mg "is_whole" =some (.ref f)) (hb:Binds K fd ["thing"] []) (T:Txt K mg)  :aU P w K mg base 1 "is_whole" 1 dX:=
 bV (k:=0) (g:=Gf) Fn hmg hb Qw rfl rfl λ cdv A outer s H E hr=>(aL (bx (qF (sO (ans:=Bs) T.GX (dv 0) rfl T.gD boot_isinstance rfl T.Vd boot_int) (tO (Wk (sO (ans:=xQ) T.Az (dv 0) rfl T.gD boot_isinstance rfl T.Om boot_bool))))))
theorem Vf (Fn:Fun K "is_cell" "is_cell" Al f fd) (hmg:mg "is_cell" =some (.ref f)) (hb:Binds K fd ["thing"] []) (T:Txt K mg) (dZ:aU P w K mg base 1 "is_whole" 1 dX):aU P w K mg base 2 "is_cell" 1 qK:=
  bV (k:=1) (g:=J7) Fn hmg hb U7 rfl rfl fun cdv A outer s H E hr=>(by
      obtain⟨afb,QF⟩:=T.vP
      exact (aL (bx (qF (bw dZ hr (by decide) (aj (dv 0) aq)) (tO (xH qm qm aJ (dv 0) (fU rfl QF)))))))
theorem Ym (Fn:Fun K "is_row" "is_row" Eh f fd) (hmg:mg "is_row" =some (.ref f)) (hb:Binds K fd ["thing"] []) (T:Txt K mg) (Ba:aU P w K mg base 2 "is_cell" 1 qK) (nY:aU P w K mg base 1 "is_line" 1 jG):aU P w K mg base 3 "is_row" 1 uw:=
 bV (k:=2) (g:=Ni) Fn hmg hb Yk rfl rfl λ cdv A outer s H E hr=>(aL (bx (qF (bw nY hr (by decide) (aj (dv 0) aq)) (tO (aP (tX rfl) rfl T.sE boot_all (aj (bW ["cell"] [] rfl (by kernel_rfl) (by kernel_rfl) (cT (dv 0)) (aR (by decide)) (λ _ _ _ _ nd=>bh 0 nd) (λ _ _ _ _=>bM) (λ _ _ _ _=>(bw Ba hr (by decide) (aj (dv 0) aq)))) aq))))))
theorem K1 (Fn:Fun K "is_picture" "is_picture" uI f fd) (hmg:mg "is_picture" =some (.ref f)) (hb:Binds K fd ["thing"] []) (T:Txt K mg) (nY:aU P w K mg base 1 "is_line" 1 jG) (Em:aU P w K mg base 3 "is_row" 1 uw):aU P w K mg base 4 "is_picture" 1 lJ:=
 bV (k:=3) (g:=zX) Fn hmg hb KN rfl rfl λ cdv A outer s H E hr=>(aH (dG (DW.dt (Eu (ju (jO (bw nY hr (by decide) (aj (dv 0) aq)))) (zf (ju (jO (aP (tX rfl) rfl T.sE boot_all (aj (bW ["row"] [] rfl (by kernel_rfl) (by kernel_rfl) (cT (dv 0)) (aR (by decide)) (λ _ _ _ _ nd=>bh 0 nd) (λ _ _ _ _=>bM) (λ _ _ _ _=>(bw Em hr (by decide) (aj (dv 0) aq)))) aq))))))) (aL (bx lN)) cO) (aL (bx (aP (tX rfl) rfl T.sE boot_all (aj (bW ["row"] [0] rfl (by kernel_rfl) (by kernel_rfl) (cT (dv 0)) (aR (by decide)) (λ _ _ _ _ nd=>bh 0 nd) (λ _ _ _ _=>bM) (λ _ _ _ _=>(zc (Bq (iY hr)) (aP cF rfl T.cM PySem.boot_len (aj (dv 0) aq)) (aP cF rfl T.cM PySem.boot_len (aj (bK (dv 1) aJ) aq))))) aq)))))
theorem G5 (Fn:Fun K "need_picture" "need_picture" p7 f fd) (hmg:mg "need_picture" =some (.ref f)) (hb:Binds K fd ["thing"] []) (T:Txt K mg) (uO:aU P w K mg base 4 "is_picture" 1 lJ):aU P w K mg base 5 "need_picture" 1 cD:=
 bV (k:=4) (g:=wH) Fn hmg hb GD rfl rfl λ cdv A outer s H E hr=>(aL (dG (ju (jO (bw uO hr (by decide) (aj (dv 0) aq)))) (aL tW) cO))
theorem Vg (Fn:Fun K "size_of" "size_of" Am f fd) (hmg:mg "size_of" =some (.ref f)) (hb:Binds K fd ["picture"] []) (T:Txt K mg) (bR:aU P w K mg base 5 "need_picture" 1 cD):aU P w K mg base 6 "size_of" 1 gk:=
 bV (k:=5) (g:=J8) Fn hmg hb U8 rfl rfl λ cdv A outer s H E hr=>(aH (lQ (bw bR hr (by decide) (aj (dv 0) aq))) (aL (bx (dg (aj (aP cF rfl T.cM PySem.boot_len (aj (bK (dv 0) aJ) aq)) (aj (aP cF rfl T.cM PySem.boot_len (aj (dv 0) aq)) aq))))))
theorem Yn (Fn:Fun K "turned" "turned" Ei f fd) (hmg:mg "turned" =some (.ref f)) (hb:Binds K fd ["picture"] []) (T:Txt K mg) (fJ:aU P w K mg base 6 "size_of" 1 gk):aU P w K mg base 7 "turned" 1 ux:=
 bV (k:=6) (g:=Nj) Fn hmg hb Ks rfl rfl λ cdv A outer s H E hr=>(aH (wg 1 2 rfl Ks.nd (bw fJ hr (by decide) (aj (dv 0) aq))) (aL (bx (jg jh rfl T.eY boot_tuple (aj (bW ["x"] [2,0] rfl (by kernel_rfl) (by kernel_rfl) (eZ rfl T.cW (aj (dv 1) aq)) (aR (by decide)) (λ _ _ _ _ nd=>bh 0 nd) (λ _ _ _ _=>bM) (λ _ _ _ _=>(jg jh rfl T.eY boot_tuple (aj (bW ["y"] [2,0] rfl (by kernel_rfl) (by kernel_rfl) (eZ rfl T.cW (aj (dv 1) aq)) (aR (by decide)) (λ _ _ _ _ nd=>bh 0 nd) (λ _ _ _ _=>bM) (λ _ _ _ _=>(bK (bK (dv 1) (dv 0)) (dv 2)))) aq)))) aq)))))
theorem Yo (Fn:Fun K "worths" "worths" Ej f fd) (hmg:mg "worths" =some (.ref f)) (hb:Binds K fd ["picture"] []) (T:Txt K mg) (uN:aU P w K mg base 1 "gaps" 1 qJ) (fJ:aU P w K mg base 6 "size_of" 1 gk) (En:aU P w K mg base 7 "turned" 1 ux):aU P w K mg base 8 "worths" 1 jk:=
 bV (k:=7) (g:=Nk) Fn hmg hb vd rfl rfl λ cdv A outer s H E hr=>(aH (wg 1 2 rfl vd.nd (bw fJ hr (by decide) (aj (dv 0) aq))) (aH (bO 3 vd.nd (bW ["row"] [] rfl (by kernel_rfl) (by kernel_rfl) (cT (dv 0)) (aR (by decide)) (λ _ _ _ _ nd=>bh 0 nd) (λ _ _ _ _=>bM) (λ _ _ _ _=>(bw uN hr (by decide) (aj (dv 0) aq))))) (aH (bO 4 vd.nd (bW ["column"] [] rfl (by kernel_rfl) (by kernel_rfl) (cT (bw En hr (by decide) (aj (dv 0) aq))) (aR (by decide)) (λ _ _ _ _ nd=>bh 0 nd) (λ _ _ _ _=>bM) (λ _ _ _ _=>(bw uN hr (by decide) (aj (dv 0) aq))))) (aL (bx (jg jh rfl T.eY boot_tuple (aj (bW ["y"] [3,4,1] rfl (by kernel_rfl) (by kernel_rfl) (eZ rfl T.cW (aj (dv 2) aq)) (aR (by decide)) (λ _ _ _ _ nd=>bh 0 nd) (λ _ _ _ _=>bM) (λ _ _ _ _=>(jg jh rfl T.eY boot_tuple (aj (bW ["x"] [1,2,0] rfl (by kernel_rfl) (by kernel_rfl) (eZ rfl T.cW (aj (dv 3) aq)) (aR (by decide)) (λ _ _ _ _ nd=>bh 0 nd) (λ _ _ _ _=>bM) (λ _ _ _ _=>(aM cg (bK (bK (dv 1) (dv 3)) (dv 0)) (bK (bK (dv 2) (dv 0)) (dv 3))))) aq)))) aq)))))))
theorem aaw (Fn:Fun K "fares" "fares" Jm f fd) (hmg:mg "fares" =some (.ref f)) (hb:Binds K fd ["picture","manner"] []) (T:Txt K mg) (uP:aU P w K mg base 2 "join_fares" 2 lG) (jN:aU P w K mg base 8 "worths" 1 jk):aU P w K mg base 9 "fares" 2 jX:=
 bV (k:=8) (g:=S5) Fn hmg hb aav rfl rfl λ cdv A outer s H E hr=>(aH (dG (cQ (Bq (iY hr)) (dv 1) adi) (aL (bx (bW ["row"] [] rfl (by kernel_rfl) (by kernel_rfl) (cT (bw jN hr (by decide) (aj (dv 0) aq))) (aR (by decide)) (λ _ _ _ _ nd=>bh 0 nd) (λ _ _ _ _=>bM) (λ _ _ _ _=>(bW ["worth"] [] rfl (by kernel_rfl) (by kernel_rfl) (cT (dv 0)) (aR (by decide)) (λ _ _ _ _ nd=>bh 0 nd) (λ _ _ _ _=>bM) (λ _ _ _ _=>(dg (aj (dv 0) (aj (dv 0) (aj (dv 0) aq)))))))))) cO) (aL (bx (bW ["y"] [0] rfl (by kernel_rfl) (by kernel_rfl) (eZ rfl T.cW (aj (aP cF rfl T.cM PySem.boot_len (aj (dv 0) aq)) aq)) (aR (by decide)) (λ _ _ _ _ nd=>bh 0 nd) (λ _ _ _ _=>bM) (λ _ _ _ _=>(bw uP hr (by decide) (aj (dv 1) (aj (dv 0) aq))))))))
theorem Jq (Fn:Fun K "need_manner" "need_manner" qY f fd) (hmg:mg "need_manner" =some (.ref f)) (hb:Binds K fd ["thing"] []) (T:Txt K mg)  :aU P w K mg base 1 "need_manner" 1 fD:=
 bV (k:=0) (g:=yR) Fn hmg hb Jo rfl rfl λ cdv A outer s H E hr=>(aL (dG (cQ Zr (dv 0) (abH (ss:=["worth","joins"]) rfl T.Ay) (by rfl)) (aL tW) cO))
theorem Yp (Fn:Fun K "is_way" "is_way" Ek f fd) (hmg:mg "is_way" =some (.ref f)) (hb:Binds K fd ["thing","wide","high"] []) (T:Txt K mg) (dZ:aU P w K mg base 1 "is_whole" 1 dX):aU P w K mg base 2 "is_way" 3 uz:=
 bV (k:=1) (g:=Nm) Fn hmg hb Yl rfl rfl λ cdv A outer s H E hr=>(aH (dG (DW.dt (Eu (ju (jO (sO (ans:=gY) T.nW (dv 0) rfl T.gD boot_isinstance rfl T.eY boot_tuple))) (zf (cQ (uY (iY hr)) (aP cF rfl T.cM PySem.boot_len (aj (dv 0) aq)) (dv 2))))) (aL (bx lN)) cO) (aH (dG (ju (jO (aP (tX rfl) rfl T.sE boot_all (aj (bW ["place"] [1] rfl (by kernel_rfl) (by kernel_rfl) (cT (dv 0)) (aR (by decide)) (λ _ _ _ _ nd=>bh 0 nd) (λ _ _ _ _=>bM) (λ _ _ _ _=>(qF (bw dZ hr (by decide) (aj (dv 0) aq)) (tO (xH qm xG aJ (dv 0) (dv 1)))))) aq)))) (aL (bx lN)) cO) (aL (bx (aP (tX rfl) rfl T.sE boot_all (aj (bW ["y"] [0] rfl (by kernel_rfl) (by kernel_rfl) (uW rfl T.cW (aj aJ (aj (dv 2) aq))) (aR (by decide)) (λ _ _ _ _ nd=>bh 0 nd) (λ _ _ _ _=>bM) (λ _ _ _ _=>(zc qm (aP Ft rfl T.BZ boot_abs (aj (aM fM (bK (dv 1) (dv 0)) (bK (dv 1) (aM fM (dv 0) aJ))) aq)) aJ))) aq))))))
theorem Vh (Fn:Fun K "is_seam" "is_seam" Ao f fd) (hmg:mg "is_seam" =some (.ref f)) (hb:Binds K fd ["thing","picture"] []) (T:Txt K mg) (Eo:aU P w K mg base 2 "is_way" 3 uz) (fJ:aU P w K mg base 6 "size_of" 1 gk):aU P w K mg base 7 "is_seam" 2 qL:=
 bV (k:=6) (g:=J9) Fn hmg hb GF rfl rfl λ cdv A outer s H E hr=>(aH (wg 2 3 rfl GF.nd (bw fJ hr (by decide) (aj (dv 1) aq))) (aL (bx (bw Eo hr (by decide) (aj (dv 0) (aj (dv 2) (aj (dv 3) aq)))))))
theorem Ou (Fn:Fun K "need_seam" "need_seam" vK f fd) (hmg:mg "need_seam" =some (.ref f)) (hb:Binds K fd ["thing","picture"] []) (T:Txt K mg) (Bb:aU P w K mg base 7 "is_seam" 2 qL):aU P w K mg base 8 "need_seam" 2 jY:=
 bV (k:=7) (g:=CK) Fn hmg hb Oe rfl rfl λ cdv A outer s H E hr=>(aL (dG (ju (jO (bw Bb hr (by decide) (aj (dv 0) (aj (dv 1) aq))))) (aL tW) cO))
theorem Vi (Fn:Fun K "fare_of" "fare_of" Aq f fd) (hmg:mg "fare_of" =some (.ref f)) (hb:Binds K fd ["row","above","place"] []) (T:Txt K mg)  :aU P w K mg base 1 "fare_of" 3 dN:=
 bV (k:=0) (g:=Ka) Fn hmg hb U9 rfl rfl λ cdv A outer s H E hr=>(aL (bx (bK (bK (dv 0) (dv 2)) (aM cg (aM fM (dv 1) (dv 2)) aJ))))
theorem QG (Fn:Fun K "way_cost" "way_cost" yt f fd) (hmg:mg "way_cost" =some (.ref f)) (hb:Binds K fd ["table","way"] []) (T:Txt K mg) (ig:aU P w K mg base 1 "fare_of" 3 dN):aU P w K mg base 2 "way_cost" 2 lW:=
 bV (k:=1) (g:=Gg) Fn hmg hb qC rfl rfl λ cdv A outer s H E hr=>(aH (bO 2 qC.nd (bw ig hr (by decide) (aj (bK (dv 0) aJ) (aj (bK (dv 1) aJ) (aj (bK (dv 1) aJ) aq))))) (aH (iW PassesOwn.never rfl (uW rfl T.cW (aj aJ (aj (aP cF rfl T.cM PySem.boot_len (aj (dv 1) aq)) aq))) (lg 3 qC.nd) (aL (adG 2 qC.nd (bw ig hr (by decide) (aj (bK (dv 0) (dv 3)) (aj (bK (dv 1) (aM fM (dv 3) aJ)) (aj (bK (dv 1) (dv 3)) aq))))))) (aL (bx (dv 2)))))
theorem Vj (T:Txt K mg) (nZ:aU P w K mg base 9 "fares" 2 jX) (fK:aU P w K mg base 1 "need_manner" 1 fD) (bR:aU P w K mg base 5 "need_picture" 1 cD) (mZ:aU P w K mg base 8 "need_seam" 2 jY) (o7:aU P w K mg base 2 "way_cost" 2 lW) (hr:Room 9 (A.deeper (envOfC "cost_of" (defScope fH) s.heap.objs.size f cdv))):lY (cxOf CX0 P w K mg base ["picture","seam","manner"] "cost_of" (defScope fH) f cdv A outer s H E).nox (defBody fH) zY:=by
 exact (aH (lQ (bw bR hr (by decide) (aj (dv 0) aq))) (aH (lQ (bw fK hr (by decide) (aj (dv 2) aq))) (aH (lQ (bw mZ hr (by decide) (aj (dv 1) (aj (dv 0) aq)))) (aL (bx (bw o7 hr (by decide) (aj (bw nZ hr (by decide) (aj (dv 0) (aj (dv 2) aq))) (aj (dv 1) aq))))))))
theorem Vk (Fn:Fun K "cost_of" "cost_of" fH f fd) (hmg:mg "cost_of" =some (.ref f)) (T:Txt K mg) (nZ:aU P w K mg base 9 "fares" 2 jX) (fK:aU P w K mg base 1 "need_manner" 1 fD) (bR:aU P w K mg base 5 "need_picture" 1 cD) (mZ:aU P w K mg base 8 "need_seam" 2 jY) (o7:aU P w K mg base 2 "way_cost" 2 lW):FnE P w K mg base 10 "cost_of" 3 jH fd ["picture","seam","manner"]:=
 adC (k:=9) (g:=zY) Fn hmg Va rfl rfl λ cdv A outer s H E hr=>Vj T nZ fK bR mZ o7 hr
theorem QH (Fn:Fun K "all_free" "all_free" yu f fd) (hmg:mg "all_free" =some (.ref f)) (hb:Binds K fd ["picture"] []) (T:Txt K mg)  :aU P w K mg base 1 "all_free" 1 oM:=
  bV (k:=0) (g:=Gh) Fn hmg hb Qx rfl rfl fun cdv A outer s H E hr=>(by
      obtain⟨aeJ,Ov⟩:=T.GQ
      exact (aL (bx (aM nF (dg (aj (aM nF (dg (aj (fU rfl Ov) aq)) (aP cF rfl T.cM PySem.boot_len (aj (bK (dv 0) aJ) aq))) aq)) (aP cF rfl T.cM PySem.boot_len (aj (dv 0) aq))))))
theorem Vl (Fn:Fun K "is_mark" "is_mark" Av f fd) (hmg:mg "is_mark" =some (.ref f)) (hb:Binds K fd ["thing"] []) (T:Txt K mg) (dZ:aU P w K mg base 1 "is_whole" 1 dX):aU P w K mg base 2 "is_mark" 1 qM:=
  bV (k:=1) (g:=Kc) Fn hmg hb Vb rfl rfl fun cdv A outer s H E hr=>(by
      obtain⟨aeJ,Ov⟩:=T.GQ
      obtain⟨aeK,Ow⟩:=T.GR
      exact (aL (bx (qF (bw dZ hr (by decide) (aj (dv 0) aq)) (tO (xH qm qm (fU rfl Ov) (dv 0) (fU rfl Ow)))))))
theorem G6 (Fn:Fun K "is_marks_row" "is_marks_row" p8 f fd) (hmg:mg "is_marks_row" =some (.ref f)) (hb:Binds K fd ["thing","wide"] []) (T:Txt K mg) (Bc:aU P w K mg base 2 "is_mark" 1 qM):aU P w K mg base 3 "is_marks_row" 2 jz:=
 bV (k:=2) (g:=wI) Fn hmg hb GJ rfl rfl λ cdv A outer s H E hr=>(aL (bx (qF (sO (ans:=gY) T.nW (dv 0) rfl T.gD boot_isinstance rfl T.eY boot_tuple) (qF (zc (Bq (iY hr)) (aP cF rfl T.cM PySem.boot_len (aj (dv 0) aq)) (dv 1)) (tO (aP (tX rfl) rfl T.sE boot_all (aj (bW ["mark"] [] rfl (by kernel_rfl) (by kernel_rfl) (cT (dv 0)) (aR (by decide)) (λ _ _ _ _ nd=>bh 0 nd) (λ _ _ _ _=>bM) (λ _ _ _ _=>(bw Bc hr (by decide) (aj (dv 0) aq)))) aq)))))))
theorem QJ (Fn:Fun K "is_marks" "is_marks" yw f fd) (hmg:mg "is_marks" =some (.ref f)) (hb:Binds K fd ["thing","picture"] []) (T:Txt K mg) (qd:aU P w K mg base 3 "is_marks_row" 2 jz):aU P w K mg base 4 "is_marks" 2 oN:=
 bV (k:=3) (g:=Gi) Fn hmg hb Qy rfl rfl λ cdv A outer s H E hr=>(aH (dG (DW.dt (Eu (ju (jO (sO (ans:=gY) T.nW (dv 0) rfl T.gD boot_isinstance rfl T.eY boot_tuple))) (zf (cQ (uY (iY hr)) (aP cF rfl T.cM PySem.boot_len (aj (dv 0) aq)) (aP cF rfl T.cM PySem.boot_len (aj (dv 1) aq)))))) (aL (bx lN)) cO) (aL (bx (aP (tX rfl) rfl T.sE boot_all (aj (bW ["row"] [1] rfl (by kernel_rfl) (by kernel_rfl) (cT (dv 0)) (aR (by decide)) (λ _ _ _ _ nd=>bh 0 nd) (λ _ _ _ _=>bM) (λ _ _ _ _=>(bw qd hr (by decide) (aj (dv 0) (aj (aP cF rfl T.cM PySem.boot_len (aj (bK (dv 1) aJ) aq)) aq))))) aq)))))
theorem K3 (Fn:Fun K "full_marks" "full_marks" uJ f fd) (hmg:mg "full_marks" =some (.ref f)) (hb:Binds K fd ["thing","picture"] []) (T:Txt K mg) (yH:aU P w K mg base 1 "all_free" 1 oM) (yI:aU P w K mg base 4 "is_marks" 2 oN):aU P w K mg base 5 "full_marks" 2 gq:=
 bV (k:=4) (g:=zZ) Fn hmg hb KQ rfl rfl λ cdv A outer s H E hr=>(aH (dG (cQ Lf (dv 0) tE) (aL (bx (bw yH hr (by decide) (aj (dv 1) aq)))) cO) (aH (dG (ju (jO (bw yI hr (by decide) (aj (dv 0) (aj (dv 1) aq))))) (aL tW) cO) (aL (bx (dv 0)))))
theorem QK (Fn:Fun K "laid_out" "laid_out" yx f fd) (hmg:mg "laid_out" =some (.ref f)) (hb:Binds K fd ["picture","manner","marks"] []) (T:Txt K mg) (nZ:aU P w K mg base 9 "fares" 2 jX) (uQ:aU P w K mg base 5 "full_marks" 2 gq) (fK:aU P w K mg base 1 "need_manner" 1 fD) (bR:aU P w K mg base 5 "need_picture" 1 cD):aU P w K mg base 10 "laid_out" 3 oO:=
 bV (k:=9) (g:=Gj) Fn hmg hb Dc rfl rfl λ cdv A outer s H E hr=>(aH (lQ (bw bR hr (by decide) (aj (dv 0) aq))) (aH (lQ (bw fK hr (by decide) (aj (dv 1) aq))) (aH (bO 3 Dc.nd (bw uQ hr (by decide) (aj (dv 2) (aj (dv 0) aq)))) (aL (bx (dg (aj (bw nZ hr (by decide) (aj (dv 0) (aj (dv 1) aq))) (aj (dv 3) aq))))))))
theorem acS (Fn:Fun K "near" "near" Og f fd) (hmg:mg "near" =some (.ref f)) (hb:Binds K fd ["place","wide"] []) (T:Txt K mg)  :aU P w K mg base 1 "near" 2 uD:=
 bV (k:=0) (g:=Xl) Fn hmg hb acQ rfl rfl λ cdv A outer s H E hr=>(aL (bx (ZR rfl rfl T.Oo rfl T.cW (aj (aP (Fv rfl) rfl T.Ca boot_max (aj (aM fM (dv 0) aJ) (aj aJ aq))) (aj (aP (zx rfl) rfl T.yG boot_min (aj (aM cg (dv 0) aJ) (aj (dv 1) aq))) aq)))))
theorem Yq (Fn:Fun K "onward" "onward" El f fd) (hmg:mg "onward" =some (.ref f)) (hb:Binds K fd ["beneath","row","x"] []) (T:Txt K mg) (ig:aU P w K mg base 1 "fare_of" 3 dN) (wY:aU P w K mg base 1 "near" 2 uD):aU P w K mg base 2 "onward" 3 pQ:=
 bV (k:=1) (g:=Np) Fn hmg hb qP rfl rfl λ cdv A outer s H E hr=>(aH (pJ 3 qP.nd aq) (aH (iW PassesOwn.never rfl (cT (bw wY hr (by decide) (aj (dv 2) (aj (aP cF rfl T.cM PySem.boot_len (aj (dv 0) aq)) aq)))) (lg 4 qP.nd) (aH (bO 5 qP.nd (bw ig hr (by decide) (aj (dv 1) (aj (dv 2) (aj (dv 4) aq))))) (aL (Bv 3 qP.nd (bW ["less","cost","rest"] [5] rfl (by kernel_rfl) (by kernel_rfl) (cT (bK (dv 0) (dv 4))) (kZ (cI (aR (by decide)) (cI (aR (by decide)) (cI (aR (by decide)) kY)))) (λ _ _ _ _ nd=>tQ rfl (cY (bh 0 nd) (cY (bh 1 nd) (cY (bh 2 nd) pG)))) (λ _ _ _ _=>bM) (λ _ _ _ _=>(dg (aj (dv 0) (aj (aM cg (dv 1) (dv 3)) (aj (dv 2) aq)))))))))) (aL (bx (dv 3)))))
theorem aax (T:Txt K mg) (uR:aU P w K mg base 2 "onward" 3 pQ) {aG:Nat} {GG:List D->R D} (hG:zG P w K mg base 1 GG 2 aG H) (hr:Room 2 (A.deeper (envOfC "swept" (defScope tu) s.heap.objs.size f cdv))):lY (cxOf CX0 P w K mg base ["table","marks","start","gather","rows","y","row","x","mark","told","lost"] "swept" (defScope tu) f cdv A outer s H E).nox (defBody tu) (Je aG GG):=by
 obtain⟨aeK,Ow⟩:=T.GR;obtain⟨agW,aeL⟩:=T.Ol;exact (aH (pJ 4 jM.nd aq) (aH (iW PassesOwn.never rfl (R9 rfl T.sG rfl T.cW (aj (aP cF rfl T.cM PySem.boot_len (aj (dv 1) aq)) aq)) (lg 5 jM.nd) (aH (pJ 6 jM.nd aq) (aH (iW PassesOwn.never rfl (sU rfl T.gZ (aj (bK (dv 1) (dv 5)) aq)) (wj 7 8 rfl jM.nd) (aH (dG (cQ (Bq (iY hr)) (dv 8) (fU rfl aeL)) (aL (bO 9 jM.nd (kJ aq))) (aL (dG (ju (W7 (dv 4))) (aL (bO 9 jM.nd (Mv 3 hG hr (by decide) (aj (dv 7) (aj (kJ (aj (dg (aj aJ (aj aJ (aj (dv 2) aq)))) aq)) aq))))) (aL (bO 9 jM.nd (Mv 3 hG hr (by decide) (aj (dv 7) (aj (bw uR hr (by decide) (aj (W5 4 (Mf aJ)) (aj (bK (dv 0) (aM cg (dv 5) aJ)) (aj (dv 7) aq)))) aq)))))))) (aH (bO 10 jM.nd (aaS (cQ (Bq (iY hr)) (dv 8) (fU rfl Ow)) aJ aJ)) (aL (wk 6 (bW ["less","cost","rest"] [10] rfl (by kernel_rfl) (by kernel_rfl) (cT (dv 9)) (kZ (cI (aR (by decide)) (cI (aR (by decide)) (cI (aR (by decide)) kY)))) (λ _ _ _ _ nd=>tQ rfl (cY (bh 0 nd) (cY (bh 1 nd) (cY (bh 2 nd) pG)))) (λ _ _ _ _=>bM) (λ _ _ _ _=>(dg (aj (aM fM (dv 0) (dv 3)) (aj (dv 1) (aj (dv 2) aq))))))))))) (aL (abR 4 6 (by decide)))))) (aL (bx (abQ (dv 4))))))
theorem aay (Fn:Fun K "swept" "swept" tu f fd) (hmg:mg "swept" =some (.ref f)) (hb:Binds K fd ["table","marks","start","gather"] []) (T:Txt K mg) (uR:aU P w K mg base 2 "onward" 3 pQ):FnS P w K mg base 3 "swept" 1 3 2 sY:=
 ⟨f,fd,["table","marks","start","gather"],fnS (k:=2) (m:=7) (g:=Je) Fn jM rfl rfl λ cdv A outer s H E a G hr hG=>aax T uR hG hr,hmg,Fn.kp,hb⟩
theorem K4 {c:Addr} (T:Txt K mg)  (hr:Room 0 (A.deeper (xV "best_ways.<locals>.first_ones" (defScope iU) f cdv s "many" c))):lY (xW P w K mg base ["x","told","many"] "best_ways.<locals>.first_ones" (defScope iU) f cdv A outer s H "many" c) (defBody iU) Aa:=by
 exact (aL (bx (bW ["less","cost","places"] [0] rfl (by kernel_rfl) (by kernel_rfl) (cT (zJ (aP (MN (W8 hr)) rfl T.uM boot_sorted (aj (dv 1) aq)) uf (ug (dv 2)))) (kZ (cI (aR (by decide)) (cI (aR (by decide)) (cI (aR (by decide)) kY)))) (λ _ _ _ _ nd=>tQ rfl (cY (bh 0 nd) (cY (bh 1 nd) (cY (bh 2 nd) pG)))) (λ _ _ _ _=>bM) (λ _ _ _ _=>(dg (aj (dv 0) (aj (dv 1) (aj (aM cg (dg (aj (dv 3) aq)) (dv 2)) aq))))))))
theorem Jr (T:Txt K mg)  (my:Int) (a c:Addr) (H:Hp) (co:Obj) (uy:Value) (fh:lB H a "first_ones" "best_ways.<locals>.first_ones" (defArgs iU) (defBody iU) (defScope iU) [("many",c)]) (hc:H c=some (.frz co (.own c))) (hcd:co.data= .cell (some uy)) (hy:RelV (.int my) uy):zG P w K mg base 1 (dY my) 2 a H:=
 adN (k:=0) (m:=0) KR rfl rfl (λ _ _ _ _ _ us hl=>nU hl λ _ _=>rfl) (λ cdv A outer s H f c hr=>K4 T  hr) fh hc hcd hy
theorem Ox {cc TP:Addr} (T:Txt K mg) (wZ:FnS P w K mg base 3 "swept" 1 3 2 sY)  (hB:qw base mg cc TP) (hT:Tb [(TP,"best_ways.<locals>.first_ones")] H) (hr:Room 3 (A.deeper (envOfC "best_ways" (defScope jo) s.heap.objs.size f (.ref cc)))):lY (cxOf CX0 P w K mg base ["table","marks","many","first_ones"] "best_ways" (defScope jo) f (.ref cc) A outer s H E).nox (defBody jo) vB:=by
 obtain⟨fS,Mw,JX,Sw,hm,hk,hb⟩:=wZ;exact ZP (c:=s.heap.objs.size+1) (y:= "many") 3 2 Aw.nd hB hT rfl Sw (hr.mono (by decide)) hm hk hb (Jr T ) (dv 0) (dv 1) (dg aq) rfl rfl rfl rfl (by decide) (.inl rfl)
theorem Oz {cc TP:Addr} (Fn:Fun K "best_ways" "best_ways" jo f fd) (hmg:mg "best_ways" =some (.ref f)) (T:Txt K mg) (wZ:FnS P w K mg base 3 "swept" 1 3 2 sY)  (hB:qw base mg cc TP) (hci:zH K mg "best_ways" cc):qX P w K mg base 4 "best_ways" 3 qy fd ["table","marks","many"] [(TP,"best_ways.<locals>.first_ones")]:=by
 refine⟨f,W2 (k:=3) (m:=1) (g:=vB) Fn Aw rfl rfl λ cdv A outer s H E hcd hr hT=>?_,hmg,Fn.kp⟩;have e:fd.code= .ref cc:=by
  obtain⟨oc,od,kV,doc,pm,an,ag7,ct,osl,e1,lk,_⟩:=Fn.ex;exact hci f oc od fd osl hmg lk
 cases hcd.symm.trans e;exact Ox T wZ  hB hT hr
theorem QL (Fn:Fun K "from_top" "from_top" yC f fd) (hmg:mg "from_top" =some (.ref f)) (hb:Binds K fd ["table","rows"] []) (T:Txt K mg) (ig:aU P w K mg base 1 "fare_of" 3 dN):aU P w K mg base 2 "from_top" 2 oR:=
 bV (k:=1) (g:=Gk) Fn hmg hb mY rfl rfl λ cdv A outer s H E hr=>(aH (pJ 2 mY.nd aq) (aH (iW PassesOwn.never rfl (sU rfl T.gZ (aj (bK (dv 1) aJ) aq)) (wj 3 4 rfl mY.nd) (aH (bO 5 mY.nd (bw ig hr (by decide) (aj (bK (dv 0) aJ) (aj (dv 3) (aj (dv 3) aq))))) (aL (Bv 2 mY.nd (bW ["less","cost","rest"] [5] rfl (by kernel_rfl) (by kernel_rfl) (cT (dv 4)) (kZ (cI (aR (by decide)) (cI (aR (by decide)) (cI (aR (by decide)) kY)))) (λ _ _ _ _ nd=>tQ rfl (cY (bh 0 nd) (cY (bh 1 nd) (cY (bh 2 nd) pG)))) (λ _ _ _ _=>bM) (λ _ _ _ _=>(dg (aj (dv 0) (aj (aM cg (dv 1) (dv 3)) (aj (dv 2) aq)))))))))) (aL (bx (dv 2)))))
theorem Js (Fn:Fun K "first_seams" "first_seams" qZ f fd) (hmg:mg "first_seams" =some (.ref f)) (T:Txt K mg) {uT:FuncData} (vR:qX P w K mg base 4 "best_ways" 3 qy uT ["table","marks","many"] Kr) (vU:Binds K uT ["table","marks","many"] []) (yJ:aU P w K mg base 2 "from_top" 2 oR):qX P w K mg base 5 "first_seams" 3 m7 fd ["table","marks","many"] Kr:=
 ⟨f,W2 (k:=4) (m:=0) (g:=yS) Fn Jp rfl rfl λ cdv A outer s H E _ hr hT=>((aL (bx (zJ (aP (MN (W8 hr)) rfl T.uM boot_sorted (aj (bw yJ hr (by decide) (aj (dv 0) (aj (Mu vR hT hr (by decide) vU (aj (dv 0) (aj (dv 1) (aj (dv 2) aq)))) aq))) aq)) uf (ug (dv 2)))))),hmg,Fn.kp⟩
theorem OD (Fn:Fun K "least_way" "least_way" vL f fd) (hmg:mg "least_way" =some (.ref f)) (T:Txt K mg) {qe:FuncData} (q9:qX P w K mg base 5 "first_seams" 3 m7 qe ["table","marks","many"] Kr) (rm:Binds K qe ["table","marks","many"] []):qX P w K mg base 6 "least_way" 2 qz fd ["table","marks"] Kr:=
 ⟨f,W2 (k:=5) (m:=4) (g:=CN) Fn uK rfl rfl λ cdv A outer s H E _ hr hT=>((aH (bO 2 uK.nd (Mu q9 hT hr (by decide) rm (aj (dv 0) (aj (dv 1) (aj aJ aq))))) (aH (dG (ju (W7 (dv 2))) (aL (bx tE)) cO) (aH (abX 3 4 5 rfl uK.nd (bK (dv 2) aJ)) (aL (bx (dg (aj (dv 4) (aj (dv 5) aq))))))))),hmg,Fn.kp⟩
theorem K5 (Fn:Fun K "least_seam" "least_seam" cV f fd) (hmg:mg "least_seam" =some (.ref f)) (T:Txt K mg) (yK:aU P w K mg base 10 "laid_out" 3 oO) {uU:FuncData} (vV:qX P w K mg base 6 "least_way" 2 qz uU ["table","marks"] Kr) (vW:Binds K uU ["table","marks"] []):qX P w K mg base 11 "least_seam" 3 jA fd ["picture","manner","marks"] Kr:=
 ⟨f,W2 (k:=10) (m:=3) (g:=Ab) Fn q8 rfl rfl λ cdv A outer s H E _ hr hT=>((aH (wg 3 4 rfl q8.nd (bw yK hr (by decide) (aj (dv 0) (aj (dv 1) (aj (dv 2) aq))))) (aH (bO 5 q8.nd (Mu vV hT hr (by decide) vW (aj (dv 3) (aj (dv 4) aq)))) (aH (dG (cQ Lf (dv 5) tE) (aL (bx tE)) cO) (aL (bx (bK (dv 5) aJ))))))),hmg,Fn.kp⟩
theorem QM (Fn:Fun K "mirrored" "mirrored" yD f fd) (hmg:mg "mirrored" =some (.ref f)) (hb:Binds K fd ["picture"] []) (T:Txt K mg) (bR:aU P w K mg base 5 "need_picture" 1 cD):aU P w K mg base 6 "mirrored" 1 lX:=
 bV (k:=5) (g:=Gm) Fn hmg hb Qz rfl rfl λ cdv A outer s H E hr=>(aH (lQ (bw bR hr (by decide) (aj (dv 0) aq))) (aL (bx (jg jh rfl T.eY boot_tuple (aj (bW ["row"] [] rfl (by kernel_rfl) (by kernel_rfl) (cT (dv 0)) (aR (by decide)) (λ _ _ _ _ nd=>bh 0 nd) (λ _ _ _ _=>bM) (λ _ _ _ _=>(adw (dv 0)))) aq)))))
theorem OJ (Fn:Fun K "node_into" "node_into" vM f fd) (hmg:mg "node_into" =some (.ref f)) (hb:Binds K fd ["x","y","wide"] []) (T:Txt K mg)  :aU P w K mg base 1 "node_into" 3 f9:=
 bV (k:=0) (g:=CP) Fn hmg hb Oh rfl rfl λ cdv A outer s H E hr=>(aL (bx (aM nF aJ (aM cg (aM cg (aM nF (dv 1) (dv 2)) (dv 0)) aJ))))
theorem O5 (Fn:Fun K "arcs_down" "arcs_down" vN f fd) (hmg:mg "arcs_down" =some (.ref f)) (hb:Binds K fd ["costs","taken"] []) (T:Txt K mg) (wY:aU P w K mg base 1 "near" 2 uD) (iu:aU P w K mg base 1 "node_into" 3 f9):aU P w K mg base 2 "arcs_down" 2 mV:=
  bV (k:=1) (g:=CQ) Fn hmg hb iR rfl rfl fun cdv A outer s H E hr=>(by
      obtain⟨abd,G7⟩:=T.GK
      obtain⟨TV,w6⟩:=T.wX
      exact (aH (bO 2 iR.nd (aP cF rfl T.cM PySem.boot_len (aj (bK (dv 0) aJ) aq))) (aH (ZV 3 iR.nd ["x"] [2] rfl (by kernel_rfl) (by kernel_rfl) (eZ rfl T.cW (aj (dv 2) aq)) (aR (by decide)) (fun _ _ _ _ nd=>bh 0 nd) (fun _ _ _ _=>bM) (fun _ _ _ _=>(dg (aj (fU rfl w6) (aj (bw iu hr (by decide) (aj (dv 0) (aj aJ (aj (dv 1) aq)))) (aj aJ aq)))))) (aH (iW PassesOwn.never rfl (sU rfl T.gZ (aj (dv 0) aq)) (wj 4 5 rfl iR.nd) (aL (iW PassesOwn.never rfl (sU rfl T.gZ (aj (dv 5) aq)) (wj 6 7 rfl iR.nd) (aH (bO 8 iR.nd (bw iu hr (by decide) (aj (dv 6) (aj (dv 4) (aj (dv 2) aq))))) (aH (dG (ju (jO (bK (bK (dv 1) (dv 4)) (dv 6)))) (aL (wk 3 (dg (aj (dv 8) (aj (aM cg (dv 8) aJ) (aj (dv 7) aq)))))) cO) (aL (dG (cQ xG (aM cg (dv 4) aJ) (aP cF rfl T.cM PySem.boot_len (aj (dv 0) aq))) (aL (Bv 3 iR.nd (bW ["place"] [8,2,4] rfl (by kernel_rfl) (by kernel_rfl) (cT (bw wY hr (by decide) (aj (dv 6) (aj (dv 2) aq)))) (aR (by decide)) (fun _ _ _ _ nd=>bh 0 nd) (fun _ _ _ _=>bM) (fun _ _ _ _=>(dg (aj (aM cg (dv 1) aJ) (aj (bw iu hr (by decide) (aj (dv 0) (aj (aM cg (dv 3) aJ) (aj (dv 2) aq)))) (aj aJ aq)))))))) (aL (wk 3 (dg (aj (aM cg (dv 8) aJ) (aj (fU rfl G7) (aj aJ aq))))))))))))) (aL (bx (dv 3)))))))
theorem Vm (Fn:Fun K "arcs_up" "arcs_up" Ax f fd) (hmg:mg "arcs_up" =some (.ref f)) (hb:Binds K fd ["costs","seams"] []) (T:Txt K mg) (iu:aU P w K mg base 1 "node_into" 3 f9):aU P w K mg base 2 "arcs_up" 2 qN:=
  bV (k:=1) (g:=Kd) Fn hmg hb je rfl rfl fun cdv A outer s H E hr=>(by
      obtain⟨abd,G7⟩:=T.GK
      exact (aH (pJ 2 je.nd aq) (aH (iW PassesOwn.never rfl (cT (dv 1)) (lg 3 je.nd) (aH (bO 4 je.nd (fU rfl G7)) (aL (iW PassesOwn.never rfl (R9 rfl T.sG rfl T.cW (aj (aP cF rfl T.cM PySem.boot_len (aj (dv 3) aq)) aq)) (lg 5 je.nd) (aH (bO 6 je.nd (bw iu hr (by decide) (aj (bK (dv 3) (dv 5)) (aj (dv 5) (aj (aP cF rfl T.cM PySem.boot_len (aj (bK (dv 0) aJ) aq)) aq))))) (aH (Bv 2 je.nd (kJ (aj (dg (aj (dv 4) (aj (aM cg (dv 6) aJ) (aj aJ aq)))) (aj (dg (aj (aM cg (dv 6) aJ) (aj (dv 6) (aj (Mf (bK (bK (dv 0) (dv 5)) (bK (dv 3) (dv 5)))) aq)))) aq)))) (aL (bO 4 je.nd (dv 6))))))))) (aL (bx (dv 2))))))
theorem G8 (T:Txt K mg)  {a:Addr} {rs:List Addr} (hr:Room 0 (A.deeper (envOfC "change_along" (defScope fX) s.heap.objs.size f cdv))):PSs (cxOf CX0 P w K mg base ["taken","ahead","wide","node","before","cell","y","x"] "change_along" (defScope fX) f cdv A outer s H E).nox (defBody fX) (rQ (cxOf CX0 P w K mg base ["taken","ahead","wide","node","before","cell","y","x"] "change_along" (defScope fX) f cdv A outer s H E).nox a rs d8):=by
 obtain⟨abd,G7⟩:=T.GK;obtain⟨TV,w6⟩:=T.wX;exact (sW (zN 2 (by decide) eX.nd (aP cF rfl T.cM PySem.boot_len (aj (bK (dv 0) aJ) aq))) (sW (zN 3 (by decide) eX.nd (fU rfl G7)) (M6 (Z6 1000 PassesOwn.never (cQ (uY (iY hr)) (dv 3) (fU rfl w6)) (sW (zN 4 (by decide) eX.nd (bK (dv 1) (dv 3))) (sW (afJ (cQ (Bq (iY hr)) (aM kj (dv 4) aJ) (aM kj (dv 3) aJ)) (sW (zN 5 (by decide) eX.nd (aM fM (aM kj (dv 3) aJ) aJ)) (sW (adU 6 7 (by decide) (by decide) rfl eX.nd (aM kj (dv 5) (dv 2)) (aM ou (dv 5) (dv 2))) (M6 (ab1 6 7 (Wk (bK (bK (dv 0) (dv 6)) (dv 7))))))) adT) (M6 (zN 3 (by decide) eX.nd (dv 4)))))))))
theorem G9 (Fn:Fun K "change_along" "change_along" fX f fd) (hmg:mg "change_along" =some (.ref f)) (hb:Binds K fd ["taken","ahead"] []) (T:Txt K mg)  :Us P w K mg base 1 "change_along" d8 6:=
 ⟨f,fd,["taken","ahead"],fnC (k:=0) (m:=6) (g:=d8) Fn eX rfl rfl (λ cdv A outer s H E a rs hr=>G8 T  hr),hmg,Fn.kp,hb⟩
theorem Ep (Fn:Fun K "seams_through" "seams_through" oY f fd) (hmg:mg "seams_through" =some (.ref f)) (hb:Binds K fd ["taken","many"] []) (T:Txt K mg)  :aU P w K mg base 1 "seams_through" 2 jc:=
 bV (k:=0) (g:=u6) Fn hmg hb uL rfl rfl λ cdv A outer s H E hr=>(aH (bO 2 uL.nd (bW ["row"] [] rfl (by kernel_rfl) (by kernel_rfl) (cT (dv 0)) (aR (by decide)) (λ _ _ _ _ nd=>bh 0 nd) (λ _ _ _ _=>bM) (λ _ _ _ _=>(bW ["x","is_taken"] [] rfl (by kernel_rfl) (by kernel_rfl) (sU rfl T.gZ (aj (dv 0) aq)) (kZ (cI (aR (by decide)) (cI (aR (by decide)) kY))) (λ _ _ _ _ nd=>tQ rfl (cY (bh 0 nd) (cY (bh 1 nd) pG))) (λ _ _ _ _=>(abo (jO (dv 1)))) (λ _ _ _ _=>(dv 0)))))) (aL (bx (bW ["at"] [2] rfl (by kernel_rfl) (by kernel_rfl) (eZ rfl T.cW (aj (dv 1) aq)) (aR (by decide)) (λ _ _ _ _ nd=>bh 0 nd) (λ _ _ _ _=>bM) (λ _ _ _ _=>(jg jh rfl T.eY boot_tuple (aj (bW ["row"] [0] rfl (by kernel_rfl) (by kernel_rfl) (cT (dv 1)) (aR (by decide)) (λ _ _ _ _ nd=>bh 0 nd) (λ _ _ _ _=>bM) (λ _ _ _ _=>(bK (dv 0) (dv 1)))) aq)))))))
theorem QS (Fn:Fun K "searched" "searched" yE f fd) (hmg:mg "searched" =some (.ref f)) (hb:Binds K fd ["arcs","many"] []) (T:Txt K mg)  :aU P w K mg base 1 "searched" 2 oU:=
  bV (k:=0) (g:=Gn) Fn hmg hb jq rfl rfl fun cdv A outer s H E hr=>(by
      obtain⟨ag2,afR⟩:=T.Vc
      obtain⟨TV,w6⟩:=T.wX
      exact (aH (Xb 2 jq.nd (abZ (kJ (aj aJ aq)) (aM abK (kJ (aj (fU rfl afR) aq)) (aM fM (dv 1) aJ)))) (aH (Xb 3 jq.nd (ab0 (kJ (aj (fU rfl w6) aq)) (dv 1))) (aH (bO 4 jq.nd lN) (aH (Du 1000000000 PassesOwn.never (jO (dv 4)) (aH (bO 4 jq.nd lN) (aL (iW PassesOwn.never rfl (cT (dv 0)) (WW 5 6 7 rfl jq.nd) (aL (dG (cQ xG (aM cg (bK (dv 2) (dv 5)) (dv 7)) (bK (dv 2) (dv 6))) (aH (Sd 2 (dv 6) (aM cg (W5 2 (dv 5)) (dv 7))) (aH (Sd 3 (dv 6) (dv 5)) (aL (bO 4 jq.nd lN)))) cO)))))) (aL (bx (dg (aj (dv 2) (aj (dv 3) aq))))))))))
theorem QT (T:Txt K mg)  (hr:Room 0 (A.deeper (envOfC "taken_by" (defScope jf) s.heap.objs.size f cdv))):PSs (cxOf CX0 P w K mg base ["seams","wide","high","rows"] "taken_by" (defScope jf) f cdv A outer s H E).nox (defBody jf) (tSeq (tS (cxOf CX0 P w K mg base ["seams","wide","high","rows"] "taken_by" (defScope jf) f cdv A outer s H E).nox (bB (bA 1 [0] (λ ρ=>((ak (gv 2) nA) ρ).bind iG) (aF 0) tT (bA 1 [0] (cU (gv 1)) (aF 0) tT (bin (gv 0) (gv 1) bF))) (aF 3))) (tRet (tGr (cxOf CX0 P w K mg base ["seams","wide","high","rows"] "taken_by" (defScope jf) f cdv A outer s H E).nox (reN K) (bA 1 [1] (cU (gv 3)) (aF 0) tT (bA 1 [0] (λ ρ=>((ak (gv 1) nA) ρ).bind iG) (aF 0) tT (bin (gv 0) (gv 1) (Cm false))))))):=by
 exact (pss_cons (RZ 3 Df.nd ["y"] [0] rfl (by kernel_rfl) (by kernel_rfl) (eZ rfl T.cW (aj (dv 2) aq)) (aR (by decide)) (λ _ _ _ _ nd=>bh 0 nd) (λ _ _ _ _=>bM) (λ _ _ _ _=>(bW ["seam"] [0] rfl (by kernel_rfl) (by kernel_rfl) (cT (dv 1)) (aR (by decide)) (λ _ _ _ _ nd=>bh 0 nd) (λ _ _ _ _=>bM) (λ _ _ _ _=>(bK (dv 0) (dv 1)))))) (pss_one (ps_ret (Z4 ["row"] [1] rfl (by kernel_rfl) (by kernel_rfl) (cT (dv 3)) (aR (by decide)) (λ _ _ _ _ nd=>bh 0 nd) (λ _ _ _ _=>bM) (λ _ _ _ _=>(ZS ["x"] [0] rfl (by kernel_rfl) (by kernel_rfl) (eZ rfl T.cW (aj (dv 1) aq)) (aR (by decide)) (λ _ _ _ _ nd=>bh 0 nd) (λ _ _ _ _=>bM) (λ _ _ _ _=>(zc afA (dv 0) (dv 1) (by rfl)))))))))
theorem QV (Fn:Fun K "taken_by" "taken_by" jf f fd) (hmg:mg "taken_by" =some (.ref f)) (hb:Binds K fd ["seams","wide","high"] []) (T:Txt K mg)  :Uq P w K mg base 1 "taken_by" 3 oV:=
 ⟨f,fd,["seams","wide","high"],fnN (k:=0) (n:=3) (m:=1) (g1:=(bB (bA 1 [0] (λ ρ=>((ak (gv 2) nA) ρ).bind iG) (aF 0) tT (bA 1 [0] (cU (gv 1)) (aF 0) tT (bin (gv 0) (gv 1) bF))) (aF 3))) (fe:=(bA 1 [1] (cU (gv 3)) (aF 0) tT (bA 1 [0] (λ ρ=>((ak (gv 1) nA) ρ).bind iG) (aF 0) tT (bin (gv 0) (gv 1) (Cm false))))) Fn Df rfl rfl (λ cdv A outer s H E hr=>QT T  hr) (λ ρ d h=>ab2 h),hmg,Fn.kp,hb⟩
theorem acT (Fn:Fun K "flow" "flow" Oi f fd) (hmg:mg "flow" =some (.ref f)) (hb:Binds K fd ["costs","many"] []) (T:Txt K mg) (vX:aU P w K mg base 2 "arcs_down" 2 mV) (Bd:aU P w K mg base 2 "arcs_up" 2 qN) (qj:Us P w K mg base 1 "change_along" d8 6) (o8:aU P w K mg base 1 "seams_through" 2 jc) (yL:aU P w K mg base 1 "searched" 2 oU) (yM:Uq P w K mg base 1 "taken_by" 3 oV):aU P w K mg base 3 "flow" 2 wJ:=
 bV (k:=2) (g:=Xn) Fn hmg hb wW rfl rfl λ cdv A outer s H E hr=>(aH (adx 2 3 rfl wW.nd (aP cF rfl T.cM PySem.boot_len (aj (bK (dv 0) aJ) aq)) (aP cF rfl T.cM PySem.boot_len (aj (dv 0) aq))) (aH (bO 4 wW.nd (kJ aq)) (aH (bO 5 wW.nd (kJ aq)) (aH (Du 64 PassesOwn.never (cQ xG (aP cF rfl T.cM PySem.boot_len (aj (dv 4) aq)) (dv 1)) (Z8 6 7 5 8 4 wW.nd rfl (hr.mono (by decide)) (hr.mono (by decide)) yM qj (aj (dv 4) (aj (dv 2) (aj (dv 3) aq))) (aM cg (bw vX hr (by decide) (aj (dv 0) (aj (dv 6) aq))) (bw Bd hr (by decide) (aj (dv 0) (aj (dv 4) aq)))) (bw yL hr (by decide) (aj (dv 7) (aj (aM nF aJ (aM cg (aM nF (dv 2) (dv 3)) aJ)) aq))) (bw o8 hr (by decide) (aj (dv 6) (aj (aM cg (aP cF rfl T.cM PySem.boot_len (aj (dv 4) aq)) aJ) aq))))) (aL (bx (dg (aj (dv 4) (aj (dv 5) aq)))))))))
theorem O6 (Fn:Fun K "need_many" "need_many" vO f fd) (hmg:mg "need_many" =some (.ref f)) (hb:Binds K fd ["picture","many"] []) (T:Txt K mg) (dZ:aU P w K mg base 1 "is_whole" 1 dX) (bR:aU P w K mg base 5 "need_picture" 1 cD):aU P w K mg base 6 "need_many" 2 mW:=
  bV (k:=5) (g:=CV) Fn hmg hb Oj rfl rfl fun cdv A outer s H E hr=>(by
      obtain⟨abe,Hg⟩:=T.oZ
      exact (aH (lQ (bw bR hr (by decide) (aj (dv 0) aq))) (aL (dG (DW.dt (Eu (ju (jO (bw dZ hr (by decide) (aj (dv 1) aq)))) (zf (ju (Zf qm qm aJ (dv 1) (fU rfl Hg)))))) (aL tW) cO))))
theorem QW (Fn:Fun K "together" "together" yF f fd) (hmg:mg "together" =some (.ref f)) (hb:Binds K fd ["picture","many"] []) (T:Txt K mg) (O7:aU P w K mg base 3 "flow" 2 wJ) (vY:aU P w K mg base 6 "need_many" 2 mW) (jN:aU P w K mg base 8 "worths" 1 jk):aU P w K mg base 9 "together" 2 gR:=
 bV (k:=8) (g:=Gp) Fn hmg hb QB rfl rfl λ cdv A outer s H E hr=>(aH (lQ (bw vY hr (by decide) (aj (dv 0) (aj (dv 1) aq)))) (aH (dG (cQ Et (dv 1) (aP cF rfl T.cM PySem.boot_len (aj (bK (dv 0) aJ) aq))) (aL (bx tE)) cO) (aL (bx (bK (bw O7 hr (by decide) (aj (bw jN hr (by decide) (aj (dv 0) aq)) (aj (dv 1) aq))) aJ)))))
theorem ok_law (Fn:Fun K "law" "law" sy f fd) (hmg:mg "law" =some (.ref f)) (T:Txt K mg) (vZ:aU P w K mg base 1 "_law_free" 1 mR) (v7:aU P w K mg base 3 "_law_some" 4 mU) {Hh:FuncData} (oh:FnE P w K mg base 10 "cost_of" 3 jH Hh ["picture","seam","manner"]) {rC:FuncData} (o9:qX P w K mg base 11 "least_seam" 3 jA rC ["picture","manner","marks"] Kr) (sH:aU P w K mg base 6 "mirrored" 1 lX) (fJ:aU P w K mg base 6 "size_of" 1 gk) (pq:aU P w K mg base 9 "together" 2 gR) (jN:aU P w K mg base 8 "worths" 1 jk) (iw:KB K Hh ["picture","seam","manner"] [] [.inr (.str "worth" rW)]) (jB:KB K rC ["picture","manner","marks"] [] [.inr (.str "worth" gU),.inr .none]) (jC:KB K rC ["picture","manner","marks"] ["marks"] [.inr (.str "worth" gU),.inl 0]):qX P w K mg base 12 "law" 1 Gq fd ["_law_script"] Kr:=
 ⟨f,W2 (k:=11) (m:=11) (g:=aa4) Fn jU rfl rfl λ cdv A outer s H E _ hr hT=>((aH (bO 1 jU.nd (bw v7 hr (by decide) (aj (dv 0) (aj aJ (aj aJ (aj aJ aq)))))) (aH (wg 2 3 rfl jU.nd (bw fJ hr (by decide) (aj (dv 1) aq))) (aH (pJ 4 jU.nd (aj aJ aq)) (aH (iW PassesOwn.never rfl (uW rfl T.cW (aj aJ (aj (aM cg (aP (zx rfl) rfl T.yG boot_min (aj aJ (aj (dv 2) aq))) aJ) aq))) (lg 5 jU.nd) (aH (bO 6 jU.nd (bw pq hr (by decide) (aj (dv 1) (aj (dv 5) aq)))) (aH (wk 4 (aP (Fd rfl) rfl T.Cd boot_sum (aj (bW ["_law_seam"] [1] rfl (by kernel_rfl) (by kernel_rfl) (cT (dv 6)) (aR (by decide)) (λ _ _ _ _ nd=>bh 0 nd) (λ _ _ _ _=>bM) (λ _ _ _ _=>(Bt (.str _ _ .nil) oh hr (by decide) iw (aj (dv 1) (aj (dv 0) aq))))) aq))) (aL (dG (cQ (uY (iY hr)) (aP (Fd rfl) rfl T.Cd boot_sum (aj (bW ["_law_seam"] [1] rfl (by kernel_rfl) (by kernel_rfl) (cT (bw pq hr (by decide) (aj (bw sH hr (by decide) (aj (dv 1) aq)) (aj (dv 5) aq)))) (aR (by decide)) (λ _ _ _ _ nd=>bh 0 nd) (λ _ _ _ _=>bM) (λ _ _ _ _=>(Bt (.str _ _ .nil) oh hr (by decide) iw (aj (bw sH hr (by decide) (aj (dv 1) aq)) (aj (dv 0) aq))))) aq)) (bK (dv 4) (Mf aJ))) (aL (bx lN)) cO))))) (ab6 (aH (RZ 7 jU.nd ["_law_one","_law_other"] [] rfl (by kernel_rfl) (by kernel_rfl) (RQ rfl T.Ln (aj (dv 4) (aj (zJ (dv 4) (ug aJ) uf) aq))) (kZ (cI (aR (by decide)) (cI (aR (by decide)) kY))) (λ _ _ _ _ nd=>tQ rfl (cY (bh 0 nd) (cY (bh 1 nd) pG))) (λ _ _ _ _=>bM) (λ _ _ _ _=>(aM fM (dv 1) (dv 0)))) (aH (dG (DW.dt (Eu (cQ (uY (iY hr)) (bK (dv 7) aJ) (Bt (.str _ _ .nil) oh hr (by decide) iw (aj (dv 1) (aj (abM (.str _ _ (.non .nil)) o9 hT hr (by decide) jB (aj (dv 1) aq)) aq)))) (zf (cQ (uY (iY hr)) (dv 7) (aP ZC rfl T.uM boot_sorted (aj (dv 7) aq)))))) (aL (bx lN)) cO) (aH (dG (DW.dt (Lp (cQ xG (dv 2) aJ) (Ia (cQ (uY (iY hr)) (bK (dv 4) (dv 2)) (aP (Fd rfl) rfl T.Cd boot_sum (aj (bW ["_law_row"] [] rfl (by kernel_rfl) (by kernel_rfl) (cT (bw jN hr (by decide) (aj (dv 1) aq))) (aR (by decide)) (λ _ _ _ _ nd=>bh 0 nd) (λ _ _ _ _=>bM) (λ _ _ _ _=>(aP (Fd rfl) rfl T.Cd boot_sum (aj (dv 0) aq)))) aq)))))) (aL (bx lN)) cO) (aH (ab4 8 9 10 rfl jU.nd (kJ aq) aJ (bw vZ hr (by decide) (aj (dv 1) aq))) (aH (iW PassesOwn.never rfl (uW rfl T.cW (aj aJ (aj (aM cg (aP (zx rfl) rfl T.yG boot_min (aj aJ (aj (dv 2) aq))) aJ) aq))) (lg 5 jU.nd) (aH (bO 11 jU.nd (abL (ks:=["marks"]) (.str _ _ (.at 0 .nil)) o9 hT hr (by decide) jC (aj (dv 1) aq) (abC (dv 10) adB))) (aH (dG (cQ Lf (dv 11) tE) (aL (bx lN)) cO) (aH (bO 9 jU.nd (aM cg (dv 9) (Bt (.str _ _ .nil) oh hr (by decide) iw (aj (dv 1) (aj (dv 11) aq))))) (aH (bO 10 jU.nd (jg jh rfl T.eY boot_tuple (aj (bW ["_law_row","_law_x"] [] rfl (by kernel_rfl) (by kernel_rfl) (RQ rfl T.Ln (aj (dv 10) (aj (dv 11) aq))) (kZ (cI (aR (by decide)) (cI (aR (by decide)) kY))) (λ _ _ _ _ nd=>tQ rfl (cY (bh 0 nd) (cY (bh 1 nd) pG))) (λ _ _ _ _=>bM) (λ _ _ _ _=>(aM cg (aM cg (Mh (dv 0) uf (ug (dv 1))) (dg (aj aJ aq))) (Mh (dv 0) (ug (aM cg (dv 1) aJ)) uf)))) aq))) (aL (dG (cQ Et (bK (dv 4) (dv 5)) (dv 9)) (aL (bx lN)) cO))))))) (aL (bx (aaS (cQ xG (dv 2) aJ) (zc Lf (bw pq hr (by decide) (aj (dv 1) (aj (aM cg (dv 2) aJ) aq))) tE) lN)))))))))))))),hmg,Fn.kp⟩
end
theorem all_mk {l:PySem.W.OpenLaw} {w:World} {K:PySem.W.Frag} {h:Heap} {mg:Str->Option Value} {fa Bf uV Vn:Addr} (X:K.In h) (G:h.Ns mainGlobals mg) (hfa:mg "law" =some (.ref fa))
  {Vo Hi:Option Addr} {Vp:Array (Option Value)} {Vq Hj Hl Ho yN Hq:Value}
  {K6 rE:Option Addr} {K7:Array (Option Value)} {K8 rF rG rJ m8 rK:Value}
  {aeM Yr:Option Addr} {aeN:Array (Option Value)} {aeO Ys Yt Yu O8 Yv:Value}
  {aeP:Tok} (GK:PySem.W.nsIn K mainGlobals "END" =some (some (.int 1 aeP)))
  {aeQ:Tok} (Vc:PySem.W.nsIn K mainGlobals "FAR" =some (some (.int 1000000 aeQ)))
  {acU:Tok} (GQ:PySem.W.nsIn K mainGlobals "FREE" =some (some (.int 0 acU)))
  {acV:Tok} (GR:PySem.W.nsIn K mainGlobals "GONE" =some (some (.int 2 acV)))
  {acW:Tok} (Ol:PySem.W.nsIn K mainGlobals "KEPT" =some (some (.int 1 acW)))
  {O9:Tok} (vP:PySem.W.nsIn K mainGlobals "MOST_CELL" =some (some (.int 99 O9)))
  {Pb:Tok} (vQ:PySem.W.nsIn K mainGlobals "MOST_LONG" =some (some (.int 20 Pb)))
  {Er:Tok} (oZ:PySem.W.nsIn K mainGlobals "MOST_TOGETHER" =some (some (.int 6 Er)))
  {aaz:Tok} (wX:PySem.W.nsIn K mainGlobals "START" =some (some (.int 0 aaz)))
  {Hr:Addr} {Vr:Option Addr} {Vs:Nat} {Vt:Array (Option Value)} {Pg Ph:Tok} (Ay:PySem.W.nsIn K mainGlobals "MANNERS" =some (some (.ref Hr))) (Yw:K.lookup Hr=some ⟨.type "tuple",Vr,.seq #[.str "worth" Pg,.str "joins" Ph] Vs,Vt⟩)
  (BZ:PySem.W.nsIn K mainGlobals "abs" =some none)
  (sE:PySem.W.nsIn K mainGlobals "all" =some none)
  (Om:PySem.W.nsIn K mainGlobals "bool" =some none)
  (gZ:PySem.W.nsIn K mainGlobals "enumerate" =some none)
  (Vd:PySem.W.nsIn K mainGlobals "int" =some none)
  (gD:PySem.W.nsIn K mainGlobals "isinstance" =some none)
  (cM:PySem.W.nsIn K mainGlobals "len" =some none)
  (Oo:PySem.W.nsIn K mainGlobals "list" =some none)
  (Ca:PySem.W.nsIn K mainGlobals "max" =some none)
  (yG:PySem.W.nsIn K mainGlobals "min" =some none)
  (cW:PySem.W.nsIn K mainGlobals "range" =some none)
  (sG:PySem.W.nsIn K mainGlobals "reversed" =some none)
  (uM:PySem.W.nsIn K mainGlobals "sorted" =some none)
  (Cd:PySem.W.nsIn K mainGlobals "sum" =some none)
  (eY:PySem.W.nsIn K mainGlobals "tuple" =some none)
  (Ln:PySem.W.nsIn K mainGlobals "zip" =some none)
  (GX:∀d:D,PySem.W.kitOne K (.type (lq d)) (.type "int")=some (Bs (lq d)))
  (Az:∀d:D,PySem.W.kitOne K (.type (lq d)) (.type "bool")=some (xQ (lq d)))
  (nW:∀d:D,PySem.W.kitOne K (.type (lq d)) (.type "tuple")=some (gY (lq d)))
  (GZ:∀d:D,PySem.W.kitOne K (.type (lq d)) (.type "list")=some (LK (lq d)))
  (QX:DX K "_law_free" vI)
  (Pj:DX K "_law_drawn" uG)
  (Jt:DX K "_law_picture" pZ)
  (QZ:DX K "_law_some" vJ)
  (aeR:DX K "gaps" Od)
  (Pk:DX K "join_fares" uH)
  (Yx:DX K "is_line" Ak)
  (Vu:DX K "is_whole" yq)
  (Yy:DX K "is_cell" Al)
  (aaA:DX K "is_row" Eh)
  (Pn:DX K "is_picture" uI)
  (Ju:DX K "need_picture" p7)
  (Yz:DX K "size_of" Am)
  (aaB:DX K "turned" Ei)
  (aaC:DX K "worths" Ej)
  (acX:DX K "fares" Jm)
  (K9:DX K "need_manner" qY)
  (aaD:DX K "is_way" Ek)
  (YB:DX K "is_seam" Ao)
  (Q0:DX K "need_seam" vK)
  (YC:DX K "fare_of" Aq)
  (Vv:DX K "way_cost" yt)
  (YD:PySem.W.nsIn K mainGlobals "cost_of" =some (some (.ref Bf))) (YF:K.lookup Bf=some ⟨Vq,Vo,.func (PySem.W.fnOf "cost_of" "cost_of" (defArgs fH) (defBody fH) (defScope fH) .none Hj Hl Ho Hi yN Hq),Vp⟩) (YG:PySem.W.codeIn K yN "cost_of" =true) (YH:PySem.W.keepIn K (.ref Bf)=true)
  (Vw:DX K "all_free" yu)
  (YJ:DX K "is_mark" Av)
  (Jv:DX K "is_marks_row" p8)
  (Vx:DX K "is_marks" yw)
  (Pq:DX K "full_marks" uJ)
  (Vy:DX K "laid_out" yx)
  (aeS:DX K "near" Og)
  (aaE:DX K "onward" El)
  (acY:DX K "swept" tu)
  (Q5:DX K "best_ways" jo)
  (Vz:DX K "from_top" yC)
  (La:DX K "first_seams" qZ)
  (Q6:DX K "least_way" vL)
  (Pr:PySem.W.nsIn K mainGlobals "least_seam" =some (some (.ref uV))) (Px:K.lookup uV=some ⟨K8,K6,.func (PySem.W.fnOf "least_seam" "least_seam" (defArgs cV) (defBody cV) (defScope cV) .none rF rG rJ rE m8 rK),K7⟩) (Py:PySem.W.codeIn K m8 "least_seam" =true) (Pz:PySem.W.keepIn K (.ref uV)=true)
  (VB:DX K "mirrored" yD)
  (Q7:DX K "node_into" vM)
  (Q8:DX K "arcs_down" vN)
  (YK:DX K "arcs_up" Ax)
  (Jw:DX K "change_along" fX)
  (Ht:DX K "seams_through" oY)
  (VD:DX K "searched" yE)
  (VF:DX K "taken_by" jf)
  (aeT:DX K "flow" Oi)
  (Q9:DX K "need_many" vO)
  (VG:DX K "together" yF)
  (VH:PySem.W.nsIn K mainGlobals "law" =some (some (.ref Vn))) (afS:K.lookup Vn=some ⟨aeO,aeM,.func (PySem.W.fnOf "law" "law" (defArgs sy) (defBody sy) (defScope sy) .none Ys Yt Yu Yr O8 Yv),aeN⟩) (afT:PySem.W.codeIn K O8 "law" =true) (afU:PySem.W.keepIn K (.ref Vn)=true)
  (iw:KB K (PySem.W.fnOf "cost_of" "cost_of" (defArgs fH) (defBody fH) (defScope fH) .none Hj Hl Ho Hi yN Hq) ["picture","seam","manner"] [] [.inr (.str "worth" rW)])
  (jB:KB K (PySem.W.fnOf "least_seam" "least_seam" (defArgs cV) (defBody cV) (defScope cV) .none rF rG rJ rE m8 rK) ["picture","manner","marks"] [] [.inr (.str "worth" gU),.inr .none])
  (jC:KB K (PySem.W.fnOf "least_seam" "least_seam" (defArgs cV) (defBody cV) (defScope cV) .none rF rG rJ rE m8 rK) ["picture","manner","marks"] ["marks"] [.inr (.str "worth" gU),.inl 0])
  :∃fd:FuncData,(∀(s:Shared) (v:Value),BindsTo s fd ⟨[v],[]⟩ [("_law_script",v)])/\∀(base:Heap) (c TP:Addr),K.In base->base.Ns mainGlobals mg->qw base mg c TP->zH K mg "best_ways" c->FnOk l.prog w K mg base CX0 12 fa fd ["_law_script"] (spT [(TP,"best_ways.<locals>.first_ones")] K 1 Gq):=by
 obtain⟨afc,aeU,Dg,Ra⟩:=QX;obtain⟨aeV,ac8,Bg,PB⟩:=Pj;obtain⟨acZ,abf,xg,Jx⟩:=Jt;obtain⟨afd,aeW,Dh,Rb⟩:=QZ;obtain⟨agX,agR,YL,aeX⟩:=aeR;obtain⟨aeY,ac9,Bh,PJ⟩:=Pk;obtain⟨agf,afV,Ku,YM⟩:=Yx;obtain⟨afW,afe,Hu,VJ⟩:=Vu;obtain⟨agg,afX,Kv,YQ⟩:=Yy;obtain⟨agJ,agh,PL,aaF⟩:=aaA;obtain⟨aeZ,ada,Bj,PN⟩:=Pn;obtain⟨ac0,abg,xq,Jy⟩:=Ju;obtain⟨agi,afY,Kw,YS⟩:=Yz;obtain⟨agK,agj,PX,aaG⟩:=aaB;obtain⟨agL,agk,P0,aaH⟩:=aaC;obtain⟨agS,agM,TX,ac1⟩:=acX;obtain⟨adb,ac2,yW,Lb⟩:=K9;obtain⟨agN,agl,Qa,aaI⟩:=aaD;obtain⟨agm,afZ,Ky,YT⟩:=YB;obtain⟨afg,ae0,Di,Rc⟩:=Q0;obtain⟨agn,af0,Kz,YW⟩:=YC;obtain⟨af2,afh,Hv,VL⟩:=Vv;obtain⟨af3,afi,Hw,VN⟩:=Vw;obtain⟨ago,af4,KC,YX⟩:=YJ;obtain⟨ac3,abh,xr,Jz⟩:=Jv;obtain⟨af5,afj,Hx,VP⟩:=Vx;obtain⟨ae1,ade,Bk,Qc⟩:=Pq;obtain⟨af6,afk,Hy,VR⟩:=Vy;obtain⟨agY,agT,YZ,ae2⟩:=aeS;obtain⟨agO,agp,Qd,aaJ⟩:=aaE;obtain⟨agU,agP,TY,ac4⟩:=acY;obtain⟨afl,uT,Dk,Rf⟩:=Q5;obtain⟨af7,afm,Hz,V0⟩:=Vz;obtain⟨adf,qe,yX,Ld⟩:=La;obtain⟨afn,uU,Dl,Rg⟩:=Q6;obtain⟨af8,afo,HB,V1⟩:=VB;obtain⟨afp,ae3,Dm,Rh⟩:=Q7;obtain⟨afq,ae4,Dn,Ri⟩:=Q8;obtain⟨agq,af9,KD,Y0⟩:=YK;obtain⟨ac5,abj,xu,JB⟩:=Jw;obtain⟨abk,aaK,vf,HD⟩:=Ht;obtain⟨aga,afr,HF,V2⟩:=VD;obtain⟨agb,afs,HJ,V3⟩:=VF;obtain⟨agZ,agV,Y4,ae5⟩:=aeT;obtain⟨aft,ae6,Dq,Rj⟩:=Q9;obtain⟨agc,afu,HN,V4⟩:=VG;have e:=hfa.symm.trans (PySem.W.mg_of X G VH);cases e;have T:Txt K mg:=⟨⟨_,PySem.W.mg_of X G GK⟩,⟨_,PySem.W.mg_of X G Vc⟩,⟨_,PySem.W.mg_of X G GQ⟩,⟨_,PySem.W.mg_of X G GR⟩,⟨_,PySem.W.mg_of X G Ol⟩,⟨_,PySem.W.mg_of X G vP⟩,⟨_,PySem.W.mg_of X G vQ⟩,⟨_,PySem.W.mg_of X G oZ⟩,⟨_,PySem.W.mg_of X G wX⟩,abI X G Ay Yw (show 2<=sizeLine from z0b (by decide) (z0e gW)) (.cons ⟨_,rfl⟩ (.cons ⟨_,rfl⟩ (.nil))),PySem.W.mg_none_of X G BZ,PySem.W.mg_none_of X G sE,PySem.W.mg_none_of X G Om,PySem.W.mg_none_of X G gZ,PySem.W.mg_none_of X G Vd,PySem.W.mg_none_of X G gD,PySem.W.mg_none_of X G cM,PySem.W.mg_none_of X G Oo,PySem.W.mg_none_of X G Ca,PySem.W.mg_none_of X G yG,PySem.W.mg_none_of X G cW,PySem.W.mg_none_of X G sG,PySem.W.mg_none_of X G uM,PySem.W.mg_none_of X G Cd,PySem.W.mg_none_of X G eY,PySem.W.mg_none_of X G Ln,GX,Az,nW,GZ⟩;have Y5:=fun_mk (st:=fH) YF YG YH;have Qe:=fun_mk (st:=cV) Px Py Pz;have abl:=fun_mk (st:=sy) afS afT afU;have Rk:=Dg.binds (ps:=["_law_picture_here"]) λ _ _ _ _ _ _ us hl=>rY hl λ _=>rfl;have Qf:=Bg.binds (ps:=["_law_script","_law_k","_law_many"]) λ _ _ _ _ _ _ us hl=>GC hl λ _ _ _=>rfl;have JC:=xg.binds (ps:=["_law_script","_law_at","_law_broad","_law_tall"]) λ _ _ _ _ _ _ us hl=>lk4 hl λ _ _ _ _=>rfl;have Rn:=Dh.binds (ps:=["_law_script","_law_at","_law_broad","_law_tall"]) λ _ _ _ _ _ _ us hl=>lk4 hl λ _ _ _ _=>rfl;have ae7:=YL.binds (ps:=["line"]) λ _ _ _ _ _ _ us hl=>rY hl λ _=>rfl;have Qg:=Bh.binds (ps:=["picture","y"]) λ _ _ _ _ _ _ us hl=>nU hl λ _ _=>rfl;have Y6:=Ku.binds (ps:=["thing"]) λ _ _ _ _ _ _ us hl=>rY hl λ _=>rfl;have V5:=Hu.binds (ps:=["thing"]) λ _ _ _ _ _ _ us hl=>rY hl λ _=>rfl;have Y7:=Kv.binds (ps:=["thing"]) λ _ _ _ _ _ _ us hl=>rY hl λ _=>rfl;have aaL:=PL.binds (ps:=["thing"]) λ _ _ _ _ _ _ us hl=>rY hl λ _=>rfl;have Qh:=Bj.binds (ps:=["thing"]) λ _ _ _ _ _ _ us hl=>rY hl λ _=>rfl;have JD:=xq.binds (ps:=["thing"]) λ _ _ _ _ _ _ us hl=>rY hl λ _=>rfl;have Y8:=Kw.binds (ps:=["picture"]) λ _ _ _ _ _ _ us hl=>rY hl λ _=>rfl;have aaM:=PX.binds (ps:=["picture"]) λ _ _ _ _ _ _ us hl=>rY hl λ _=>rfl;have aaN:=P0.binds (ps:=["picture"]) λ _ _ _ _ _ _ us hl=>rY hl λ _=>rfl;have ac6:=TX.binds (ps:=["picture","manner"]) λ _ _ _ _ _ _ us hl=>nU hl λ _ _=>rfl;have Le:=yW.binds (ps:=["thing"]) λ _ _ _ _ _ _ us hl=>rY hl λ _=>rfl;have aaO:=Qa.binds (ps:=["thing","wide","high"]) λ _ _ _ _ _ _ us hl=>GC hl λ _ _ _=>rfl;have Y9:=Ky.binds (ps:=["thing","picture"]) λ _ _ _ _ _ _ us hl=>nU hl λ _ _=>rfl;have Ro:=Di.binds (ps:=["thing","picture"]) λ _ _ _ _ _ _ us hl=>nU hl λ _ _=>rfl;have Za:=Kz.binds (ps:=["row","above","place"]) λ _ _ _ _ _ _ us hl=>GC hl λ _ _ _=>rfl;have V6:=Hv.binds (ps:=["table","way"]) λ _ _ _ _ _ _ us hl=>nU hl λ _ _=>rfl;have V7:=Hw.binds (ps:=["picture"]) λ _ _ _ _ _ _ us hl=>rY hl λ _=>rfl
 have Zb:=KC.binds (ps:=["thing"]) λ _ _ _ _ _ _ us hl=>rY hl λ _=>rfl;have JF:=xr.binds (ps:=["thing","wide"]) λ _ _ _ _ _ _ us hl=>nU hl λ _ _=>rfl;have V8:=Hx.binds (ps:=["thing","picture"]) λ _ _ _ _ _ _ us hl=>nU hl λ _ _=>rfl;have Qi:=Bk.binds (ps:=["thing","picture"]) λ _ _ _ _ _ _ us hl=>nU hl λ _ _=>rfl;have V9:=Hy.binds (ps:=["picture","manner","marks"]) λ _ _ _ _ _ _ us hl=>GC hl λ _ _ _=>rfl;have ae8:=YZ.binds (ps:=["place","wide"]) λ _ _ _ _ _ _ us hl=>nU hl λ _ _=>rfl;have aaP:=Qd.binds (ps:=["beneath","row","x"]) λ _ _ _ _ _ _ us hl=>GC hl λ _ _ _=>rfl;have ac7:=TY.binds (ps:=["table","marks","start","gather"]) λ _ _ _ _ _ _ us hl=>lk4 hl λ _ _ _ _=>rfl;have vU:=Dk.binds (ps:=["table","marks","many"]) λ _ _ _ _ _ _ us hl=>GC hl λ _ _ _=>rfl;have Wa:=Hz.binds (ps:=["table","rows"]) λ _ _ _ _ _ _ us hl=>nU hl λ _ _=>rfl;have rm:=yX.binds (ps:=["table","marks","many"]) λ _ _ _ _ _ _ us hl=>GC hl λ _ _ _=>rfl;have vW:=Dl.binds (ps:=["table","marks"]) λ _ _ _ _ _ _ us hl=>nU hl λ _ _=>rfl;have Wb:=HB.binds (ps:=["picture"]) λ _ _ _ _ _ _ us hl=>rY hl λ _=>rfl;have Rp:=Dm.binds (ps:=["x","y","wide"]) λ _ _ _ _ _ _ us hl=>GC hl λ _ _ _=>rfl;have Rq:=Dn.binds (ps:=["costs","taken"]) λ _ _ _ _ _ _ us hl=>nU hl λ _ _=>rfl;have Zc:=KD.binds (ps:=["costs","seams"]) λ _ _ _ _ _ _ us hl=>nU hl λ _ _=>rfl;have JG:=xu.binds (ps:=["taken","ahead"]) λ _ _ _ _ _ _ us hl=>nU hl λ _ _=>rfl;have HS:=vf.binds (ps:=["taken","many"]) λ _ _ _ _ _ _ us hl=>nU hl λ _ _=>rfl;have Wc:=HF.binds (ps:=["arcs","many"]) λ _ _ _ _ _ _ us hl=>nU hl λ _ _=>rfl;have Wd:=HJ.binds (ps:=["seams","wide","high"]) λ _ _ _ _ _ _ us hl=>GC hl λ _ _ _=>rfl;have ae9:=Y4.binds (ps:=["costs","many"]) λ _ _ _ _ _ _ us hl=>nU hl λ _ _=>rfl;have Rr:=Dq.binds (ps:=["picture","many"]) λ _ _ _ _ _ _ us hl=>nU hl λ _ _=>rfl;have Wf:=HN.binds (ps:=["picture","many"]) λ _ _ _ _ _ _ us hl=>nU hl λ _ _=>rfl;have ag3:=abl.binds (ps:=["_law_script"]) λ _ _ _ _ _ _ us hl=>rY hl λ _=>rfl;refine⟨PySem.W.fnOf "law" "law" (defArgs sy) (defBody sy) (defScope sy) .none Ys Yt Yu Yr O8 Yv,λ s v=> .of_eq rfl,λ base cN TP _ _ hB hCI=>?_⟩;have vZ:aU l.prog w K mg base 1 "_law_free" 1 mR:=Oq Dg (PySem.W.mg_of X G Ra) Rk T;have gF:aU l.prog w K mg base 1 "_law_drawn" 3 dR:=KY Bg (PySem.W.mg_of X G PB) Qf T;have qb:aU l.prog w K mg base 2 "_law_picture" 4 jx:=G3 xg (PySem.W.mg_of X G Jx) JC T gF;have v7:aU l.prog w K mg base 3 "_law_some" 4 mU:=Ot Dh (PySem.W.mg_of X G Rb) Rn T gF qb;have uN:aU l.prog w K mg base 1 "gaps" 1 qJ:=acR YL (PySem.W.mg_of X G aeX) ae7 T;have uP:aU l.prog w K mg base 2 "join_fares" 2 lG:=KZ Bh (PySem.W.mg_of X G PJ) Qg T uN;have nY:aU l.prog w K mg base 1 "is_line" 1 jG:=Ve Ku (PySem.W.mg_of X G YM) Y6 T;have dZ:aU l.prog w K mg base 1 "is_whole" 1 dX:=QD Hu (PySem.W.mg_of X G VJ) V5 T;have Ba:aU l.prog w K mg base 2 "is_cell" 1 qK:=Vf Kv (PySem.W.mg_of X G YQ) Y7 T dZ;have Em:aU l.prog w K mg base 3 "is_row" 1 uw:=Ym PL (PySem.W.mg_of X G aaF) aaL T Ba nY;have uO:aU l.prog w K mg base 4 "is_picture" 1 lJ:=K1 Bj (PySem.W.mg_of X G PN) Qh T nY Em;have bR:aU l.prog w K mg base 5 "need_picture" 1 cD:=G5 xq (PySem.W.mg_of X G Jy) JD T uO;have fJ:aU l.prog w K mg base 6 "size_of" 1 gk:=Vg Kw (PySem.W.mg_of X G YS) Y8 T bR;have En:aU l.prog w K mg base 7 "turned" 1 ux:=Yn PX (PySem.W.mg_of X G aaG) aaM T fJ;have jN:aU l.prog w K mg base 8 "worths" 1 jk:=Yo P0 (PySem.W.mg_of X G aaH) aaN T uN fJ En;have nZ:aU l.prog w K mg base 9 "fares" 2 jX:=aaw TX (PySem.W.mg_of X G ac1) ac6 T uP jN;have fK:aU l.prog w K mg base 1 "need_manner" 1 fD:=Jq yW (PySem.W.mg_of X G Lb) Le T;have Eo:aU l.prog w K mg base 2 "is_way" 3 uz:=Yp Qa (PySem.W.mg_of X G aaI) aaO T dZ;have Bb:aU l.prog w K mg base 7 "is_seam" 2 qL:=Vh Ky (PySem.W.mg_of X G YT) Y9 T Eo fJ;have mZ:aU l.prog w K mg base 8 "need_seam" 2 jY:=Ou Di (PySem.W.mg_of X G Rc) Ro T Bb;have ig:aU l.prog w K mg base 1 "fare_of" 3 dN:=Vi Kz (PySem.W.mg_of X G YW) Za T;have o7:aU l.prog w K mg base 2 "way_cost" 2 lW:=QG Hv (PySem.W.mg_of X G VL) V6 T ig
 have oh:=Vk (P:=l.prog) (w:=w) (base:=base) Y5 (PySem.W.mg_of X G YD) T nZ fK bR mZ o7;have yH:aU l.prog w K mg base 1 "all_free" 1 oM:=QH Hw (PySem.W.mg_of X G VN) V7 T;have Bc:aU l.prog w K mg base 2 "is_mark" 1 qM:=Vl KC (PySem.W.mg_of X G YX) Zb T dZ;have qd:aU l.prog w K mg base 3 "is_marks_row" 2 jz:=G6 xr (PySem.W.mg_of X G Jz) JF T Bc;have yI:aU l.prog w K mg base 4 "is_marks" 2 oN:=QJ Hx (PySem.W.mg_of X G VP) V8 T qd;have uQ:aU l.prog w K mg base 5 "full_marks" 2 gq:=K3 Bk (PySem.W.mg_of X G Qc) Qi T yH yI;have yK:aU l.prog w K mg base 10 "laid_out" 3 oO:=QK Hy (PySem.W.mg_of X G VR) V9 T nZ uQ fK bR;have wY:aU l.prog w K mg base 1 "near" 2 uD:=acS YZ (PySem.W.mg_of X G ae2) ae8 T;have uR:aU l.prog w K mg base 2 "onward" 3 pQ:=Yq Qd (PySem.W.mg_of X G aaJ) aaP T ig wY;have wZ:=aay (P:=l.prog) (w:=w) (base:=base) TY (PySem.W.mg_of X G ac4) ac7 T uR;have vR:=Oz (P:=l.prog) (w:=w) (base:=base) Dk (PySem.W.mg_of X G Rf) T wZ  hB hCI;have yJ:aU l.prog w K mg base 2 "from_top" 2 oR:=QL Hz (PySem.W.mg_of X G V0) Wa T ig;have q9:=Js (P:=l.prog) (w:=w) (base:=base) yX (PySem.W.mg_of X G Ld) T vR vU yJ;have vV:=OD (P:=l.prog) (w:=w) (base:=base) Dl (PySem.W.mg_of X G Rg) T q9 rm;have o9:=K5 (P:=l.prog) (w:=w) (base:=base) Qe (PySem.W.mg_of X G Pr) T yK vV vW;have sH:aU l.prog w K mg base 6 "mirrored" 1 lX:=QM HB (PySem.W.mg_of X G V1) Wb T bR;have iu:aU l.prog w K mg base 1 "node_into" 3 f9:=OJ Dm (PySem.W.mg_of X G Rh) Rp T;have vX:aU l.prog w K mg base 2 "arcs_down" 2 mV:=O5 Dn (PySem.W.mg_of X G Ri) Rq T wY iu;have Bd:aU l.prog w K mg base 2 "arcs_up" 2 qN:=Vm KD (PySem.W.mg_of X G Y0) Zc T iu;have qj:Us l.prog w K mg base 1 "change_along" d8 6:=G9 xu (PySem.W.mg_of X G JB) JG T;have o8:aU l.prog w K mg base 1 "seams_through" 2 jc:=Ep vf (PySem.W.mg_of X G HD) HS T;have yL:aU l.prog w K mg base 1 "searched" 2 oU:=QS HF (PySem.W.mg_of X G V2) Wc T;have yM:Uq l.prog w K mg base 1 "taken_by" 3 oV:=QV HJ (PySem.W.mg_of X G V3) Wd T;have O7:aU l.prog w K mg base 3 "flow" 2 wJ:=acT Y4 (PySem.W.mg_of X G ae5) ae9 T vX Bd qj o8 yL yM;have vY:aU l.prog w K mg base 6 "need_many" 2 mW:=O6 Dq (PySem.W.mg_of X G Rj) Rr T dZ bR;have pq:aU l.prog w K mg base 9 "together" 2 gR:=QW HN (PySem.W.mg_of X G V4) Wf T O7 vY jN;have agd:=ok_law (P:=l.prog) (w:=w) (base:=base) abl (PySem.W.mg_of X G VH) T vZ v7 oh o9 sH fJ pq jN iw jB jC;obtain⟨f',ok',hm',_⟩:=agd;cases (PySem.W.mg_of X G VH).symm.trans hm';exact ok'
end nP
namespace nP
open PySem PySem.Spec L2 Pu
theorem walk {l:PySem.W.OpenLaw} {q:Program} {loose:List Str} {XP:(Str->Option Value)->Heap->Prop} {YP:World->Heap->Prop} {d:DefRec} {K:Params->PySem.W.Frag} (hn:l.most=some 63) (hdf:d.params.defaults=[])
  (hY:∀(w:World) (h:Heap),YP w h->(K w.params).In h) (hnt:∀w:World,PySem.W.noTabs (K w.params)=true) (hrec:∃dy,(PyProof.Rows.recsOf q).find? (λ e:DefRec=>e.name ==("best_ways" :Str))=some dy)
  (F:∀(w:World) (mg:Str->Option Value) (fa:Addr) (h:Heap),(K w.params).In h->h.Ns mainGlobals mg->mg d.name=some (.ref fa)->
   ∃fd:FuncData,(∀(s:Shared) (u:Value),BindsTo s fd ⟨[u],[]⟩ [("_law_script",u)])/\∀(base:Heap) (c T:Addr),(K w.params).In base->base.Ns mainGlobals mg->qw base mg c T->zH (K w.params) mg "best_ways" c->FnOk l.prog w (K w.params) mg base CX0 12 fa fd ["_law_script"] (spT [(T,"best_ways.<locals>.first_ones")] (K w.params) 1 Gq)):
  PySem.W.WalkO q loose XP YP l.row.toRowW d [] (λ f vs=>PySem.call f vs):=
 Pu.afG (n:=63) (k:=12) (x:= "_law_script") (y:= "best_ways") (q:= "best_ways.<locals>.first_ones") (FL:=Gq) hn (by decide) hdf ⟨rfl,by decide,by decide⟩ hY hnt (by obtain⟨dy,e⟩:=hrec;exact⟨dy,List.mem_of_find?_eq_some e,beq_iff_eq.mp (List.find?_some (p:=λ e:DefRec=>e.name ==("best_ways" :Str)) e)⟩) F aau
end nP
namespace PySem.W.Fast
theorem tw2833639899930036107:True:=trivial
theorem tw482766982508396132:True:=trivial
theorem tw1519174341927512125:True:=trivial
theorem tw8666056075859686985:True:=trivial
theorem tw5717564750122238581:True:=trivial
theorem tw2513310400881450081:True:=trivial
theorem tw3747644932528624076:True:=trivial
theorem tw3064784658550778008:True:=trivial
theorem tw7597503857218595113:True:=trivial
theorem tw601380287239608918:True:=trivial
theorem tw7485945763481270900:True:=trivial
theorem tw4522701159737359551:True:=trivial
theorem tw4904714941006137707:True:=trivial
theorem tw8597611006973488264:True:=trivial
theorem tw1485842843200596110:True:=trivial
theorem tw4566308848589761852:True:=trivial
theorem tw7703641874363072415:True:=trivial
theorem tw5636724231551934053:True:=trivial
theorem tw14408545386831907683:True:=trivial
theorem tw16779442602087524517:True:=trivial
theorem tw8310920059040149236:True:=trivial
theorem tw12616999447883948471:True:=trivial
theorem tw12165764609090985596:True:=trivial
theorem tw5903930493378065:True:=trivial
theorem tw2493649464821684797:True:=trivial
theorem tw5509003882673567854:True:=trivial
end PySem.W.Fast
open PySem PySem.W PyProof.Rows
set_option bootstrap.genMatcherCode true
set_option compiler.extract_closed true
set_option maxRecDepth 100000 in
set_option maxHeartbeats 0 in
theorem PySem.Challenge.cw_seamhall_k47_whole_together_holds : PySem.Challenge.rw_seamhall_k47_whole_together.Holds := by
 w_on;o_law;k_head;(case hw=>w_witness2)
 k_fill
 refine nP.walk (l:=PySem.Challenge.rw_seamhall_k47_whole_together) rfl rfl (λ w h Y=>PySem.W.km_in_of Y) ?nt ?rec ?F
 case nt=>intro w;kernel_rfl
 case rec=>exact⟨_,rfl⟩
 case F=>
  intro w mg fa h KX G hmg
  refine' nP.all_mk KX G hmg ?_ ?_ ?_ ?_ ?_ ?_ ?_ ?_ ?_ ?_ ?_ ?_ ?_ ?_ ?_ ?_ ?_ ?_ ?_ ?_ ?_ ?_ ?_ ?_ ?_ ?_ ?_ ?GX ?Az ?nW ?GZ ?_ ?_ ?_ ?_ ?_ ?_ ?_ ?_ ?_ ?_ ?_ ?_ ?_ ?_ ?_ ?_ ?_ ?_ ?_ ?_ ?_ ?_ ?_ ?_ ?_ ?_ ?_ ?_ ?_ ?_ ?_ ?_ ?_ ?_ ?_ ?_ ?_ ?_ ?_ ?_ ?_ ?_ ?_ ?_ ?_ ?_ ?_ ?_ ?_ ?_ ?_ ?_ ?_ ?_ ?_ ?_ ?_ ?_ ?iw ?jB ?jC
  all_goals try first |k_is |(refine' nP.afQ ?qa ?ql ?qc ?qp;(case qa=>k_is);(case ql=>k_is);(case qc=>k_is);(case qp=>k_is))
  (case GX=>intro d;cases d;(show PySem.W.kitOne _ (Value.type "NoneType") (Value.type "int")=some false);kit_is;(show PySem.W.kitOne _ (Value.type "bool") (Value.type "int")=some true);kit_is;(show PySem.W.kitOne _ (Value.type "int") (Value.type "int")=some true);kit_is;(show PySem.W.kitOne _ (Value.type "str") (Value.type "int")=some false);kit_is;(show PySem.W.kitOne _ (Value.type "tuple") (Value.type "int")=some false);kit_is;(show PySem.W.kitOne _ (Value.type "list") (Value.type "int")=some false);kit_is)
  (case Az=>intro d;cases d;(show PySem.W.kitOne _ (Value.type "NoneType") (Value.type "bool")=some false);kit_is;(show PySem.W.kitOne _ (Value.type "bool") (Value.type "bool")=some true);kit_is;(show PySem.W.kitOne _ (Value.type "int") (Value.type "bool")=some false);kit_is;(show PySem.W.kitOne _ (Value.type "str") (Value.type "bool")=some false);kit_is;(show PySem.W.kitOne _ (Value.type "tuple") (Value.type "bool")=some false);kit_is;(show PySem.W.kitOne _ (Value.type "list") (Value.type "bool")=some false);kit_is)
  (case nW=>intro d;cases d;(show PySem.W.kitOne _ (Value.type "NoneType") (Value.type "tuple")=some false);kit_is;(show PySem.W.kitOne _ (Value.type "bool") (Value.type "tuple")=some false);kit_is;(show PySem.W.kitOne _ (Value.type "int") (Value.type "tuple")=some false);kit_is;(show PySem.W.kitOne _ (Value.type "str") (Value.type "tuple")=some false);kit_is;(show PySem.W.kitOne _ (Value.type "tuple") (Value.type "tuple")=some true);kit_is;(show PySem.W.kitOne _ (Value.type "list") (Value.type "tuple")=some false);kit_is)
  (case GZ=>intro d;cases d;(show PySem.W.kitOne _ (Value.type "NoneType") (Value.type "list")=some false);kit_is;(show PySem.W.kitOne _ (Value.type "bool") (Value.type "list")=some false);kit_is;(show PySem.W.kitOne _ (Value.type "int") (Value.type "list")=some false);kit_is;(show PySem.W.kitOne _ (Value.type "str") (Value.type "list")=some false);kit_is;(show PySem.W.kitOne _ (Value.type "tuple") (Value.type "list")=some false);kit_is;(show PySem.W.kitOne _ (Value.type "list") (Value.type "list")=some true);kit_is)
  (case iw=>intro s us ws i hl hw;have h0:us.length=2:=(by simp only[List.length_cons,List.length_nil] at hl;omega);clear hl;obtain⟨u0,us0,rfl,h1⟩:=Pu.zA h0;clear h0;obtain⟨u1,us1,rfl,h2⟩:=Pu.zA h1;clear h1;cases Pu.len0 h2;have g0:ws.length=0:=hw;clear hw;cases Pu.len0 g0;exact PySem.W.kp_binds i (λ S=>rfl))
  (case jB=>intro s us ws i hl hw;have h0:us.length=1:=(by simp only[List.length_cons,List.length_nil] at hl;omega);clear hl;obtain⟨u0,us0,rfl,h1⟩:=Pu.zA h0;clear h0;cases Pu.len0 h1;have g0:ws.length=0:=hw;clear hw;cases Pu.len0 g0;exact PySem.W.kp_binds i (λ S=>rfl))
  (case jC=>intro s us ws i hl hw;have h0:us.length=1:=(by simp only[List.length_cons,List.length_nil] at hl;omega);clear hl;obtain⟨u0,us0,rfl,h1⟩:=Pu.zA h0;clear h0;cases Pu.len0 h1;have g0:ws.length=1:=hw;clear hw;obtain⟨w0,ws0,rfl,g1⟩:=Pu.zA g0;clear g0;cases Pu.len0 g1;exact PySem.W.kp_binds i (λ S=>rfl))
