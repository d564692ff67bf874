import PyProof.Rows.All
import Wide.All
import OpenK.AllK
import Wide.FinOn
import Lean
import PyProof.EqAt
import PyProof.EqKinds
import PyProof.TupleCall
import PyProof.NeKinds
import PyProof.FString
import PySem.Challenge.RW_seamhall_k43_widened
noncomputable section
set_option bootstrap.genMatcherCode false
set_option compiler.extract_closed false
set_option Elab.async false
set_option linter.all false
set_option maxRecDepth 100000
set_option maxHeartbeats 4000000
theorem z0b {a b c : Nat} (h : a ≤ b) (k : b ≤ c) : a ≤ c := Nat.le_trans h k
theorem z0d {a b c : Nat} (h : a < b) (k : b ≤ c) : a < c := Nat.lt_of_lt_of_le h k
theorem z0e {a b : Nat} (h : a < b) : a ≤ b := Nat.le_of_lt h
theorem z0g (a : Nat) : a ≤ a := Nat.le_refl a
theorem z1a {h : PySem.Heap} {a : PySem.Addr} {o' : PySem.Obj} (o : PySem.Obj) (e : h.get? a = some o') : (h.push o).get? a = some o' := PySem.Heap.get?_push_of_some o e
theorem z1b {α : Type _} {i : Nat} {a : α} {l : List α} (h : l[i]? = some a) : ∃ h : i < l.length, l[i] = a := List.getElem?_eq_some_iff.mp h
theorem z1c {α : Type _} {as : List α} : as.toArray.size = as.length := List.size_toArray
theorem z1d {α : Type _} {as bs : List α} : (as ++ bs).length = as.length + bs.length := List.length_append
theorem z1e {α : Type _} {l : List α} {i j : Nat} (h : i ≠ j) {a : α} : (l.set i a)[j]? = l[j]? := List.getElem?_set_ne h
theorem z1f (h : PySem.Heap) {o : PySem.Obj} (e : o.isFreed = false) : (h.push o).get? h.objs.size = some o := PySem.Heap.get?_push_size h e
theorem z1g {α : Type _} {β : Type _} {as : List α} (f : α → β) : (as.map f).length = as.length := List.length_map f
theorem z1h {α : Type _} {β : Type _} {f : α → β} {a : α} {l : List α} : (a :: l).map f = f a :: l.map f := rfl
theorem z2a {α : Type _} {l : List α} {i : Nat} {a : α} (h : i < l.length) : (l.set i a)[i]? = some a := List.getElem?_set_self h
theorem z2b {α : Type _} {β : Type _} {f : α → β} {l : List α} {i : Nat} : (l.map f)[i]? = Option.map f l[i]? := List.getElem?_map
theorem z2c {h : PySem.Heap} {a : PySem.Addr} {o : PySem.Obj} (e : h.get? a = some o) : a < h.objs.size := PySem.Heap.lt_size e
theorem z2d {n : Nat} : (List.range n).length = n := List.length_range
theorem z2e {m n : Nat} (h : m ∈ List.range n) : m < n := List.mem_range.mp h
theorem z2f {α : Type _} (y : α) {a : α} {l : List α} (h : a ∈ l) : a ∈ y :: l := List.mem_cons_of_mem y h
namespace L2
open PySem PySem.Spec PyProof.Rows
variable {A:Around} {CX:CXT} {e tg:Expr} {o:HO} {h base:Heap} {H:Hp} {pins:List (Addr×Obj)} {ch:List Addr} {body:List Stmt} {ps N:List Str} {us:List Value} {M:Model} {t' k:Nat} {P:Program} {K:PySem.W.Frag} {r:R2} {s:Shared} {σ:St} {mg:Str->Option Value} {Q:Unit->Shared->Prop} {E:Value->Shared->Prop} {f:Value->Value->Sem Value} {w:World}
abbrev Key:=Sum Int Str
def keyIs:Key->Value->Bool
 | .inl k,v=>Value.isInt k v
 | .inr x,v=>Value.isStrOf x v
def keyH (w:World):Key->Int
 | .inl k=>hashInt k
 | .inr x=>hashStr w x
theorem keyIs_shape:∀{k:Key} {v:Value},keyIs k v=true->(∃i t,k=Sum.inl i/\v=Value.int i t)\/(∃x t,k=Sum.inr x/\v=Value.str x t)
 | .inl i,v,h=>by
  obtain⟨t,e⟩:=Value.isInt_shape (k:=i) (v:=v) h;exact .inl ⟨i,t,rfl,e⟩
 | .inr x,v,h=>by
  obtain⟨t,e⟩:=Value.isStrOf_shape (x:=x) (v:=v) h;exact .inr ⟨x,t,rfl,e⟩
theorem key_ll (a b:Int):decide ((Sum.inl a:Key)=Sum.inl b)=(a ==b):=by
 by_cases e:a=b
 ·subst e;simp
 ·have h:¬(Sum.inl a:Key)=Sum.inl b:=λ q=>e (Sum.inl.inj q);rw[decide_eq_false h];exact (beq_eq_false_iff_ne.mpr e).symm
theorem key_rr (a b:Str):decide ((Sum.inr a:Key)=Sum.inr b)=decide (a=b):=by
 by_cases e:a=b
 ·subst e;simp
 ·have h:¬(Sum.inr a:Key)=Sum.inr b:=λ q=>e (Sum.inr.inj q);rw[decide_eq_false h,decide_eq_false e]
theorem key_lr (a:Int) (b:Str):decide ((Sum.inl a:Key)=Sum.inr b)=false:=decide_eq_false (λ q=>nomatch q)
theorem key_rl (a:Str) (b:Int):decide ((Sum.inr a:Key)=Sum.inl b)=false:=decide_eq_false (λ q=>nomatch q)
def mixKind (prog:Program) (w:World):PySem.KeyKind prog w Key where
 is:=keyIs
 hash:=keyH w
 inj :=λ v a b ha hb=>by
  rcases keyIs_shape ha with⟨i,t,rfl,rfl⟩ |⟨x,t,rfl,rfl⟩
  ·rcases keyIs_shape hb with⟨j,u,rfl,e⟩ |⟨y,u,rfl,e⟩
   ·injection e with e1 _;rw[e1]
   ·exact nomatch e
  ·rcases keyIs_shape hb with⟨j,u,rfl,e⟩ |⟨y,u,rfl,e⟩
   ·exact nomatch e
   ·injection e with e1 _;rw[e1]
 byValue:=λ k v h=>by
  rcases keyIs_shape h with⟨i,t,rfl,rfl⟩ |⟨x,t,rfl,rfl⟩ <;> rfl
 pyHash:=λ hv h=>by
  rcases keyIs_shape hv with⟨i,t,rfl,rfl⟩ |⟨x,t,rfl,rfl⟩
  ·exact wpAny_pyHash_int h
  ·exact wpAny_pyHash_str h
 eqBool:=λ hu hv h=>by
  rcases keyIs_shape hu with⟨i,t,rfl,rfl⟩ |⟨x,t,rfl,rfl⟩
  ·rcases keyIs_shape hv with⟨j,u,rfl,rfl⟩ |⟨y,u,rfl,rfl⟩
   ·rw[key_ll] at h;exact wpAny_eqBool_int h
   ·rw[key_lr] at h;exact SeqAt.EqAt.int_str i t y u _ _ _ _ h
  ·rcases keyIs_shape hv with⟨j,u,rfl,rfl⟩ |⟨y,u,rfl,rfl⟩
   ·rw[key_rl] at h;exact SeqAt.EqAt.str_int x t j u _ _ _ _ h
   ·rw[key_rr] at h;exact wpAny_eqBool_str h
 «strs»:=λ k x t v h=>by
  rcases keyIs_shape h with⟨i,u,rfl,e⟩ |⟨y,u,rfl,e⟩
  ·exact nomatch e
  ·injection e with e1 _;subst e1;cases v <;> rfl
inductive V where
 |non |bl (b:Bool) |int (i:Int) |str (x:Str) |byt (b:Array UInt8) |flt (b:UInt64) |ref (a:Addr) |ty (n:String)
 deriving DecidableEq
def RelV:V->Value->Prop
 | .non,u=>u=Value.none
 | .bl b,u=>u=Value.bool b
 | .int i,u=>∃t,u=Value.int i t
 | .str x,u=>∃t,u=Value.str x t
 | .byt b,u=>∃t,u=Value.bytes b t
 | .flt b,u=>∃t,u=Value.float b t
 | .ref a,u=>u=Value.ref a
 | .ty n,u=>u=Value.type n
abbrev Vals:List V->List Value->Prop:=Paired RelV
theorem Vals.length {xs:List V} (r:Vals xs us):xs.length=us.length:=Paired.length r
theorem Vals.get:∀{xs:List V} {us:List Value} {i:Nat} {x:V},Vals xs us->xs[i]?=some x->∃u,us[i]?=some u/\RelV x u
 |_,_,_,_,.nil,e=>by simp at e
 |_,_,0,_,.cons r _,e=>by simp at e;subst e;exact⟨_,rfl,r⟩
 | _,_,i+1,x,.cons _ t,e=>by
  obtain⟨u,h1,h2⟩:=Vals.get (i:=i) (x:=x) t (by simpa using e);exact⟨u,by simpa using h1,h2⟩
theorem Vals.set {x:V} {u:Value} (r:RelV x u):∀{xs:List V} {us:List Value} (i:Nat),Vals xs us->Vals (xs.set i x) (us.set i u)
 |_,_,_,.nil=> .nil
 |_,_,0,.cons _ t=> .cons r t
 |_,_,i+1,.cons q t=> .cons q (Vals.set r i t)
theorem Vals.append:∀{xs ys:List V} {us ws:List Value},Vals xs us->Vals ys ws->Vals (xs++ys) (us++ws)
 :=by
 intro xs ys us ws h q
 induction h with
 |nil=>exact q
 |cons r t ih=>exact .cons r ih
theorem Vals.take:∀{xs:List V} {us:List Value} (n:Nat),Vals xs us->Vals (xs.take n) (us.take n)
 |_,_,0,_=> .nil
 |_,_,_+1,.nil=> .nil
 |_,_,n+1,.cons r t=> .cons r (Vals.take n t)
theorem Vals.drop:∀{xs:List V} {us:List Value} (n:Nat),Vals xs us->Vals (xs.drop n) (us.drop n)
 |_,_,0,r=>r
 |_,_,_+1,.nil=> .nil
 |_,_,n+1,.cons _ t=>Vals.drop n t
def RelO:Option V->Option Value->Prop
 |some v,some u=>RelV v u
 |none,none=>True
 |_,_=>False
def KV {κ:Type}:List (κ×V)->List (κ×Value)->Prop:=Paired λ (p:κ×V) (q:κ×Value)=>p.1=q.1/\RelV p.2 q.2
def kV:Key->V
 | .inl i=> .int i
 | .inr x=> .str x
inductive HO where
 /-- a list -/
 |lst (xs:List V)
 /-- a tuple (never changes) -/
 |tup (xs:List V)
 /-- a dict whose keys are ints and texts;one whose keys are tuples of ints and texts (the empty one is both) -/
 |dK (kvs:List (Key×V)) |dT (kvs:List (List Key×V))
 /-- a set of ints:its members,its size -/
 |set (S:Int->Bool) (n:Nat)
 /-- an instance of the class at C,its dict at dx,its attributes -/
 |ins (C dx:Addr) (fs:List (Str×V))
 /-- the dict of the instance at x -/
 |own (x:Addr)
 /-- the dict of an exception -/
 |xd (fs:List (Str×V))
 /-- a bound method,f of x -/
 |met (f x:Addr)
 /-- a range object lo,lo+1,.. below hi -/
 |rng (lo hi:Int)
 /-- a thing that is known to the object (the script;a dict while a loop walks it):read,never written while it is so -/
 |frz (o:Obj) (u:HO)
 /-- a code object's table -/
 |tbl (ps:Array Value)
 /-- any other thing,by what is true of its one object (a def of one's own:SetO a S n:=HO.ext λ h=> ..) -/
 |ext (φ:Heap->Prop)
abbrev Hp:=Addr->Option HO
def upd (H:Hp) (a:Addr) (o:HO):Hp:=λ b=>if b=a then some o else H b
theorem upd_same {a:Addr}:upd H a o a=some o:=by unfold upd;rw[if_pos rfl]
theorem upd_ne {a b:Addr} (h:b≠a):upd H a o b=H b:=by unfold upd;rw[if_neg h]
theorem ne_of_none {a b:Addr} (h:H a=some o) (h':H b=none):a≠b:=by
 intro e;subst e;rw[h] at h';cases h'
def uF (h:Heap) (a:Addr) (items:Array Value):Prop:=∃o,h.get? a=some o/\o.cls= .type "tuple"/\o.dict=none/\∃n,o.data= .seq items n
theorem uF.tup {a:Addr} {items:Array Value} (x:uF h a items):IsTup h a items:=let ⟨o,e,c,_,d⟩:=x;⟨o,e,c,d⟩
theorem uF.new (h:Heap) (items:Array Value):uF (h.push {cls:= .type "tuple",data:= .seq items}) h.objs.size items:=⟨_,z1f _ rfl,rfl,rfl,_,rfl⟩
section
variable (P:Program) (w:World)
def ObjOk (H:Hp) (h:Heap) (a:Addr):HO->Prop
 | .lst xs=>xs.length<=sizeLine/\∃(its:List Value) (n:Nat),Vals xs its/\h.get? a=some {cls:= .type "list",data:= .seq its.toArray n}
 | .tup xs=>xs.length<=sizeLine/\∃its:List Value,Vals xs its/\uF h a its.toArray
 | .dK kvs=>kvs.length<=sizeLine/\(a ==sysModules)=false/\∃vs,KV kvs vs/\h.DictOf (mixKind P w) a vs
 | .dT kvs=>kvs.length<=sizeLine/\(a ==sysModules)=false/\∃xs:List (List Key×Addr×Value),
   Paired (λ (p:List Key×V) (q:List Key×Addr×Value)=>p.1=q.1/\H q.2.1=some (.tup (p.1.map kV))/\RelV p.2 q.2.2) kvs xs/\
   ∃o es ep,h.get? a=some o/\o.ExactDict/\o.data= .dict es ep/\es.toList=xs.map (entryOfKey (tupleKind (mixKind P w)))/\(xs.map (·.1)).Nodup
 | .set S n=>h.SetOf (intKind P w) a S n
 | .ins C dx fs=>H dx=some (.own a)/\fs.length<=1000/\dx≠a/\h.get? a=some (PySem.W.instObj C dx)/\
   ∃mA,h.Ns1 dx mA/\(∀f,RelO (fs.lookup f) (mA f))/\PySem.Within mA (fs.map (·.1))
 | .own _=>∃o,h.get? a=some o
 | .xd fs=>∃mA,h.Ns1 a mA/\∀f,RelO (fs.lookup f) (mA f)
 | .rng lo hi=>∃t u v,h.get? a=some {cls:= .type "range",data:= .fields #[.int lo t,.int hi u,.int 1 v]}
 | .frz o u=>h.get? a=some o/\ObjOk H h a u
 | .tbl ps=>∃qs:Array Value,h.get? a=some (PySem.W.tabObj qs)/\TriplesOk qs.toList/\∀pos cv,codeAmong pos qs.toList=some cv->∃c oc vs q t tq,cv= .ref c/\H c=some (.frz oc (.own c))/\oc.data= .fields vs/\vs[1]?=some (.str q t)/\ps[0]?=some (.str q tq)
 | .met f x=>h.get? a=some (PySem.W.methodObj (.ref f) (.ref x))
 | .ext φ=>φ h/\(∃o,h.get? a=some o)/\∀h1 h2:Heap,φ h1->(∀o,h1.get? a=some o->h2.get? a=some o)->φ h2
def HOk (H:Hp) (h:Heap):Prop:=∀a o,H a=some o->ObjOk P w H h a o
end
section
variable {P:Program} {w:World} {H H':Hp} {h h':Heap} {a:Addr} {o:HO}
theorem ObjOk.lt (x:ObjOk P w H h a o):a < h.objs.size:=by
 cases o with
 |lst xs=>obtain⟨_,_,_,_,e⟩:=x;exact z2c e
 |tup xs=>obtain⟨_,_,_,_,e,_⟩:=x;exact z2c e
 |dK kvs=>obtain⟨_,_,_,_,o,_,_,e,_⟩:=x;exact z2c e
 |dT kvs=>obtain⟨_,_,_,_,o,_,_,e,_⟩:=x;exact z2c e
 |set S n=>obtain⟨o,_,_,_,e,_⟩:=x;exact z2c e
 |ins C dx fs=>obtain⟨_,_,_,e,_⟩:=x;exact z2c e
 |own y=>obtain⟨_,e⟩:=x;exact z2c e
 |xd fs=>obtain⟨_,⟨_,_,_,e,_⟩,_⟩:=x;exact z2c e
 |rng lo hi=>obtain⟨_,_,_,e⟩:=x;exact z2c e
 |frz ob u=>obtain⟨e,_⟩:=x;exact z2c e
 |tbl ps=>obtain⟨_,e,_⟩:=x;exact z2c e
 |met f y=>exact z2c (show h.get? a=some _ from x)
 |ext φ=>obtain⟨_,⟨_,e⟩,_⟩:=x;exact z2c e
theorem Paired.mapP {α β:Type} {F G:α->β->Prop}:∀{l₁:List α} {l₂:List β},Paired F l₁ l₂->(∀a b,F a b->G a b)->Paired G l₁ l₂
 :=by
 intro l₁ l₂ h f
 induction h with
 |nil=>exact .nil
 |cons r t ih=>exact .cons (f _ _ r) ih
theorem ObjOk.stay (x:ObjOk P w H h a o) (k:∀b u,(b=a\/H b=some (.own a))->h.get? b=some u->h'.get? b=some u)
  (ho:∀b,H b=some (.own a)->H' b=some (.own a)) (ht:∀b xs,H b=some (.tup xs)->H' b=some (.tup xs)) (hz:∀b o u,(∃vs,o.data= .fields vs)->H b=some (.frz o u)->H' b=some (.frz o u)):ObjOk P w H' h' a o:=by
 induction o with
 |lst xs=>obtain⟨z,its,n,r,e⟩:=x;exact⟨z,its,n,r,k _ _ (.inl rfl) e⟩
 |tup xs=>obtain⟨z,its,r,ob,e,c⟩:=x;exact⟨z,its,r,ob,k _ _ (.inl rfl) e,c⟩
 |dK kvs=>obtain⟨z,y,vs,r,ob,es,ep,e,c⟩:=x;exact⟨z,y,vs,r,ob,es,ep,k _ _ (.inl rfl) e,c⟩
 | dT kvs=>
  obtain⟨z,y,xs,r,ob,es,ep,e,c⟩:=x;exact⟨z,y,xs,Paired.mapP r λ p q z=>⟨z.1,ht _ _ z.2.1,z.2.2⟩,ob,es,ep,k _ _ (.inl rfl) e,c⟩
 |set S n=>obtain⟨ob,es,ep,t,e,c⟩:=x;exact⟨ob,es,ep,t,k _ _ (.inl rfl) e,c⟩
 | ins C dx fs=>
  obtain⟨d,z,ne,e,mA,⟨od,es,ep,e2,c⟩,r⟩:=x;exact⟨ho _ d,z,ne,k _ _ (.inl rfl) e,mA,⟨od,es,ep,k _ _ (.inr d) e2,c⟩,r⟩
 |own y=>obtain⟨ob,e⟩:=x;exact⟨ob,k _ _ (.inl rfl) e⟩
 |xd fs=>obtain⟨mA,⟨od,es,ep,e,c⟩,r⟩:=x;exact⟨mA,⟨od,es,ep,k _ _ (.inl rfl) e,c⟩,r⟩
 |rng lo hi=>obtain⟨t,u,v,e⟩:=x;exact⟨t,u,v,k _ _ (.inl rfl) e⟩
 |frz ob u ih=>obtain⟨e,q⟩:=x;exact⟨k _ _ (.inl rfl) e,ih q⟩
 | tbl ps=>
  obtain⟨qs,e,tr,al⟩:=x;exact⟨qs,k a _ (.inl rfl) e,tr,λ p cv z=>by
   obtain⟨c,oc,vs,q,t,tq,e1,e2,e3,r⟩:=al p cv z;exact⟨c,oc,vs,q,t,tq,e1,hz _ _ _ ⟨vs,e3⟩ e2,e3,r⟩⟩
 | met f y=>
  have e:h.get? a=some (PySem.W.methodObj (.ref f) (.ref y)):=x;show h'.get? a=some (PySem.W.methodObj (.ref f) (.ref y));exact k a _ (.inl rfl) e
 |ext φ=>obtain⟨p,⟨o,e⟩,st⟩:=x;exact⟨st _ _ p λ o q=>k _ _ (.inl rfl) q,⟨o,k _ _ (.inl rfl) e⟩,st⟩
theorem HOk.lt (x:HOk P w H h) (e:H a=some o):a < h.objs.size:=(x a o e).lt
theorem HOk.fresh (x:HOk P w H h) (e:h.objs.size<=a):H a=none:=by
 cases q:H a with
 |none=>rfl
 |some u=>exact absurd (z0d (x.lt q) e) (Nat.lt_irrefl _)
theorem HOk.kept (x:HOk P w H h) (k:∀b u,h.get? b=some u->h'.get? b=some u):HOk P w H h':=λ a o e=>
 (x a o e).stay (λ b u _ q=>k b u q) (λ _ q=>q) (λ _ _ q=>q) λ _ _ _ _ q=>q
theorem HOk.laid (x:HOk P w H h) (k:∀b u,h.get? b=some u->h'.get? b=some u) (hp:h.objs.size<=a) (new:ObjOk P w (upd H a o) h' a o):HOk P w (upd H a o) h':=λ b u e=>by
 have hn:=x.fresh hp;by_cases hb:b=a
 ·subst hb;rw[upd_same] at e;cases e;exact new
 ·rw[upd_ne hb] at e;exact (x b u e).stay (λ c v _ q=>k c v q) (λ c q=>by rw[upd_ne (ne_of_none q hn)];exact q) (λ c xs q=>by rw[upd_ne (ne_of_none q hn)];exact q) λ c _ _ _ q=>by rw[upd_ne (ne_of_none q hn)];exact q
end
def Rd (H:Hp) (a:Addr) (u:HO):Prop:=H a=some u\/∃o,H a=some (.frz o u)
theorem Rd.ok {a:Addr} {u:HO} (r:Rd H a u) (x:HOk P w H h):ObjOk P w H h a u:=by
 rcases r with r |⟨o,r⟩
 ·exact x a u r
 ·obtain⟨_,q⟩:=x a _ r;exact q
def Mut:Option HO->Prop
 |some (.lst _)=>True
 |some (.dK _)=>True
 |some (.dT _)=>True
 |some (.set _ _)=>True
 |some (.ins _ _ _)=>True
 |some (.ext _)=>True
 |_=>False
section
variable {P:Program} {w:World} {H:Hp} {h h':Heap} {x e:Addr} {o':HO}
theorem HOk.write (ok:HOk P w H h) (mu:Mut (H x)) (he:e=x\/H e=some (.own x)) (k:∀b u,b≠e->h.get? b=some u->h'.get? b=some u) (heo:∃u,h'.get? e=some u)
  (new:ObjOk P w (upd H x o') h' x o'):HOk P w (upd H x o') h':=λ b u q=>by
 have nown:∀c y,H c=some (.own y)->c≠x:=λ c y r z=>by subst z;rw[r] at mu;exact mu
 have ntup:∀c xs,H c=some (.tup xs)->c≠x:=λ c xs r z=>by subst z;rw[r] at mu;exact mu
 by_cases hb:b=x
 ·subst hb;rw[upd_same] at q;cases q;exact new
 ·rw [upd_ne hb] at q;by_cases hbe:b=e
  ·have q':H b=some (.own x):=by
    rcases he with z |z
    ·exact absurd (hbe.trans z) hb
    ·rw[hbe];exact z
   rw[q] at q';cases q';obtain⟨v,hv⟩:=heo;exact⟨v,by rw[hbe];exact hv⟩
  ·refine (ok b u q).stay (λ c v hc r=>k c v ?_ r) (λ c r=>by rw[upd_ne (nown c b r)];exact r) (λ c xs r=>by rw[upd_ne (ntup c xs r)];exact r) λ c o1 u1 _ r=>by rw[upd_ne (λ z=>by rw[z] at r;rw[r] at mu;exact mu)];exact r
   rcases hc with rfl |hc
   ·exact hbe
   ·rintro rfl
    rcases he with z |z
    ·exact nown c b hc z
    ·rw[hc] at z;cases z;exact hb rfl
end
structure Un (fs ex:List Addr) (H H':Hp) (h h':Heap):Prop where
 keep:∀b o,h.get? b=some o->H b=none->b∉fs->b∉ex->h'.get? b=some o
 slot:∀b o,h.get? b=some o->H b=none->b∈fs->b∉ex->∃sl,h'.get? b=some {o with slots:=sl}
 free:∀b o,h.get? b=some o->H b=none->b∉ex->H' b=none
 there:∀b o,h.get? b=some o->b∉ex->∃o',h'.get? b=some o'
 tups:∀b xs,H b=some (.tup xs)->H' b=some (.tup xs)
 frzs:∀b o u,H b=some (.frz o u)->H' b=some (.frz o u)
 tbls:∀b ps,H b=some (.tbl ps)->∃more,H' b=some (.tbl (ps++more))
section
variable {fs fs' ex ex':List Addr} {H H1 H2:Hp} {h h1 h2 h':Heap} {a x e:Addr} {o:HO}
theorem Un.any (u:Un fs ex H H1 h h1) {b:Addr} {ob:Obj} (q:h.get? b=some ob) (n:H b=none) (hx:b∉ex):∃sl,h1.get? b=some {ob with slots:=sl}:=by
 by_cases hb:b∈fs
 ·exact u.slot b ob q n hb hx
 ·exact⟨ob.slots,u.keep b ob q n hb hx⟩
theorem Un.kept (k:∀b u,h.get? b=some u->h'.get? b=some u):Un fs ex H H h h':=
 ⟨λ b ob q _ _ _=>k b ob q,λ b ob q _ _ _=>⟨ob.slots,k b ob q⟩,λ _ _ _ n _=>n,λ b ob q _=>⟨ob,k b ob q⟩,λ _ _ q=>q,λ _ _ _ q=>q,λ _ ps q=>⟨#[],by rw[q];simp⟩⟩
theorem Un.refl:Un fs ex H H h h:=Un.kept λ _ _ q=>q
theorem Un.laid (k:∀b u,h.get? b=some u->h'.get? b=some u) (hp:h.objs.size<=a) (hn:H a=none):Un fs ex H (upd H a o) h h' where
 keep:=λ b u q _ _ _=>k b u q
 slot:=λ b u q _ _ _=>⟨u.slots,k b u q⟩
 free:=λ b u q n _=>by rw[upd_ne (Nat.ne_of_lt (z0d (z2c q) hp))];exact n
 there:=λ b u q _=>⟨u,k b u q⟩
 tups:=λ b xs q=>by rw[upd_ne (ne_of_none q hn)];exact q
 frzs:=λ b u xs q=>by rw[upd_ne (ne_of_none q hn)];exact q
 tbls:=λ b ps q=>⟨#[],by rw[upd_ne (ne_of_none q hn),q];simp⟩
theorem Un.write (mu:Mut (H x)) (he:e=x\/H e=some (.own x)) (k:∀b u,b≠e->h.get? b=some u->h'.get? b=some u) (heo:∃u,h'.get? e=some u):Un fs ex H (upd H x o) h h':=by
 have hx:∀b,H b=none->b≠x:=λ b n z=>by subst z;rw[n] at mu;exact mu
 have hb:∀b,H b=none->b≠e:=λ b n z=>by
  subst z;rcases he with r |r
  ·exact hx b n r
  ·rw[n] at r;cases r
 have hm:∀b u,H b=some u->¬Mut (some u)->b≠x:=λ b u q nm z=>by subst z;rw[q] at mu;exact nm mu
 refine⟨λ b u q n _ _=>k b u (hb b n) q,λ b u q n _ _=>⟨u.slots,k b u (hb b n) q⟩,λ b u q n _=>by rw[upd_ne (hx b n)];exact n,λ b u q _=>?_,
  λ b xs q=>by rw[upd_ne (hm b _ q λ z=>z)];exact q,λ b u xs q=>by rw[upd_ne (hm b _ q λ z=>z)];exact q,λ b ps q=>⟨#[],by rw[upd_ne (hm b _ q λ z=>z),q];simp⟩⟩
 by_cases hbe:b=e
 ·subst hbe;exact heo
 ·exact⟨u,k b u hbe q⟩
end
def trk (h:Heap) (H:Hp):List Addr:=(List.range h.objs.size).filter λ a=>(H a).isSome
def hidT (h:Heap) (H:Hp):Heap:=PySem.W.hideAll h (trk h H)
theorem hidT_size (h:Heap) (H:Hp):(hidT h H).objs.size=h.objs.size:=PySem.W.hideAll_size _ _
theorem hidT_get {b:Addr} {o:Obj} (e:h.get? b=some o) (n:H b=none):(hidT h H).get? b=some o:=
 PySem.W.hideAll_get _ e λ hm=>by
  have q:(H b).isSome=true:=(List.mem_filter.mp hm).2;rw[n] at q;simp at q
theorem of_hidT {b:Addr} {o:Obj} (e:(hidT h H).get? b=some o):h.get? b=some o/\H b=none:=by
 have e':h.get? b=some o:=PySem.W.of_hideAll (trk h H) e;refine⟨e',?_⟩;cases q:H b with
 |none=>rfl
 | some x=>
  have hm:b∈trk h H:=List.mem_filter.mpr ⟨List.mem_range.mpr (z2c e'),by simp[q]⟩;have z:(hidT h H).get? b=none:=PySem.W.hideAll_none (trk h H) hm;rw[z] at e;cases e
def allNews (g h:Heap) (L:Addr):List (Addr×Obj):=(List.range h.objs.size).filterMap λ a=>if a=L\/(g.get? a).isSome=true then none else (h.get? a).map λ o=>(a,o)
def rest (g h:Heap) (L d:Addr):List (Addr×Obj):=(allNews g h L).filter λ p=>decide (p.1≠d)
structure Mod (K:PySem.W.Frag) (mg:Str->Option Value) (base:Heap):Prop where
 kin:K.In base
 glob:base.Ns mainGlobals mg
 blt:∃mb,base.Ns builtinsNs mb/\∀x:Str,x≠"__name__"->mb x=bootBuiltins x
 nolimit:base.NoLimit
structure Cx where
 prog:Program
 w:World
 K:PySem.W.Frag
 mg:Str->Option Value
 base:Heap
 A:Around
 N:List Str
 s₀:Shared
 H₀:Hp
 env:Env
 outer:List Env
 stack:List Env
 ex:List Addr
 fn:Str->Bool
 calm:Bool
 pn:List (Addr×Obj)
 xe:Value->Shared->Prop
def frs (l:List Env):List Addr:=l.filterMap (·.frame)
abbrev Cx.fs (X:Cx):List Addr:=frs X.outer
def Vis (sc:Scope) (x:Str):Prop:=sc.names.lookup x=some .local\/sc.names.lookup x=some .cell\/sc.names.lookup x=some .free
def Loc (sc:Scope) (x:Str):Prop:=sc.names.lookup x=some .local\/sc.names.lookup x=some .cell
def Look (env:Env) (h:Heap) (m:Str->Option Value) (x:Str) (u:Value):Prop:=
 (env.kindOf x=some .local/\m x=some u)\/((env.kindOf x=some .cell\/env.kindOf x=some .free)/\∃c,env.cells.lookup x=some c/\h.IsCell c (some u))
structure Cx.Ok (X:Cx):Prop where
 mod:Mod X.K X.mg X.base
 kind:X.env.scope.kind= .function
 glob:X.env.globals=mainGlobals
 blt:X.env.builtins=builtinsNs
 above:X.s₀.heap.objs.size<=X.env.locals
 inj:∀x y c,X.env.cells.lookup x=some c->X.env.cells.lookup y=some c->x=y
 has:∀x,(X.env.kindOf x=some .cell\/X.env.kindOf x=some .free)->∃c,X.env.cells.lookup x=some c
 cab:∀x c,X.fn x=true->X.env.cells.lookup x=some c->X.s₀.heap.objs.size<=c
 hd:X.calm=true->X.A.handled=none
 frames:X.A.frames=some X.stack
 stk:X.stack=X.outer\/(X.stack=X.env::X.outer/\X.env.frame=some X.env.locals)
 exf:∀b∈X.ex,b≠X.env.locals/\∀x c,X.env.cells.lookup x=some c->c≠b
 bs:∀b o,X.base.get? b=some o->X.s₀.heap.get? b=some o/\X.H₀ b=none
 bsz:X.base.objs.size<=X.s₀.heap.objs.size
 noex:∀b o,X.base.get? b=some o->b∉X.ex
 exfs:∀b∈X.ex,b∉X.fs
 funs:X.s₀.heap.FunFrames X.base X.outer
 frf:∀b∈X.fs,X.H₀ b=none
structure Inv (X:Cx) (pins:List (Addr×Obj)) (σ:List (Option V)) (H:Hp) (s:Shared):Prop where
 ok:X.Ok
 os:s.os=X.s₀.os
 bare:AllBare s.gens
 base:Un X.fs X.ex X.H₀ H X.s₀.heap s.heap
 loc:∃m,s.heap.Ns X.env.locals m/\∀(i:Nat) (x:Str) (v:V),X.N[i]?=some x->σ[i]?=some (some v)->Vis X.env.scope x->∃u,RelV v u/\Look X.env s.heap m x u
 cell:∀x c,X.env.cells.lookup x=some c->∃v,s.heap.IsCell c v
 free:H X.env.locals=none
 freeC:∀x c,X.env.cells.lookup x=some c->H c=none
 pin:∀p∈X.pn++pins,s.heap.get? p.1=some p.2/\H p.1=none/\p.1≠X.env.locals/\p.1∉X.fs/\∀v,p.2.data≠.cell v
 hok:HOk X.prog X.w H s.heap
 len:σ.length=X.N.length
section
variable {X:Cx} {pins:List (Addr×Obj)} {σ:List (Option V)} {H H':Hp} {s:Shared} {h':Heap}
theorem Cx.Ok.nofr (ok:X.Ok) {b:Addr} {o:Obj} (e:X.base.get? b=some o):b∉X.fs:=λ hb=>by
 have:=(ok.funs.mem hb).1;rw[e] at this;cases this
theorem Inv.bs (I:Inv X pins σ H s):∀b o,X.base.get? b=some o->s.heap.get? b=some o/\H b=none:=λ b o e=>
 ⟨I.base.keep b o (I.ok.bs b o e).1 (I.ok.bs b o e).2 (I.ok.nofr e) (I.ok.noex b o e),I.base.free b o (I.ok.bs b o e).1 (I.ok.bs b o e).2 (I.ok.noex b o e)⟩
theorem Inv.bk (I:Inv X pins σ H s):∀b o,X.base.get? b=some o->s.heap.get? b=some o:=λ b o e=>(I.bs b o e).1
theorem Inv.mod (I:Inv X pins σ H s):Mod X.K X.mg X.base:=I.ok.mod
theorem Inv.kIn (I:Inv X pins σ H s):X.K.In s.heap:=I.ok.mod.kin.keeps I.bk
theorem Inv.lt (I:Inv X pins σ H s):X.env.locals < s.heap.objs.size:=let ⟨_,hn,_⟩:=I.loc;hn.lt
theorem Inv.sz (I:Inv X pins σ H s):X.s₀.heap.objs.size<=s.heap.objs.size:=z0b I.ok.above (z0e I.lt)
theorem Inv.nofs (I:Inv X pins σ H s) {a:Addr} (h:s.heap.objs.size<=a):a∉X.fs:=λ hb=>by
 obtain⟨_,o,ho,_⟩:=I.ok.funs.mem hb;exact absurd (z0d (z2c ho) (z0b I.sz h)) (Nat.lt_irrefl _)
theorem Inv.cne (I:Inv X pins σ H s):∀x c,X.env.cells.lookup x=some c->c≠X.env.locals:=λ x c e z=>by
 obtain⟨v,o,ho,hd⟩:=I.cell x c e;obtain⟨m,⟨o',es,ep,ho',hd',_⟩,_⟩:=I.loc;rw[z,ho'] at ho;cases ho;rw[hd'] at hd;cases hd
theorem Inv.funs (I:Inv X pins σ H s):s.heap.FunFrames X.base X.outer:=by
 have all:∀(l:List Env),(∀b∈frs l,b∈X.fs)->X.s₀.heap.FunFrames X.base l->s.heap.FunFrames X.base l:=by
  intro l
  induction l with
  |nil=>intro _ _;trivial
  | cons env r ih=>
   intro hs hl;obtain⟨hk,⟨L,o,hf,hn,ho,hd⟩,hr⟩:=hl;have hL:L∈X.fs:=hs L (by unfold frs;rw[List.filterMap_cons,hf];exact List.mem_cons_self);obtain⟨sl,e⟩:=I.base.slot L o ho (I.ok.frf L hL) hL λ z=>I.ok.exfs L z hL;exact⟨hk,⟨L,_,hf,hn,e,hd⟩,ih (λ b hb=>hs b (by unfold frs;rw[List.filterMap_cons,hf];exact z2f _ hb)) hr⟩
 exact all X.outer (λ _ hb=>hb) I.ok.funs
theorem Inv.stack (I:Inv X pins σ H s):s.heap.FunFrames X.base X.stack:=by
 rcases I.ok.stk with e |⟨e,hf⟩
 ·rw[e];exact I.funs
 ·rw[e];obtain⟨m,hn,_⟩:=I.loc;refine .cons (by rw[I.ok.kind];decide) hf hn ?_ I.funs;exact Heap.get?_none_of_le (z0b I.ok.bsz I.ok.above)
theorem Inv.stkSub (I:Inv X pins σ H s):∀b∈frs X.stack,b∈X.env.locals::X.fs:=λ b hb=>by
 rcases I.ok.stk with e |⟨e,hf⟩
 ·rw[e] at hb;exact z2f _ hb
 ·rw[e] at hb;unfold frs at hb;rw[List.filterMap_cons,hf] at hb;exact hb
theorem Inv.stkFree (I:Inv X pins σ H s):∀b∈frs X.stack,H b=none:=λ b hb=>by
 rcases List.mem_cons.mp (I.stkSub b hb) with e |hb
 ·rw[e];exact I.free
 ·obtain⟨_,o,ho,_⟩:=I.ok.funs.mem hb;exact I.base.free b o ho (I.ok.frf b hb) λ z=>I.ok.exfs b z hb
theorem Inv.step {g':Array GenState} {d':Drawn} (I:Inv X pins σ H s)
  (hch:∀b∈ch,(b∈X.ex\/X.s₀.heap.objs.size<=b)/\b≠X.env.locals/\(∀x c,X.env.cells.lookup x=some c->c≠b)/\∀p∈X.pn++pins,p.1≠b)
  (keep:∀b o,b≠X.env.locals->b∉X.fs->b∉ch->s.heap.get? b=some o->H b=none->h'.get? b=some o)
  (slot:∀b o,b≠X.env.locals->b∈X.fs->b∉ch->s.heap.get? b=some o->H b=none->∃sl,h'.get? b=some {o with slots:=sl}) (free:∀b o,b∉ch->s.heap.get? b=some o->H b=none->H' b=none)
  (there:∀b o,b∉ch->s.heap.get? b=some o->∃o',h'.get? b=some o')
  (tups:∀b xs,H b=some (.tup xs)->H' b=some (.tup xs)) (frzs:∀b o u,H b=some (.frz o u)->H' b=some (.frz o u)) (tbls:∀b ps,H b=some (.tbl ps)->∃more,H' b=some (.tbl (ps++more)))
  (ns:∀m,s.heap.Ns X.env.locals m->h'.Ns X.env.locals m) (hok:HOk X.prog X.w H' h') (hg:AllBare g'):
  Inv X pins σ H' {s with heap:=h',gens:=g',drawn:=d',toks:=t'}:=by
 have neL:∀b o,X.s₀.heap.get? b=some o->b≠X.env.locals:=λ b o e=>Nat.ne_of_lt (z0d (z2c e) I.ok.above);have neC:∀b o,X.s₀.heap.get? b=some o->b∉X.ex->b∉ch:=λ b o e hx hb=>by
  rcases (hch b hb).1 with z |z
  ·exact hx z
  ·exact absurd (z0d (z2c e) z) (Nat.lt_irrefl _)
 have cellK:∀x c,X.env.cells.lookup x=some c->∀v,s.heap.IsCell c v->h'.IsCell c v:=λ x c e v ⟨o,ho,hd⟩=>by
  have nch:c∉ch:=λ z=>(hch c z).2.2.1 x c e rfl;by_cases hc:c∈X.fs
  ·obtain⟨sl,q⟩:=slot c o (I.cne x c e) hc nch ho (I.freeC x c e);exact⟨_,q,hd⟩
  ·exact⟨o,keep c o (I.cne x c e) hc nch ho (I.freeC x c e),hd⟩
 refine⟨I.ok,I.os,hg,⟨λ b o e n hb hx=>?_,λ b o e n hb hx=>?_,λ b o e n hx=>?_,λ b o e hx=>?_,λ b xs e=>tups b xs (I.base.tups b xs e),λ b o xs e=>frzs b o xs (I.base.frzs b o xs e),λ b ps e=>?_⟩,?_,λ x c e=>?_,?_,λ x c e=>?_,λ p hp=>?_,hok,I.len⟩
 ·exact keep b o (neL b o e) hb (neC b o e hx) (I.base.keep b o e n hb hx) (I.base.free b o e n hx)
 ·obtain⟨sl,e1⟩:=I.base.slot b o e n hb hx;obtain⟨sl',e2⟩:=slot b _ (neL b o e) hb (neC b o e hx) e1 (I.base.free b o e n hx);exact⟨sl',e2⟩
 ·obtain⟨o',e1⟩:=I.base.there b o e hx;exact free b o' (neC b o e hx) e1 (I.base.free b o e n hx)
 ·obtain⟨o',e1⟩:=I.base.there b o e hx;exact there b o' (neC b o e hx) e1
 ·obtain⟨m1,e1⟩:=I.base.tbls b ps e;obtain⟨m2,e2⟩:=tbls b _ e1;exact⟨m1++m2,by rw[e2,Array.append_assoc]⟩
 ·obtain⟨m,hn,hl⟩:=I.loc;refine⟨m,ns m hn,λ i x v e1 e2 e3=>?_⟩;obtain⟨u,r,l⟩:=hl i x v e1 e2 e3;refine⟨u,r,?_⟩;rcases l with l |⟨k,c,e,z⟩
  ·exact .inl l
  ·exact .inr ⟨k,c,e,cellK x c e _ z⟩
 ·obtain⟨v,z⟩:=I.cell x c e;exact⟨v,cellK x c e v z⟩
 ·obtain⟨m,⟨o,_,_,ho,_⟩,_⟩:=I.loc;exact free _ o (λ z=>(hch _ z).2.1 rfl) ho I.free
 ·obtain⟨v,o,ho,hd⟩:=I.cell x c e;exact free c o (λ z=>(hch c z).2.2.1 x c e rfl) ho (I.freeC x c e)
 ·obtain⟨e,n,ne,nf,d⟩:=I.pin p hp;have nch:p.1∉ch:=λ z=>(hch p.1 z).2.2.2 p hp rfl;exact⟨keep p.1 p.2 ne nf nch e n,free p.1 p.2 nch e n,ne,nf,d⟩
theorem Inv.un (I:Inv X pins σ H s) (u:Un X.fs [] H H' s.heap h') (hok:HOk X.prog X.w H' h'):Inv X pins σ H' {s with heap:=h',toks:=t'}:=by
 obtain⟨m,⟨o,es,ep,ho,r⟩,_⟩:=id I.loc;obtain⟨sl,hL⟩:=u.any ho I.free (by simp);exact I.step (g':=s.gens) (d':=s.drawn) (ch:=[]) (λ _ z=>nomatch z) (λ b o _ hb _ e n=>u.keep b o e n hb (by simp)) (λ b o _ hb _ e n=>u.slot b o e n hb (by simp)) (λ b o _ e n=>u.free b o e n (by simp)) (λ b o _ e=>u.there b o e (by simp)) u.tups u.frzs u.tbls (λ m' hm=>by
  obtain⟨o',es',ep',ho',r'⟩:=hm;rw[ho] at ho';cases ho';exact⟨_,es',ep',hL,r'⟩) hok I.bare
theorem Inv.call {g':Array GenState} {d':Drawn} (I:Inv X pins σ H s) (u:Un (frs X.stack) ch H H' s.heap h') (hok:HOk X.prog X.w H' h') (hg:AllBare g')
  (hch:∀b∈ch,(b∈X.ex\/X.s₀.heap.objs.size<=b)/\b≠X.env.locals/\(∀x c,X.env.cells.lookup x=some c->c≠b)/\∀p∈X.pn++pins,p.1≠b):
  Inv X pins σ H' {s with heap:=h',gens:=g',drawn:=d',toks:=t'}:=by
 obtain⟨m,⟨o,es,ep,ho,r⟩,_⟩:=id I.loc;obtain⟨sl,hL⟩:=u.any ho I.free λ z=>(hch _ z).2.1 rfl;exact I.step (ch:=ch) hch (λ b o hL hb hc e n=>u.keep b o e n (λ z=>(List.mem_cons.mp (I.stkSub b z)).elim hL hb) hc) (λ b o _ _ hc e n=>u.any e n hc) (λ b o hc e n=>u.free b o e n hc) (λ b o hc e=>u.there b o e hc) u.tups u.frzs u.tbls (λ m' hm=>by
  obtain⟨o',es',ep',ho',r'⟩:=hm;rw[ho] at ho';cases ho';exact⟨_,es',ep',hL,r'⟩) hok hg
theorem Inv.turned {it:Addr} (I:Inv X pins σ H s) (k:∀b o,b≠it->s.heap.get? b=some o->h'.get? b=some o) (hn:H it=none) (hL:it≠X.env.locals)
  (h1:it∈X.ex\/X.s₀.heap.objs.size<=it) (h2:∀x c,X.env.cells.lookup x=some c->c≠it) (h3:∀p∈X.pn++pins,p.1≠it):Inv X pins σ H {s with heap:=h',toks:=t'}:=by
 have nit:∀b u,H b=some u->b≠it:=λ b u e z=>by rw[z,hn] at e;cases e
 refine I.step (g':=s.gens) (d':=s.drawn) (ch:=[it]) (λ b hb=>?_) (λ b o _ _ hc e _=>k b o (λ z=>hc (by simp[z])) e) (λ b o _ _ hc e _=>⟨o.slots,k b o (λ z=>hc (by simp[z])) e⟩) (λ _ _ _ _ n=>n)
  (λ b o hc e=>⟨o,k b o (λ z=>hc (by simp[z])) e⟩) (λ _ _ e=>e) (λ _ _ _ e=>e) (λ b ps e=>⟨#[],by rw[e];simp⟩) (λ m hm=>?_) (λ b u e=>?_) I.bare
 ·have e:b=it:=by simpa using hb
  subst e;exact⟨h1,hL,h2,h3⟩
 ·obtain⟨o,es,ep,ho,r⟩:=hm;exact⟨o,es,ep,k _ o (Ne.symm hL) ho,r⟩
 ·refine (I.hok b u e).stay (λ c v hc q=>k c v ?_ q) (λ _ q=>q) (λ _ _ q=>q) λ _ _ _ _ q=>q;rcases hc with z |z
  ·rw[z];exact nit b u e
  ·exact nit c _ z
theorem Inv.tok (I:Inv X pins σ H s) (t:Nat):Inv X pins σ H {s with toks:=t}:=I.un (h':=s.heap) (t':=t) Un.refl I.hok
theorem Inv.kept (I:Inv X pins σ H s) (k:∀b u,s.heap.get? b=some u->h'.get? b=some u):Inv X pins σ H {s with heap:=h',toks:=t'}:=I.un (Un.kept k) (I.hok.kept k)
theorem Inv.laid {a:Addr} (I:Inv X pins σ H s) (k:∀b u,s.heap.get? b=some u->h'.get? b=some u) (hp:s.heap.objs.size<=a) (new:ObjOk X.prog X.w (upd H a o) h' a o):
  Inv X pins σ (upd H a o) {s with heap:=h',toks:=t'}:=I.un (Un.laid k hp (I.hok.fresh hp)) (I.hok.laid k hp new)
theorem Inv.write {x e:Addr} (I:Inv X pins σ H s) (mu:Mut (H x)) (he:e=x\/H e=some (.own x)) (k:∀b u,b≠e->s.heap.get? b=some u->h'.get? b=some u) (heo:∃u,h'.get? e=some u)
  (new:ObjOk X.prog X.w (upd H x o) h' x o):Inv X pins σ (upd H x o) {s with heap:=h',toks:=t'}:=I.un (Un.write mu he k heo) (I.hok.write mu he k heo new)
theorem Inv.pins_of {pins':List (Addr×Obj)} (I:Inv X pins σ H s) (h:∀p∈pins',s.heap.get? p.1=some p.2/\H p.1=none/\p.1≠X.env.locals/\p.1∉X.fs/\∀v,p.2.data≠.cell v):Inv X pins' σ H s:=
 ⟨I.ok,I.os,I.bare,I.base,I.loc,I.cell,I.free,I.freeC,λ p hp=>(List.mem_append.mp hp).elim (λ z=>I.pin p (List.mem_append_left _ z)) (h p),I.hok,I.len⟩
theorem nodup_ix (hN:N.Nodup) {i j:Nat} {x:Str} (a:N[i]?=some x) (b:N[j]?=some x):i=j:=by
 obtain⟨h1,e1⟩:=z1b a;obtain⟨h2,e2⟩:=z1b b;exact (List.getElem_inj hN).mp (e1.trans e2.symm)
theorem store_ok2 {i:Nat} {x:Str} {v:V} {u:Value} (I:Inv X pins σ H s) (hN:X.N.Nodup) (hi:X.N[i]?=some x) (hx:Loc X.env.scope x) (r:RelV v u)
  (h:∀s',Inv X pins (σ.set i (some v)) H s'->(∃a,Heap.SameBut a s.heap s'.heap/\(a=X.env.locals\/X.env.cells.lookup x=some a))->Q () s') (hf:X.fn x=true\/X.env.scope.names.lookup x=some .local:=by first |exact .inl rfl |exact .inr rfl |assumption):wpAny M A (storeName X.env x u) Q E s:=by
 obtain⟨m,hn,hl⟩:=id I.loc;have hcls:(X.env.scope.kind == .class || (X.env.scope.kind == .module && X.env.locals !=X.env.globals))=false:=by rw[I.ok.kind];rfl
 have hiσ:i < σ.length:=by rw[I.len];exact (z1b hi).1
 have cne:=I.cne;have tracked:∀{a:Addr} {h':Heap},(∃o,s.heap.get? a=some o/\H a=none)->Heap.SameBut a s.heap h'->HOk X.prog X.w H h':=λ {a h'} ha hs b ob e=>by
  obtain⟨_,_,hfree⟩:=ha;refine (I.hok b ob e).stay (λ c w' hc q=>(hs.2 c ?_).trans q) (λ _ q=>q) (λ _ _ q=>q) λ _ _ _ _ q=>q
  rintro rfl
  rcases hc with rfl |hc
  ·rw[hfree] at e;cases e
  ·rw[hfree] at hc;cases hc
 rcases hx with hk |hk
 ·refine wpAny_storeName_local hk hn (λ h' hn' hs=>?_) hcls;obtain⟨oL,_,_,hoL,_⟩:=id hn;refine h _ ⟨I.ok,I.os,I.bare,⟨λ b o e n hb hx=>?_,λ b o e n hb hx=>?_,I.base.free,λ b o e hx=>?_,I.base.tups,I.base.frzs,I.base.tbls⟩,⟨_,hn',λ j y v' e1 e2 e3=>?_⟩,λ y c e=>?_,I.free,I.freeC,λ p hp=>?_,tracked ⟨oL,hoL,I.free⟩ hs,by simpa using I.len⟩ ⟨_,hs,.inl rfl⟩
  ·exact (hs.2 b (Nat.ne_of_lt (z0d (z2c e) I.ok.above))).trans (I.base.keep b o e n hb hx)
  ·obtain⟨sl,e1⟩:=I.base.slot b o e n hb hx;exact⟨sl,(hs.2 b (Nat.ne_of_lt (z0d (z2c e) I.ok.above))).trans e1⟩
  ·obtain⟨o',e1⟩:=I.base.there b o e hx;exact⟨o',(hs.2 b (Nat.ne_of_lt (z0d (z2c e) I.ok.above))).trans e1⟩
  ·by_cases hj:j=i
   ·subst hj;rw[hi] at e1;cases e1;rw[z2a hiσ] at e2;cases e2;exact⟨u,r,.inl ⟨hk,by simp⟩⟩
   ·rw[z1e (Ne.symm hj)] at e2;obtain⟨u',r',q⟩:=hl j y v' e1 e2 e3;refine⟨u',r',?_⟩;rcases q with⟨k,e⟩ |⟨k,c,e,z⟩
    ·refine .inl ⟨k,?_⟩;have:y≠x:=λ e=>hj (nodup_ix hN e1 (e▸hi));simp[this,e]
    ·exact .inr ⟨k,c,e,z.sameBut hs (cne y c e)⟩
  ·obtain⟨w',z⟩:=I.cell y c e;exact⟨w',z.sameBut hs (cne y c e)⟩
  ·obtain⟨e,n,ne,nf,d⟩:=I.pin p hp;exact⟨(hs.2 p.1 ne).trans e,n,ne,nf,d⟩
 ·have hfn:X.fn x=true:=by
   rcases hf with z |z
   ·exact z
   ·rw[z] at hk;cases hk
  obtain⟨c,hc⟩:=I.ok.has x (.inl hk);obtain⟨w',z⟩:=I.cell x c hc;refine wpAny_storeName_cell I.ok.kind hk hc z (λ h' hc' hs=>?_);obtain⟨oc,hoc,hocd⟩:=id z;refine h {s with heap:=h'} ⟨I.ok,I.os,I.bare,⟨λ b o e n hb hx=>?_,λ b o e n hb hx=>?_,I.base.free,λ b o e hx=>?_,I.base.tups,I.base.frzs,I.base.tbls⟩,⟨m,hn.sameBut hs (Ne.symm (cne x c hc)),λ j y v' e1 e2 e3=>?_⟩,λ y c' e=>?_,I.free,I.freeC,λ p hp=>?_,tracked ⟨oc,hoc,I.freeC x c hc⟩ hs,by simpa using I.len⟩ ⟨c,hs,.inr hc⟩
  ·exact (hs.2 b (Nat.ne_of_lt (z0d (z2c e) (I.ok.cab x c hfn hc)))).trans (I.base.keep b o e n hb hx)
  ·obtain⟨sl,e1⟩:=I.base.slot b o e n hb hx;exact⟨sl,(hs.2 b (Nat.ne_of_lt (z0d (z2c e) (I.ok.cab x c hfn hc)))).trans e1⟩
  ·obtain⟨o',e1⟩:=I.base.there b o e hx;exact⟨o',(hs.2 b (Nat.ne_of_lt (z0d (z2c e) (I.ok.cab x c hfn hc)))).trans e1⟩
  ·by_cases hj:j=i
   ·subst hj;rw[hi] at e1;cases e1;rw[z2a hiσ] at e2;cases e2;exact⟨u,r,.inr ⟨.inl hk,c,hc,hc'⟩⟩
   ·rw[z1e (Ne.symm hj)] at e2;obtain⟨u',r',q⟩:=hl j y v' e1 e2 e3;refine⟨u',r',?_⟩;rcases q with q |⟨k,c',e,z'⟩
    ·exact .inl q
    ·refine .inr ⟨k,c',e,z'.sameBut hs ?_⟩
     rintro rfl
     exact hj (nodup_ix hN e1 (I.ok.inj _ _ _ e hc▸hi))
  ·by_cases hcc:c'=c
   ·subst hcc;exact⟨_,hc'⟩
   ·obtain⟨w2,z2⟩:=I.cell y c' e;exact⟨w2,z2.sameBut hs hcc⟩
  ·obtain⟨e,n,ne,nf,d⟩:=I.pin p hp;refine⟨(hs.2 p.1 ?_).trans e,n,ne,nf,d⟩;intro q;rw[q,hoc] at e;have q':oc=p.2:=Option.some.inj e;exact d w' (by rw[<-q'];exact hocd)
theorem store_ok {i:Nat} {x:Str} {v:V} {u:Value} (I:Inv X pins σ H s) (hN:X.N.Nodup) (hi:X.N[i]?=some x) (hx:Loc X.env.scope x) (r:RelV v u)
  (h:∀s',Inv X pins (σ.set i (some v)) H s'->Q () s') (hf:X.fn x=true\/X.env.scope.names.lookup x=some .local:=by first |exact .inl rfl |exact .inr rfl |assumption):wpAny M A (storeName X.env x u) Q E s:=
 store_ok2 I hN hi hx r (λ s' I' _=>h s' I') hf
theorem Inv.call' {s':Shared} (I:Inv X pins σ H s) (ho:s'.os=s.os) (u:Un (frs X.stack) ch H H' s.heap s'.heap) (hok:HOk X.prog X.w H' s'.heap) (hg:AllBare s'.gens)
  (hch:∀b∈ch,(b∈X.ex\/X.s₀.heap.objs.size<=b)/\b≠X.env.locals/\(∀x c,X.env.cells.lookup x=some c->c≠b)/\∀p∈X.pn++pins,p.1≠b):Inv X pins σ H' s':=by
 obtain⟨h',g',d',t',o'⟩:=s';have e:o'=s.os:=ho;subst e;exact I.call (g':=g') (t':=t') (d':=d') u hok hg hch
end
abbrev XK:=Value->Option Addr->Hp->Prop
abbrev St:=List (Option V)
abbrev VK:=V->Hp->Prop
abbrev TE:=St->Hp->VK->Prop
abbrev TT:=St->Hp->(Bool->Hp->Prop)->Prop
abbrev TA:=St->Hp->(List V->Hp->Prop)->Prop
structure Ends where
 nx:St->Hp->Prop
 rt:VK
 bk:St->Hp->Prop:=λ _ _=>False
 ct:St->Hp->Prop:=λ _ _=>False
abbrev TS:=Ends->St->Hp->Prop
inductive EP (X:Cx) (pins:List (Addr×Obj)) (σ:St) (Q:VK) (u:Value) (s':Shared):Prop
 |mk (v:V) (H':Hp) (I:Inv X pins σ H' s') (r:RelV v u) (q:Q v H'):EP X pins σ Q u s'
inductive TP (X:Cx) (pins:List (Addr×Obj)) (σ:St) (Q:Bool->Hp->Prop) (b:Bool) (s':Shared):Prop
 |mk (H':Hp) (I:Inv X pins σ H' s') (q:Q b H'):TP X pins σ Q b s'
inductive AP (X:Cx) (pins:List (Addr×Obj)) (σ:St) (Q:List V->Hp->Prop) (us:List Value) (s':Shared):Prop
 |mk (vs:List V) (H':Hp) (I:Inv X pins σ H' s') (r:Vals vs us) (q:Q vs H'):AP X pins σ Q us s'
inductive M7 (X:Cx) (pins:List (Addr×Obj)) (D:St->Hp->Prop) (s':Shared):Prop
 |mk (σ':St) (H':Hp) (I:Inv X pins σ' H' s') (d:D σ' H'):M7 X pins D s'
inductive SPr (X:Cx) (pins:List (Addr×Obj)) (D:V->Hp->Prop) (u:Value) (s':Shared):Prop
 |mk (v:V) (σ':St) (H':Hp) (I:Inv X pins σ' H' s') (r:RelV v u) (d:D v H'):SPr X pins D u s'
def SP (X:Cx) (pins:List (Addr×Obj)) (D:Ends) (f:Flow) (s':Shared):Prop:=
 match f with
 | .next=>M7 X pins D.nx s'
 | .brk=>M7 X pins D.bk s'
 | .cont=>M7 X pins D.ct s'
 | .ret u=>SPr X pins D.rt u s'
def PE (X:Cx) (e:Expr) (t:TE):Prop:=
 ∀(pins:List (Addr×Obj)) (s:Shared) (σ:St) (H:Hp) (Q:VK),Inv X pins σ H s->t σ H Q->wpAny (model X.prog X.w) X.A (eval e X.env) (EP X pins σ Q) X.xe s
def PT (X:Cx) (e:Expr) (t:TT):Prop:=
 ∀(pins:List (Addr×Obj)) (s:Shared) (σ:St) (H:Hp) (Q:Bool->Hp->Prop),Inv X pins σ H s->t σ H Q->wpAny (model X.prog X.w) X.A (isTrue e X.env (eval e X.env)) (TP X pins σ Q) X.xe s
def PW (X:Cx) (e:Expr) (t:TT):Prop:=
 ∀(whole:Sem Value) (pins:List (Addr×Obj)) (s:Shared) (σ:St) (H:Hp) (Q:Bool->Hp->Prop),Inv X pins σ H s->t σ H Q->wpAny (model X.prog X.w) X.A (isTrue e X.env whole) (TP X pins σ Q) X.xe s
def PA (X:Cx) (es:List Expr) (t:TA):Prop:=
 ∀(pos:Pos) (pins:List (Addr×Obj)) (s:Shared) (σ:St) (H:Hp) (Q:List V->Hp->Prop),Inv X pins σ H s->t σ H Q->wpAny (model X.prog X.w) X.A (spliced (backTo pos (starEach es X.env))) (AP X pins σ Q) X.xe s
def PS (X:Cx) (st:Stmt) (t:TS):Prop:=
 ∀(pins:List (Addr×Obj)) (s:Shared) (σ:St) (H:Hp) (D:Ends),Inv X pins σ H s->t D σ H->wpAny (model X.prog X.w) X.A (exec st X.env) (SP X pins D) X.xe s
def PSs (X:Cx) (st:List Stmt) (t:TS):Prop:=
 ∀(pins:List (Addr×Obj)) (s:Shared) (σ:St) (H:Hp) (D:Ends),Inv X pins σ H s->t D σ H->wpAny (model X.prog X.w) X.A (execs st X.env) (SP X pins D) X.xe s
theorem thn {α:Type} {t:Sem α} {Q Q':α->Shared->Prop} (h:wpAny M A t Q E s) (hQ:∀a s,Q a s->Q' a s):wpAny M A t Q' E s:=wpAny_mono h hQ λ _ _ x=>x
section
variable {X:Cx}
theorem bin {a b:Expr} {ta tb:TE} (ha:PE X a ta) (hb:PE X b tb) {R:V->V->Hp->Prop} (I:Inv X pins σ H s) (h:ta σ H λ x H1=>tb σ H1 λ y H2=>R x y H2)
  {α:Type} {Q:α->Shared->Prop} {f:Value->Value->Sem α}
  (hf:∀v u s2 x y H2,Inv X pins σ H2 s2->RelV x v->RelV y u->R x y H2->wpAny (model X.prog X.w) X.A (f v u) Q X.xe s2):
  wpAny (model X.prog X.w) X.A (eval a X.env) (λ v s₁=>wpAny (model X.prog X.w) X.A (eval b X.env) (λ u s₂=>wpAny (model X.prog X.w) X.A (f v u) Q X.xe s₂) X.xe s₁) X.xe s:=by
 refine thn (ha pins s σ H _ I h) λ v s1 bA=>?_;obtain⟨x,H1,I1,r1,q1⟩:=bA;refine thn (hb pins s1 σ H1 _ I1 q1) λ u s2 bA=>?_;obtain⟨y,H2,I2,r2,q2⟩:=bA;exact hf v u s2 x y H2 I2 r1 r2 q2
def tVar (i:Nat):TE:=λ σ H Q=>∃v,σ[i]?=some (some v)/\Q v H
def tC (v:V):TE:=λ _ H Q=>Q v H
theorem pe_var {i:Nat} {x:Str} {pos:Pos} (hN:X.N[i]?=some x) (hv:Vis X.env.scope x) (hd:(x ==("__debug__" :Str))=false:=by decide) (hcd:(x ==("__classdict__" :Str))=false:=by decide):PE X (.Name x pos) (tVar i):=by
 intro pins s σ H Q I h;obtain⟨v,e,h⟩:=h;obtain⟨m,hn,hl⟩:=I.loc;obtain⟨u,r,l⟩:=hl i x v hN e hv;have fin:EP X pins σ Q u s:=⟨v,H,I,r,h⟩;rcases l with⟨hk,hm⟩ |⟨hk,c,hc,hcell⟩
 ·exact wpAny_Name (wpAny_loadName_local I.ok.kind hk hn hm fin) hd
 ·rcases hk with hk |hk
  ·exact wpAny_Name (wpAny_loadName_cell I.ok.kind hk hc hcell fin) hd
  ·exact wpAny_Name (wpAny_loadName_free I.ok.kind hk hc hcell fin hcd) hd
theorem pe_int {i j pos}:PE X (.Constant (.int i) j pos) (tC (.int i)):=λ _ _ _ H _ I h=>wpAny_Constant_int ⟨.int i,H,I.tok _,⟨_,rfl⟩,h⟩
theorem pe_bl {b j pos}:PE X (.Constant (.bool b) j pos) (tC (.bl b)):=λ _ _ _ H _ I h=>Constant_bool ⟨.bl b,H,I,rfl,h⟩
theorem pe_non {j pos}:PE X (.Constant .none j pos) (tC .non):=λ _ _ _ H _ I h=>Constant_none ⟨.non,H,I,rfl,h⟩
theorem pe_str {x j pos}:PE X (.Constant (.str x) j pos) (tC (.str x)):=λ _ _ _ H _ I h=>Calls.Constant_str ⟨.str x,H,I.tok _,⟨_,rfl⟩,h⟩
def Gl (X:Cx) (x:Str):Prop:=X.env.kindOf x=some .globalImplicit
theorem ld_glob {x:Str} {u:Value} {pos:Pos} {Q:Value->Shared->Prop} (I:Inv X pins σ H s) (hg:Gl X x) (hm:X.mg x=some u) (h:Q u s)
  (hd:(x ==("__debug__" :Str))=false:=by decide):wpAny (model X.prog X.w) X.A (eval (.Name x pos) X.env) Q E s:=
 Calls.Name_function_global I.ok.kind hg (Calls.loadGlobal_global (by rw[I.ok.glob];exact I.mod.glob.keeps I.bk) hm h) hd
theorem ld_blt {x:Str} {u:Value} {pos:Pos} {Q:Value->Shared->Prop} (I:Inv X pins σ H s) (hg:Gl X x) (hm:X.mg x=none) (hv:bootBuiltins x=some u) (h:Q u s)
  (hn:x≠"__name__" :=by decide) (hd:(x ==("__debug__" :Str))=false:=by decide):wpAny (model X.prog X.w) X.A (eval (.Name x pos) X.env) Q E s:=by
 obtain⟨mb,h1,h2⟩:=I.mod.blt;exact Calls.Name_function_global I.ok.kind hg (Calls.loadGlobal_builtin (by rw[I.ok.glob];exact I.mod.glob.keeps I.bk) hm (by rw[I.ok.blt];exact h1.keeps I.bk) ((h2 x hn).trans hv) h) hd
theorem pe_glob {x:Str} {v:V} {u:Value} {pos:Pos} (hg:Gl X x) (hm:X.mg x=some u) (r:RelV v u) (hd:(x ==("__debug__" :Str))=false:=by decide):PE X (.Name x pos) (tC v):=
 λ _ _ _ H _ I h=>ld_glob I hg hm ⟨v,H,I,r,h⟩ hd
theorem pe_bltn {x:Str} {v:V} {u:Value} {pos:Pos} (hg:Gl X x) (hm:X.mg x=none) (hv:bootBuiltins x=some u) (r:RelV v u) (hn:x≠"__name__" :=by decide) (hd:(x ==("__debug__" :Str))=false:=by decide):PE X (.Name x pos) (tC v):=
 λ _ _ _ H _ I h=>ld_blt I hg hm hv ⟨v,H,I,r,h⟩ hn hd
variable {a b:Expr} {ta tb:TE} {pos:Pos}
def PC (X:Cx) (op:CmpOp) (a b:Expr) (t:TE):Prop:=
 ∀ (pins:List (Addr×Obj)) (s:Shared) (σ:St) (H:Hp) (Q:VK),Inv X pins σ H s->t σ H Q->
  wpAny (model X.prog X.w) X.A (eval a X.env) (λ v s₁=>wpAny (model X.prog X.w) X.A (eval b X.env) (λ u s₂=>wpAny (model X.prog X.w) X.A (compareOp op v u) (EP X pins σ Q) X.xe s₂) X.xe s₁) X.xe s
theorem nobehind (b:Expr) {op:CmpOp} (h:op≠.In) (h2:op≠.NotIn):behindInMarks op b=false:=by
 have e1:(op ==CmpOp.In)=false:=by cases op <;> first |rfl |exact absurd rfl h
 have e2:(op ==CmpOp.NotIn)=false:=by cases op <;> first |rfl |exact absurd rfl h2
 cases b <;> simp[behindInMarks,e1,e2]
def tB (t:TE):TT:=λ σ H Q=>t σ H λ x H1=>∃c,x= .bl c/\Q c H1
theorem pt_cmp {op:CmpOp} {t:TE} (h:PC X op a b t) (h1:behindInMarks op b=false:=by first |exact nobehind _ (by decide) (by decide) |rfl):PT X (.Compare a [op] [b] pos) (tB t):=by
 intro pins s σ H Q I hw;refine wpAny_isTrue_Compare1 (thn (h pins s σ H _ I hw) λ v s1 h1=>thn h1 λ u s2 h2=>thn h2 λ c s3 ⟨x,H1,I1,r1,q1⟩=>?_) h1;obtain⟨d,rfl,q⟩:=q1;cases r1;exact wpAny_truthy_bool ⟨H1,I1,q⟩
theorem pt_val {t:TE} (h:PE X e t) (he:∀whole,isTrue e X.env whole=(do let v <-whole;standAt e.pos;holding [v] (truthy v)):=by intro _;rfl):PT X e (tB t):=by
 intro pins s σ H Q I hw;refine isTrue_plain (thn (h pins s σ H _ I hw) λ v s1 ⟨x,H1,I1,r1,q1⟩=>?_) (he _);obtain⟨d,rfl,q⟩:=q1;cases r1;exact wpAny_truthy_bool ⟨H1,I1,q⟩
variable {tA tB':TT} {rest:List Expr}
def tAnd (t u:TT):TT:=λ σ H Q=>t σ H λ c H1=>if c=true then u σ H1 Q else Q false H1
def tOr (t u:TT):TT:=λ σ H Q=>t σ H λ c H1=>if c=true then Q true H1 else u σ H1 Q
def tNot (t:TT):TT:=λ σ H Q=>t σ H λ c H1=>Q (!c) H1
theorem pw_and1 (ha:PT X a tA):PW X (.BoolOp .And [a] pos) tA:=by
 intro wh pins s σ H Q I h;refine isTrue_and (thn (ha pins s σ H Q I h) λ c s1 e=>?_);cases c with
 |true=>exact isTrue_and_nil e
 |false=>exact e
theorem pw_or1 (ha:PT X a tA):PW X (.BoolOp .Or [a] pos) tA:=by
 intro wh pins s σ H Q I h;refine isTrue_or (thn (ha pins s σ H Q I h) λ c s1 e=>?_);cases c with
 |false=>exact isTrue_or_nil e
 |true=>exact e
theorem pw_and (ha:PT X a tA) (hb:PW X (.BoolOp .And (b::rest) pos) tB'):PW X (.BoolOp .And (a::b::rest) pos) (tAnd tA tB'):=by
 intro wh pins s σ H Q I h;refine isTrue_and (thn (ha pins s σ H _ I h) λ c s1 bA=>?_);obtain⟨H1,I1,q1⟩:=bA;cases c with
 |true=>exact hb wh pins s1 σ H1 Q I1 q1
 |false=>exact⟨H1,I1,q1⟩
theorem pw_or (ha:PT X a tA) (hb:PW X (.BoolOp .Or (b::rest) pos) tB'):PW X (.BoolOp .Or (a::b::rest) pos) (tOr tA tB'):=by
 intro wh pins s σ H Q I h;refine isTrue_or (thn (ha pins s σ H _ I h) λ c s1 bA=>?_);obtain⟨H1,I1,q1⟩:=bA;cases c with
 |true=>exact⟨H1,I1,q1⟩
 |false=>exact hb wh pins s1 σ H1 Q I1 q1
theorem pt_not (ha:PT X a tA):PT X (.UnaryOp .Not a pos) (tNot tA):=by
 intro pins s σ H Q I h;refine isTrue_not (thn (ha pins s σ H (λ c H1=>Q (!c) H1) I h) λ c s1 hz=>?_);obtain⟨H1,I1,q1⟩:=hz;exact⟨H1,I1,q1⟩
def tAndV (ta tb:TE):TE:=λ σ H Q=>ta σ H λ x H1=>∃c,x= .bl c/\if c=true then tb σ H1 Q else Q (.bl false) H1
def tNotV (ta:TE):TE:=λ σ H Q=>ta σ H λ x H1=>∃c,x= .bl c/\Q (.bl (!c)) H1
theorem pe_one {op} {t:TE} (h:PE X a t):PE X (.BoolOp op [a] pos) t:=λ pins s σ H Q I hw=>BoolOp_one (h pins s σ H Q I hw)
theorem pe_and (ha:PE X a ta) (hb:PE X (.BoolOp .And (b::rest) pos) tb):PE X (.BoolOp .And (a::b::rest) pos) (tAndV ta tb):=by
 intro pins s σ H Q I h;refine BoolOp_and (thn (ha pins s σ H _ I h) λ v s1 bA=>?_);obtain⟨x,H1,I1,r1,q1⟩:=bA;obtain⟨c,rfl,q1⟩:=q1;cases r1;refine wpAny_truthy_bool ?_;cases c with
 |true=>exact hb pins s1 σ H1 Q I1 q1
 |false=>exact⟨.bl false,H1,I1,rfl,q1⟩
theorem pe_not (ha:PE X a ta):PE X (.UnaryOp .Not a pos) (tNotV ta):=by
 intro pins s σ H Q I h;refine UnaryOp_ (thn (ha pins s σ H _ I h) λ v s1 bA=>?_);obtain⟨x,H1,I1,r1,q1⟩:=bA;obtain⟨c,rfl,q1⟩:=q1;cases r1;exact not_of (wpAny_truthy_bool ⟨.bl (!c),H1,I1,rfl,q1⟩)
def tIf (t:TT) (ta tb:TE):TE:=λ σ H Q=>t σ H λ c H1=>if c=true then ta σ H1 Q else tb σ H1 Q
theorem pe_ifExp {c:Expr} (hc:PT X c tA) (ha:PE X a ta) (hb:PE X b tb):PE X (.IfExp c a b pos) (tIf tA ta tb):=by
 intro pins s σ H Q I h;refine wpAny_IfExp (thn (hc pins s σ H _ I h) λ d s1 bA=>?_);obtain⟨H1,I1,q1⟩:=bA;cases d with
 |true=>exact ha pins s1 σ H1 Q I1 q1
 |false=>exact hb pins s1 σ H1 Q I1 q1
end
def SqL (K:PySem.W.Frag) (H:Hp) (a:Addr) (xs:List V):Prop:=
 Rd H a (.lst xs)\/
  ∃(o:Obj) (its:Array Value) (n:Nat),K.lookup a=some o/\o.cls= .type "list"/\o.dict=none/\o.data= .seq its n/\its.size<=sizeLine/\Vals xs its.toList
def SqT (K:PySem.W.Frag) (H:Hp) (a:Addr) (xs:List V):Prop:=
 Rd H a (.tup xs)\/
  ∃(o:Obj) (its:Array Value) (n:Nat),K.lookup a=some o/\o.cls= .type "tuple"/\o.dict=none/\o.data= .seq its n/\its.size<=sizeLine/\Vals xs its.toList
def absV:Value->Option V
 | .none=>some .non
 | .bool b=>some (.bl b)
 | .int i _=>some (.int i)
 | .str x _=>some (.str x)
 | .bytes b _=>some (.byt b)
 | .float b _=>some (.flt b)
 | .ref a=>some (.ref a)
 | .type n=>some (.ty n)
 |_=>none
theorem RelV.abs {x:V} {u:Value} (r:RelV x u):absV u=some x:=by
 cases x with
 |non=>cases r;rfl
 |bl _=>cases r;rfl
 |int _=>obtain⟨t,rfl⟩:=r;rfl
 |str _=>obtain⟨t,rfl⟩:=r;rfl
 |byt _=>obtain⟨t,rfl⟩:=r;rfl
 |flt _=>obtain⟨t,rfl⟩:=r;rfl
 |ref _=>cases r;rfl
 |ty _=>cases r;rfl
theorem RelV.inj {x y:V} {u:Value} (r:RelV x u) (q:RelV y u):x=y:=Option.some.inj (r.abs.symm.trans q.abs)
theorem Vals.inj:∀{xs ys:List V} {us:List Value},Vals xs us->Vals ys us->xs=ys
 :=by
 intro xs ys us h
 induction h generalizing ys with
 |nil=>intro q;cases q;rfl
 |cons r t ih=>intro q;cases q with |cons r' t'=>rw[r.inj r',ih t']
section
variable {X:Cx} {pins:List (Addr×Obj)} {σ:St} {H:Hp} {s:Shared} {a:Addr} {xs ys:List V}
theorem SqL.of (h:H a=some (.lst xs)):SqL K H a xs:= .inl (.inl h)
theorem SqT.of (h:H a=some (.tup xs)):SqT K H a xs:= .inl (.inl h)
theorem Inv.list (I:Inv X pins σ H s) (h:SqL X.K H a xs):∃its:List Value,Vals xs its/\PlainL s.heap a its.toArray/\xs.length<=sizeLine:=by
 rcases h with h |⟨o,its,n,hk,hc,hd,hs,hz,r⟩
 ·obtain⟨z,its,n,r,e⟩:=h.ok I.hok;exact⟨its,r,⟨_,n,e,rfl,rfl,rfl⟩,z⟩
 ·refine⟨its.toList,r,⟨o,n,I.kIn a o hk,hc,hd,by simpa using hs⟩,?_⟩;have e:=r.length;simp only[Array.length_toList] at e;omega
theorem Inv.tuple (I:Inv X pins σ H s) (h:SqT X.K H a xs):∃its:List Value,Vals xs its/\IsTup s.heap a its.toArray/\xs.length<=sizeLine:=by
 rcases h with h |⟨o,its,n,hk,hc,_,hs,hz,r⟩
 ·obtain⟨z,its,r,p⟩:=h.ok I.hok;exact⟨its,r,p.tup,z⟩
 ·refine⟨its.toList,r,⟨o,I.kIn a o hk,hc,n,by simpa using hs⟩,?_⟩;have e:=r.length;simp only[Array.length_toList] at e;omega
theorem Inv.list_inj (I:Inv X pins σ H s) (h:SqL X.K H a xs) (h':SqL X.K H a ys):xs=ys:=by
 obtain⟨its,r,⟨o,n,e,_,_,d⟩,_⟩:=I.list h;obtain⟨its',r',⟨o',n',e',_,_,d'⟩,_⟩:=I.list h';rw[e] at e';cases e';rw[d] at d';injection d' with d1 _;have:its=its':=by simpa using congrArg Array.toList d1
 subst this;exact r.inj r'
theorem Inv.tuple_inj (I:Inv X pins σ H s) (h:SqT X.K H a xs) (h':SqT X.K H a ys):xs=ys:=by
 obtain⟨its,r,⟨o,e,_,n,d⟩,_⟩:=I.tuple h;obtain⟨its',r',⟨o',e',_,n',d'⟩,_⟩:=I.tuple h';rw[e] at e';cases e';rw[d] at d';injection d' with d1 _;have:its=its':=by simpa using congrArg Array.toList d1
 subst this;exact r.inj r'
end
abbrev Cx.wish (X:Cx) (E:Value->Shared->Prop):Cx:={X with xe:=E}
abbrev Cx.nox (X:Cx):Cx:=X.wish λ _ _=>False
theorem Cx.Ok.wish {X:Cx} (ok:X.Ok) (E:Value->Shared->Prop):(X.wish E).Ok:=
 ⟨ok.mod,ok.kind,ok.glob,ok.blt,ok.above,ok.inj,ok.has,ok.cab,ok.hd,ok.frames,ok.stk,ok.exf,ok.bs,ok.bsz,ok.noex,ok.exfs,ok.funs,ok.frf⟩
theorem Cx.Ok.unwish {X:Cx} (ok:(X.wish E).Ok):X.Ok:=
 ⟨ok.mod,ok.kind,ok.glob,ok.blt,ok.above,ok.inj,ok.has,ok.cab,ok.hd,ok.frames,ok.stk,ok.exf,ok.bs,ok.bsz,ok.noex,ok.exfs,ok.funs,ok.frf⟩
section
variable {X:Cx} {pins:List (Addr×Obj)} {σ:St} {H:Hp} {s:Shared} {E:Value->Shared->Prop}
theorem Inv.wish (I:Inv X pins σ H s) (E:Value->Shared->Prop):Inv (X.wish E) pins σ H s:=⟨I.ok.wish E,I.os,I.bare,I.base,I.loc,I.cell,I.free,I.freeC,I.pin,I.hok,I.len⟩
theorem Inv.unwish (I:Inv (X.wish E) pins σ H s):Inv X pins σ H s:=⟨I.ok.unwish,I.os,I.bare,I.base,I.loc,I.cell,I.free,I.freeC,I.pin,I.hok,I.len⟩
theorem SP.unwish {D:Ends} {f:Flow} {s':Shared} (h:SP (X.wish E) pins D f s'):SP X pins D f s':=by
 cases f with
 |next=>obtain⟨σ',H',I,q⟩:=h;exact⟨σ',H',I.unwish,q⟩
 |brk=>obtain⟨σ',H',I,q⟩:=h;exact⟨σ',H',I.unwish,q⟩
 |cont=>obtain⟨σ',H',I,q⟩:=h;exact⟨σ',H',I.unwish,q⟩
 |ret u=>obtain⟨v,σ',H',I,r,q⟩:=h;exact⟨v,σ',H',I.unwish,r,q⟩
theorem PSs.nox {st:List Stmt} {t:TS} (h:PSs X.nox st t):PSs X st t:=λ pins s σ H D I hw=>
 wpAny_mono (h pins s σ H D (I.wish _) hw) (λ _ _ q=>q.unwish) λ _ _ z=>False.elim z
end
section
variable {X:Cx} {st:Stmt} {rest:List Stmt} {t u:TS} {e:Expr} {te:TE} {pos:Pos}
def tNext:TS:=λ D σ H=>D.nx σ H
def tSeq (t u:TS):TS:=λ D σ H=>t {D with nx:=u D} σ H
theorem pss_nil:PSs X [] tNext:=λ _ _ σ H _ I h=>wpAny_execs_nil ⟨σ,H,I,h⟩
theorem pss_cons (h1:PS X st t) (h2:PSs X rest u):PSs X (st::rest) (tSeq t u):=by
 intro pins s σ H D I h;refine wpAny_execs_cons (thn (h1 pins s σ H {D with nx:=u D} I h) λ f s1 q=>?_);cases f with
 | next=>
  obtain⟨σ',H',I',q⟩:=q;exact h2 pins s1 σ' H' D I' q
 |ret v=>exact q
 |brk=>exact q
 |cont=>exact q
theorem pss_one (h1:PS X st t):PSs X [st] t:=by
 intro pins s σ H D I h;refine wpAny_execs_cons (thn (h1 pins s σ H D I h) λ f s1 q=>?_);cases f with
 |next=>exact wpAny_execs_nil q
 |ret v=>exact q
 |brk=>exact q
 |cont=>exact q
theorem Inv.quiet (I:Inv X pins σ H s):interactive X.env=false:=by simp[interactive,I.ok.kind]
def tDrop (te:TE):TS:=λ D σ H=>te σ H λ _ H1=>D.nx σ H1
theorem ps_expr (he:PE X e te) (hs:swapsWith e none pos.line X.env=pure false:=by rfl):PS X (.Expr e pos) (tDrop te):=by
 intro pins s σ H D I h;exact wpAny_Expr_any (thn (he pins s σ H _ I h) λ v s1 ⟨x,H1,I1,r1,q1⟩=>⟨σ,H1,I1,q1⟩) I.quiet hs
def tRet (te:TE):TS:=λ D σ H=>te σ H D.rt
theorem ps_ret (he:PE X e te):PS X (.Return (some e) pos) (tRet te):=by
 intro pins s σ H D I h;exact wpAny_Return_some (thn (he pins s σ H _ I h) λ v s1 ⟨x,H1,I1,r1,q1⟩=>⟨x,σ,H1,I1,r1,q1⟩)
def tIfS (c:TT) (t u:TS):TS:=λ D σ H=>c σ H λ b H1=>if b=true then t D σ H1 else u D σ H1
theorem ps_if {c:Expr} {a b:List Stmt} {tc:TT} (hc:PT X c tc) (ha:PSs X a t) (hb:PSs X b u):PS X (.If c a b pos) (tIfS tc t u):=by
 intro pins s σ H D I h;refine wpAny_If (thn (hc pins s σ H _ I h) λ d s1 bA=>?_);obtain⟨H1,I1,q1⟩:=bA;cases d with
 |true=>exact ha pins s1 σ H1 D I1 q1
 |false=>exact hb pins s1 σ H1 D I1 q1
end
abbrev TG:=V->St->Hp->(St->Hp->Prop)->Prop
abbrev TGs:=List V->St->Hp->(St->Hp->Prop)->Prop
def PG (X:Cx) (target:Expr) (t:TG):Prop:=
 ∀ (pins:List (Addr×Obj)) (s:Shared) (σ:St) (H:Hp) (v:V) (u:Value) (Q:St->Hp->Prop),Inv X pins σ H s->RelV v u->t v σ H Q->
  wpAny (model X.prog X.w) X.A (assign target X.env u) (λ _ s'=>M7 X pins Q s') X.xe s
def PGs (X:Cx) (ts:List Expr) (t:TGs):Prop:=
 ∀ (pins:List (Addr×Obj)) (s:Shared) (σ:St) (H:Hp) (vs:List V) (us:List Value) (Q:St->Hp->Prop),Inv X pins σ H s->Vals vs us->t vs σ H Q->
  wpAny (model X.prog X.w) X.A (assignInOrder ((assignEach ts X.env).map (·.2)) us) (λ _ s'=>M7 X pins Q s') X.xe s
abbrev TSet:=V->V->V->Hp->(Hp->Prop)->Prop
def PSet (X:Cx) (t:TSet):Prop:=
 ∀ (pins:List (Addr×Obj)) (s:Shared) (σ:St) (H:Hp) (o i v:V) (ov iv u:Value) (Q:Hp->Prop),Inv X pins σ H s->RelV o ov->RelV i iv->RelV v u->t o i v H Q->
  wpAny (model X.prog X.w) X.A (setItem ov iv u) (λ _ s'=>∃H',Inv X pins σ H' s'/\Q H') X.xe s
abbrev TIp:=V->V->Hp->VK->Prop
def PIp (X:Cx) (op:Operator) (t:TIp):Prop:=
 ∀ (pins:List (Addr×Obj)) (s:Shared) (σ:St) (H:Hp) (x y:V) (v u:Value) (Q:VK),Inv X pins σ H s->RelV x v->RelV y u->t x y H Q->
  wpAny (model X.prog X.w) X.A (inplaceOp op v u) (EP X pins σ Q) X.xe s
section
variable {X:Cx} {pos:Pos}
def gName (i:Nat):TG:=λ v σ H Q=>Q (σ.set i (some v)) H
theorem pg_name {i:Nat} {x:Str} (hN:X.N.Nodup) (hi:X.N[i]?=some x) (hx:Loc X.env.scope x) (hf:X.fn x=true\/X.env.scope.names.lookup x=some .local:=by first |exact .inl rfl |exact .inr rfl |assumption):PG X (.Name x pos) (gName i):=by
 intro pins s σ H v u Q I r h;exact wpAny_assign_Name (store_ok I hN hi hx r (λ s' I'=>⟨_,H,I',h⟩) hf)
def gNil:TGs:=λ vs σ H Q=>vs=[]/\Q σ H
def gCons (t:TG) (u:TGs):TGs:=λ vs σ H Q=>∃v r,vs=v::r/\t v σ H λ σ' H'=>u r σ' H' Q
theorem pgs_nil:PGs X [] gNil:=by
 intro pins s σ H vs us Q I r h;obtain⟨e,h⟩:=h;subst e;cases r;exact assignInOrder_nil ⟨σ,H,I,h⟩
theorem pgs_cons {es:List Expr} {t:TG} {u:TGs} (h1:PG X e t) (h2:PGs X es u)
  (hs:(assignEach (e::es) X.env).map (·.2)=assign e X.env::(assignEach es X.env).map (·.2):=by rfl):PGs X (e::es) (gCons t u):=by
 intro pins s σ H vs us Q I r h;obtain⟨v,vr,e1,h⟩:=h;subst e1;cases r with
 | cons r rr=>
  rw[hs];refine assignInOrder_cons (thn (h1 pins s σ H _ _ _ I r h) λ _ s1 bA=>?_);obtain⟨σ1,H1,I1,q1⟩:=bA;exact h2 pins s1 σ1 H1 _ _ Q I1 rr q1
def gTup (K:PySem.W.Frag) (n:Nat) (t:TGs):TG:=λ v σ H Q=>∃a xs,v= .ref a/\SqT K H a xs/\xs.length=n/\t xs σ H Q
theorem pg_tup {es:List Expr} {t:TGs} {n:Nat} (hc:X.calm=true) (h:PGs X es t)
  (hn:(assignEach es X.env).length=n:=by rfl) (hst:(assignEach es X.env).findIdx? (·.1)=none:=by rfl):PG X (.Tuple es k pos) (gTup X.K n t):=by
 intro pins s σ H v u Q I r hw;obtain⟨a,xs,e1,hq,hl,hw⟩:=hw;subst e1;cases r;obtain⟨its,rv,ht,hz⟩:=I.tuple hq;refine assign_Tuple_tuple (I.ok.hd hc) ht (by simp[hn,<-hl,rv.length]) hst λ h' hx=>?_;have I1:Inv X pins σ H {s with heap:=h'}:=I.kept (t':=s.toks) λ b o e=>hx b o (Nat.ne_of_lt (z2c e)) e;exact h pins _ σ H xs _ Q I1 (by simpa using rv) hw
def gSub (to ti:TE) (t:TSet):TG:=λ v σ H Q=>to σ H λ o H1=>ti σ H1 λ i H2=>t o i v H2 λ H3=>Q σ H3
theorem pg_sub {o i:Expr} {to ti:TE} {t:TSet} (ho:PE X o to) (hi:PE X i ti) (hs:PSet X t)
  (ha:∀v,assign (.Subscript o i pos) X.env v=(do
   let ov <-holding [v] (eval o X.env)
   let iv <-holding [v,ov] (eval i X.env)
   standAt pos
   holding [v,ov,iv] (setItem ov iv v)
   release [v,ov,iv] []):=by intro _;rfl):PG X (.Subscript o i pos) (gSub to ti t):=by
 intro pins s σ H v u Q I r h;rw[ha];refine wpAny_bind (wpAny_holding (thn (ho pins s σ H _ I h) λ ov s1 bA=>?_));obtain⟨x,H1,I1,r1,q1⟩:=bA;refine wpAny_bind (wpAny_holding (thn (hi pins s1 σ H1 _ I1 q1) λ iv s2 bA=>?_));obtain⟨y,H2,I2,r2,q2⟩:=bA;refine wpAny_bind (wpAny_standAt (wpAny_bind (wpAny_holding (thn (hs pins s2 σ H2 x y v ov iv u _ I2 r1 r2 r q2) λ _ s3 bA=>?_))));obtain⟨H3,I3,q3⟩:=bA;exact wpAny_release ⟨σ,H3,I3,q3⟩
def tAsg (te:TE) (g:TG):TS:=λ D σ H=>te σ H λ x H1=>g x σ H1 D.nx
theorem ps_asg {te:TE} {g:TG} (he:PE X e te) (hg:PG X tg g) (hs:swapsWithSole [tg] e pos.line X.env=pure false:=by rfl) (hw:swappedStores [tg] e X.env=pure none:=by rfl)
  (h1:(assignEach [tg] X.env).map (·.2)=[assign tg X.env]:=by rfl):PS X (.Assign [tg] e pos) (tAsg te g):=by
 intro pins s σ H D I h;refine wpAny_Assign_stores (thn (he pins s σ H _ I h) λ v s1 ⟨x,H1,I1,r1,q1⟩=>?_) hs hw;rw[h1];exact thn (hg pins s1 σ H1 x v _ I1 r1 q1) λ _ s2 q=>q
theorem ps_set {i:Nat} {x:Str} {te:TE} {pos':Pos} (hN:X.N.Nodup) (hi:X.N[i]?=some x) (hx:Loc X.env.scope x) (he:PE X e te) (hs:swapsWith e (some (.Name x pos')) pos.line X.env=pure false:=by rfl) (hf:X.fn x=true\/X.env.scope.names.lookup x=some .local:=by first |exact .inl rfl |exact .inr rfl |assumption):
  PS X (.Assign [.Name x pos'] e pos) (tAsg te (gName i)):=by
 intro pins s σ H D I h;refine wpAny_Assign_Name (thn (he pins s σ H _ I h) λ v s1 ⟨y,H1,I1,r1,q1⟩=>?_) hs;exact store_ok I1 hN hi hx r1 (λ s2 I2=>⟨_,H1,I2,q1⟩) hf
def tPar (i j:Nat) (ta:TA):TS:=λ D σ H=>ta σ H λ vs H1=>∃v w,vs=[v,w]/\D.nx ((σ.set i (some v)).set j (some w)) H1
theorem ps_par {i j:Nat} {x y:Str} {a b:Expr} {ta:TA} {px py pt:Pos} {kt k2 pt2} (hc:X.calm=true) (hN:X.N.Nodup) (hi:X.N[i]?=some x) (hj:X.N[j]?=some y) (hij:i≠j)
  (hx:X.env.scope.names.lookup x=some .local) (hy:X.env.scope.names.lookup y=some .local) (ha:PA X [a,b] ta)
  (hw:swappedStores [.Tuple [.Name x px,.Name y py] kt pt] (.Tuple [a,b] k2 pt2) X.env=pure (some [x,y]))
  (hs:swapsWithSole [.Tuple [.Name x px,.Name y py] kt pt] (.Tuple [a,b] k2 pt2) pos.line X.env=pure false:=by rfl):
  PS X (.Assign [.Tuple [.Name x px,.Name y py] kt pt] (.Tuple [a,b] k2 pt2) pos) (tPar i j ta):=by
 intro pins s σ H D I h;rw[exec_Assign_arm];refine wpAny_bind (wpAny_standAt ?_);rw[hs];refine wpAny_bind (wpAny_pure ?_);rw[if_neg (by decide)];refine wpAny_bind (Tuple_ (thn (ha _ pins s σ H _ I h) λ us s1 bA=>?_));obtain⟨vs,H1,I1,r1,q1⟩:=bA;obtain⟨v,w,e1,q1⟩:=q1;subst e1;obtain⟨u1,u2,rfl,rv,rw'⟩:∃u1 u2,us=[u1,u2]/\RelV v u1/\RelV w u2:=by
  cases r1 with
  | cons p q=>
   cases q with
   | cons p' q'=>
    cases q';exact⟨_,_,rfl,p,p'⟩
 refine wpAny_newObj_type ?_ (by show 2<=sizeLine;decide);have I2:Inv X pins σ H1 {s1 with heap:=s1.heap.push {cls:= .type "tuple",data:= .seq [u1,u2].toArray}}:=I1.kept (t':=s1.toks) λ b o e=>z1a _ e;rw[hw];refine wpAny_bind (wpAny_pure ?_);show wpAny (model X.prog X.w) X.A (do rule "assign.swapped-stores";let items <-unpackItems (.ref s1.heap.objs.size) 2 none;assignInOrder [λ v=>bindName X.env y v,λ v=>bindName X.env x v] items.reverse;pure Flow.next) _ _ _;refine wpAny_bind (wpAny_rule (wpAny_bind (unpackItems_tuple (items:= #[u1,u2]) (I.ok.hd hc) (IsTup.new s1.heap _) λ h' hx'=>?_)));have I3:=I2.kept (h':=h') (t':=s1.toks) λ b o e=>hx' b o (Nat.ne_of_lt (z2c e)) e;show wpAny _ _ (assignInOrder [λ v=>bindName X.env y v,λ v=>bindName X.env x v] [u2,u1] >>=λ _=>pure Flow.next) _ _ _;refine wpAny_bind (assignInOrder_cons (wpAny_bindName (store_ok I3 hN hj (.inl hy) rw' (λ s2 I4=>?_) (.inr hy))));refine assignInOrder_cons (wpAny_bindName (store_ok I4 hN hi (.inl hx) rv (λ s3 I5=>assignInOrder_nil (wpAny_pure ?_)) (.inr hx)));rw[List.set_comm _ _ (Ne.symm hij)] at I5;exact⟨_,H1,I5,q1⟩
def tAug (i:Nat) (te:TE) (ti:TIp):TS:=λ D σ H=>∃x,σ[i]?=some (some x)/\te σ H λ y H1=>ti x y H1 λ z H2=>D.nx (σ.set i (some z)) H2
theorem ps_aug {i:Nat} {x:Str} {te:TE} {op:Operator} {ti:TIp} {pos':Pos} (hN:X.N.Nodup) (hi:X.N[i]?=some x) (hx:Loc X.env.scope x) (he:PE X e te) (ho:PIp X op ti) (hf:X.fn x=true\/X.env.scope.names.lookup x=some .local:=by first |exact .inl rfl |exact .inr rfl |assumption):
  PS X (.AugAssign (.Name x pos') op e pos) (tAug i te ti):=by
 intro pins s σ H D I h;obtain⟨v,e1,h⟩:=h;obtain⟨m,hn,hl⟩:=I.loc;have vis:Vis X.env.scope x:=by rcases hx with k |k;exact .inl k;exact .inr (.inl k)
 obtain⟨u,r,l⟩:=hl i x v hi e1 vis;refine wpAny_AugAssign_Name ?_;have go:wpAny (model X.prog X.w) X.A (eval e X.env) (λ w s₂=>wpAny (model X.prog X.w) X.A (inplaceOp op u w) (λ r s₃=>wpAny (model X.prog X.w) X.A (storeName X.env x r) (λ _=>SP X pins D .next) X.xe s₃) X.xe s₂) X.xe s:=by
  refine thn (he pins s σ H _ I h) λ w s1 bA=>?_;obtain⟨y,H1,I1,r1,q1⟩:=bA;refine thn (ho pins s1 σ H1 v y u w _ I1 r r1 q1) λ z s2 bA=>?_;obtain⟨zv,H2,I2,r2,q2⟩:=bA;exact store_ok I2 hN hi hx r2 (λ s3 I3=>⟨_,H2,I3,q2⟩) hf
 rcases l with⟨hk,hm⟩ |⟨hk,c,hc,hcell⟩
 ·exact wpAny_loadName_local I.ok.kind hk hn hm go
 ·rcases hk with hk |hk
  ·exact wpAny_loadName_cell I.ok.kind hk hc hcell go
  ·rcases hx with k |k
   ·have:X.env.scope.names.lookup x=some .free:=hk;rw[k] at this;cases this
   ·have:X.env.scope.names.lookup x=some .free:=hk;rw[k] at this;cases this
def ipI (f:Int->Int->Int):TIp:=λ x y H Q=>∃i j,x= .int i/\y= .int j/\Q (.int (f i j)) H
theorem ip_add:PIp X .Add (ipI λ i j=>i+j):=by
 intro pins s σ H x y v u Q I r1 r2 h;obtain⟨i,j,e1,e2,q⟩:=h;subst e1;subst e2;obtain⟨t,rfl⟩:=r1;obtain⟨t',rfl⟩:=r2;exact iadd_int ⟨.int _,H,I.tok _,⟨_,rfl⟩,q⟩
end
section
variable {X:Cx} {pos:Pos}
def tWhile (c:TT) (tb:TS):TS:=λ D σ H=>∃W:Nat->St->Hp->Prop,(∃m,W m σ H)/\∀m σ H,W m σ H->
 c σ H λ b H1=>if b=true then ∃N:St->Hp->Prop,(∀σ' H',N σ' H'->∃m',m' < m/\W m' σ' H')/\tb {D with nx:=N,ct:=N,bk:=D.nx} σ H1 else D.nx σ H1
theorem ps_while {c:Expr} {tc:TT} {tb:TS} (hp:PassesOwn (model X.prog X.w) X.A X.env X.xe) (hc:PT X c tc) (hb:PSs X body tb):PS X (.While c body [] pos) (tWhile tc tb):=by
 intro pins s σ H D I h;obtain⟨W,⟨m0,w0⟩,turn⟩:=h;refine wpAny_While (codeAny_whileLoop (λ n s'=>∃σ' H',Inv X pins σ' H' s'/\W n σ' H') ?_ m0 ⟨σ,H,I,w0⟩)
 rintro n s1 ⟨σ1,H1,I1,w1⟩
 refine wpAny_passesOwn hp (thn (hc pins s1 σ1 H1 _ I1 (turn n σ1 H1 w1)) λ b s2 bA=>?_);obtain⟨H2,I2,q2⟩:=bA;cases b with
 | true=>
  obtain⟨N,hN,q2⟩:=q2;rw[if_pos rfl];refine wpAny_passesOwn hp (thn (hb pins s2 σ1 H2 _ I2 q2) λ f s3 q3=>?_);cases f with
  | next=>
   obtain⟨σ3,H3,I3,n3⟩:=q3;obtain⟨m',hm,w3⟩:=hN σ3 H3 n3;exact⟨m',hm,σ3,H3,I3,w3⟩
  | cont=>
   obtain⟨σ3,H3,I3,n3⟩:=q3;obtain⟨m',hm,w3⟩:=hN σ3 H3 n3;exact⟨m',hm,σ3,H3,I3,w3⟩
  |brk=>exact q3
  |ret v=>exact q3
 | false=>
  rw[if_neg Bool.false_ne_true];exact wpAny_execs_nil ⟨σ1,H2,I2,q2⟩
end
structure It where
 go:Nat->Hp->Prop
 yld:Nat->Hp->V->Hp->Prop
 stop:Nat->Hp->Prop
def FpOk (X:Cx) (pins:List (Addr×Obj)) (H:Hp) (b:Addr):Prop:=
 H b=none/\b≠X.env.locals/\b∉X.fs/\(b∈X.ex\/X.s₀.heap.objs.size<=b)/\(∀x c,X.env.cells.lookup x=some c->c≠b)/\∀p∈X.pn++pins,p.1≠b
theorem Inv.fpOk {X:Cx} {H':Hp} {b:Addr} (I:Inv X pins σ H s) (hb:s.heap.objs.size<=b) (hn:H' b=none):FpOk X pins H' b:=by
 refine⟨hn,Nat.ne_of_gt (z0d I.lt hb),I.nofs hb,.inr (z0b I.sz hb),λ x c e z=>?_,λ p hp z=>?_⟩
 ·obtain⟨v,q⟩:=I.cell x c e;exact absurd (z0d q.lt (by rw[z];exact hb)) (Nat.lt_irrefl _)
 ·exact absurd (z0d (z2c (I.pin p hp).1) (by rw[z];exact hb)) (Nat.lt_irrefl _)
inductive Xv (X:Cx) (pins:List (Addr×Obj)) (σ:St) (H:Hp) (J:It) (tn:Nat->Heap->Prop) (fp:List Addr) (i:Nat) (u:Value) (s2:Shared):Prop
 |mk (x:V) (H':Hp) (I:Inv X pins σ H' s2) (r:RelV x u) (y:J.yld i H x H') (st:tn (i+1) s2.heap) (f:∀b∈fp,H' b=none):Xv X pins σ H J tn fp i u s2
structure Turn (P:Program) (w:World) (K:PySem.W.Frag) (tg:Expr) (J:It) (fp:List Addr) (it:Addr) (tn:Nat->Heap->Prop):Prop where
 mem:it∈fp
 obj:∀i h,tn i h->∀b∈fp,∃o,h.get? b=some o/\∀v,o.data≠.cell v
 keep:∀i h h',tn i h->(∀b∈fp,∀o,h.get? b=some o->h'.get? b=some o)->tn i h'
 item:∀(X:Cx),X.prog=P->X.w=w->X.K=K->X.calm=true->∀(i:Nat) (pins:List (Addr×Obj)) (s:Shared) (σ:St) (H:Hp) (E:Value->Shared->Prop),Inv X pins σ H s->(∀b∈fp,FpOk X pins H b)->tn i s.heap->J.go i H->
  wpAny (model P w) X.A (pyNext (.ref it)) (λ r s1=>∃u,r=some u/\
   wpAny (model P w) X.A (letOwnedTupleGo tg (.ref it) u) (λ _ s2=>Xv X pins σ H J tn fp i u s2) E s1) E s
 done:∀(X:Cx),X.prog=P->X.w=w->X.K=K->X.calm=true->∀(i:Nat) (pins:List (Addr×Obj)) (s:Shared) (σ:St) (H:Hp) (E:Value->Shared->Prop),Inv X pins σ H s->(∀b∈fp,FpOk X pins H b)->tn i s.heap->J.stop i H->
  wpAny (model P w) X.A (pyNext (.ref it)) (λ r s1=>r=none/\Inv X pins σ H s1) E s
 self:∀(A:Around) (i:Nat) (s:Shared) (Q:Value->Shared->Prop) (E:Value->Shared->Prop),tn i s.heap->Q (.ref it) s->wpAny (model P w) A (pyIter (.ref it)) Q E s
abbrev TI:=St->Hp->(It->Hp->Prop)->Prop
inductive PIE (X:Cx) (pins:List (Addr×Obj)) (σ:St) (tg:Expr) (R:It->Hp->Prop) (itv:Value) (s2:Shared):Prop
 |mk (it:Addr) (fp:List Addr) (tn:Nat->Heap->Prop) (J:It) (H':Hp) (e:itv= .ref it) (I:Inv X pins σ H' s2) (T:Turn X.prog X.w X.K tg J fp it tn) (st:tn 0 s2.heap) (f:∀b∈fp,FpOk X pins H' b) (r:R J H'):PIE X pins σ tg R itv s2
def PI (X:Cx) (tg iter:Expr) (wi:TI):Prop:=
 ∀ (pins:List (Addr×Obj)) (s:Shared) (σ:St) (H:Hp) (R:It->Hp->Prop),Inv X pins σ H s->wi σ H R->
  wpAny (model X.prog X.w) X.A (eval iter X.env) (λ v s1=>wpAny (model X.prog X.w) X.A (pyIter v) (PIE X pins σ tg R) X.xe s1) X.xe s
theorem go_of {it:Addr} {u:Value} {o:Obj} {n:String} {vs:Array Value} (ho:s.heap.get? it=some o) (hc:o.cls= .type n) (hd:o.data= .fields vs)
  (hn:["enumerate","zip","dict_itemiterator","dict_reverseitemiterator","odict_iterator","itertools.zip_longest","itertools.pairwise"].contains n=false) (hQ:Q () s):wpAny M A (letOwnedTupleGo tg (.ref it) u) Q E s:=by
 unfold letOwnedTupleGo;cases tg <;> first
  |exact wpAny_pure hQ
  | (cases u <;> first
    |exact wpAny_pure hQ
    | (refine wpAny_bind (wpAny_load ho ?_)
       rw[hc,hd];show wpAny M A (if (["enumerate","zip","dict_itemiterator","dict_reverseitemiterator","odict_iterator","itertools.zip_longest","itertools.pairwise"].contains n && vs[0]? ==some (rawInt _))=true then _ else _) Q E s;rw[if_neg (by intro h;rw[hn,Bool.false_and] at h;cases h)];exact wpAny_pure hQ))
def Itl (K:PySem.W.Frag) (a:Addr):It:=
 ⟨λ i H=>∃xs x,SqL K H a xs/\xs[i]?=some x,λ i H x H'=>H'=H/\∀xs,SqL K H a xs->xs[i]?=some x,λ i H=>∃xs,SqL K H a xs/\xs.length<=i⟩
def Itt (K:PySem.W.Frag) (a:Addr):It:=
 ⟨λ i H=>∃xs x,SqT K H a xs/\xs[i]?=some x,λ i H x H'=>H'=H/\∀xs,SqT K H a xs->xs[i]?=some x,λ i H=>∃xs,SqT K H a xs/\xs.length<=i⟩
def Itr (lo:Int) (n:Nat):It:=⟨λ i _=>i < n,λ i H x H'=>H'=H/\x= .int (lo+i),λ i _=>n<=i⟩
theorem turn_list (a it:Addr):Turn P w K tg (Itl K a) [it] it (λ i h=>h.IsListIter it a i) where
 mem:=by simp
 obj:=λ i h st b hb=>by
  have e:b=it:=by simpa using hb
  subst e;obtain⟨o,e,c,d⟩:=st;exact⟨o,e,λ v z=>by rw[d] at z;cases z⟩
 keep:=λ i h h' st k=>st.at λ o e=>k it (by simp) o e
 item:=by
  intro X hP hw hK hc i pins s σ H E I hf st hg;subst hP hw hK;obtain⟨xs,x,hq,hx⟩:=hg;obtain⟨its,rv,p,hz⟩:=I.list hq;obtain⟨u,hu,ru⟩:=rv.get hx;obtain⟨f0,f1,f2,f3,f4,f5⟩:=hf it (by simp);refine wpAny_pyNext_list_item st p.isList (x:=u) (by simpa using hu) λ h' st' sb=>?_;have I1:Inv X pins σ H {s with heap:=h'}:=I.turned (t':=s.toks) (λ b o hb e=>(sb.2 b hb).trans e) f0 f1 f3 f4 f5;obtain⟨o,e,c,d⟩:=id st';exact⟨u,rfl,go_of (s:={s with heap:=h'}) e c d (by decide) ⟨x,H,I1,ru,⟨rfl,λ ys hy=>by rw[I.list_inj hy hq];exact hx⟩,st',λ b hb=>(hf b hb).1⟩⟩
 done:=by
  intro X hP hw hK hc i pins s σ H E I hf st hg;subst hP hw hK;obtain⟨xs,hq,hx⟩:=hg;obtain⟨its,rv,p,hz⟩:=I.list hq;obtain⟨f0,f1,f2,f3,f4,f5⟩:=hf it (by simp);have hl:=rv.length;exact wpAny_pyNext_list_end (I.ok.hd hc) st p.isList (by simp;omega) λ h' eb=>⟨rfl,I.turned (t':=s.toks) (λ b o hb e=>eb b o hb e) f0 f1 f3 f4 f5⟩
 self:=λ _ _ _ _ _ st h=>wpAny_pyIter_listiter st h
theorem turn_tuple (a it:Addr):Turn P w K tg (Itt K a) [it] it (λ i h=>h.IsTupleIter it a i) where
 mem:=by simp
 obj:=λ i h st b hb=>by
  have e:b=it:=by simpa using hb
  subst e;obtain⟨o,e,c,d⟩:=st;exact⟨o,e,λ v z=>by rw[d] at z;cases z⟩
 keep:=λ i h h' st k=>st.at λ o e=>k it (by simp) o e
 item:=by
  intro X hP hw hK hc i pins s σ H E I hf st hg;subst hP hw hK;obtain⟨xs,x,hq,hx⟩:=hg;obtain⟨its,rv,p,hz⟩:=I.tuple hq;obtain⟨u,hu,ru⟩:=rv.get hx;obtain⟨f0,f1,f2,f3,f4,f5⟩:=hf it (by simp);refine wpAny_pyNext_tuple_item st (show s.heap.IsTuple a its.toArray from p) (x:=u) (by simpa using hu) λ h' st' sb=>?_;have I1:Inv X pins σ H {s with heap:=h'}:=I.turned (t':=s.toks) (λ b o hb e=>(sb.2 b hb).trans e) f0 f1 f3 f4 f5;obtain⟨o,e,c,d⟩:=id st';exact⟨u,rfl,go_of (s:={s with heap:=h'}) e c d (by decide) ⟨x,H,I1,ru,⟨rfl,λ ys hy=>by rw[I.tuple_inj hy hq];exact hx⟩,st',λ b hb=>(hf b hb).1⟩⟩
 done:=by
  intro X hP hw hK hc i pins s σ H E I hf st hg;subst hP hw hK;obtain⟨xs,hq,hx⟩:=hg;obtain⟨its,rv,p,hz⟩:=I.tuple hq;obtain⟨f0,f1,f2,f3,f4,f5⟩:=hf it (by simp);have hl:=rv.length;exact wpAny_pyNext_tuple_end (I.ok.hd hc) st (show s.heap.IsTuple a its.toArray from p) (by simp;omega) λ h' eb=>⟨rfl,I.turned (t':=s.toks) (λ b o hb e=>eb b o hb e) f0 f1 f3 f4 f5⟩
 self:=λ _ _ _ _ _ st h=>wpAny_pyIter_tupleiter st h
theorem turn_range (it:Addr) (lo:Int) (n:Nat):Turn P w K tg (Itr lo n) [it] it (λ i h=>IsRangeIter h it (lo+(i:Nat)*1) ((n:Int) - (i:Nat)) 1) where
 mem:=by simp
 obj :=λ i h st b hb=>by
  have e:b=it:=by simpa using hb
  subst e;exact⟨_,st,λ v z=>by
   have z':Data.fields _=Data.cell v:=z;cases z'⟩
 keep:=λ i h h' st k=>k it (by simp) _ st
 item:=by
  intro X hP hw hK hc i pins s σ H E I hf st hg;subst hP hw hK;obtain⟨f0,f1,f2,f3,f4,f5⟩:=hf it (by simp);have W:=Walks.range (prog:=X.prog) (w:=X.w) (I.ok.hd hc) it lo 1 n;refine W.item i s _ _ hg st λ v h' tk hv st' kk=>?_;obtain⟨t,rfl⟩:=hv;have I1:Inv X pins σ H {s with heap:=h',toks:=tk}:=I.turned (λ b o hb e=>kk b o (by simpa using hb) e) f0 f1 f3 f4 f5;refine⟨_,rfl,go_of (s:={s with heap:=h',toks:=tk}) (n:= "range_iterator") st' rfl rfl (by decide) ⟨.int (lo+i),H,I1,⟨t,?_⟩,⟨rfl,rfl⟩,st',λ b hb=>(hf b hb).1⟩⟩;rw[Int.mul_one]
 done:=by
  intro X hP hw hK hc i pins s σ H E I hf st hg;subst hP hw hK;obtain⟨f0,f1,f2,f3,f4,f5⟩:=hf it (by simp);exact wpAny_pyNext_range_end (I.ok.hd hc) st (by have:n<=i:=hg;omega) λ h' eb=>⟨rfl,I.turned (t':=s.toks) (λ b o hb e=>eb b o hb e) f0 f1 f3 f4 f5⟩
 self:=λ _ _ _ _ _ st h=>wpAny_pyIter_rangeiter st h
section
variable {X:Cx} {tg:Expr}
theorem range_it {R:It->Hp->Prop} {lo hi:Int} {t u v:Tok} {tk:Nat} (I:Inv X pins σ H s) (h1: -(2 ^ 62)<=lo) (h2:lo < 2 ^ 62) (h3: -(2 ^ 62)<=hi) (h4:hi < 2 ^ 62)
  (q:R (Itr lo (hi - lo).toNat) H):wpAny (model X.prog X.w) X.A (pyIter (.ref s.heap.objs.size)) (PIE X pins σ tg R) E {s with heap:=s.heap.push {cls:= .type "range",data:= .fields #[.int lo t,.int hi u,.int 1 v]},toks:=tk}:=by
 refine wpAny_pyIter_range (IsRange.new ..) (small_one h1 h2 h3 h4) ?_;have I1:Inv X pins σ H {s with heap:=s.heap.push {cls:= .type "range",data:= .fields #[.int lo t,.int hi u,.int 1 v]},toks:=tk}:=I.kept λ b o e=>z1a _ e;refine⟨(s.heap.push {cls:= .type "range",data:= .fields #[.int lo t,.int hi u,.int 1 v]}).objs.size,[(s.heap.push {cls:= .type "range",data:= .fields #[.int lo t,.int hi u,.int 1 v]}).objs.size],_,_,H,rfl,
  I1.kept (t':=tk) λ b o e=>z1a _ e,turn_range _ lo (hi - lo).toNat,?_,λ b hb=>?_,q⟩
 ·have e1:lo+((0:Nat):Int)*1=lo:=by simp
  have e2:(((hi - lo).toNat:Nat):Int) - ((0:Nat):Int)=Builtin.Range.rangeSize lo hi 1:=by rw[rangeSize_one];split <;> omega
  show IsRangeIter _ _ (lo+((0:Nat):Int)*1) ((((hi - lo).toNat:Nat):Int) - ((0:Nat):Int)) 1;rw[e1,e2];exact z1f _ rfl
 ·have e:b=(s.heap.push {cls:= .type "range",data:= .fields #[.int lo t,.int hi u,.int 1 v]}).objs.size:=by simpa using hb
  subst e;exact I1.fpOk (z0g _) (I1.hok.fresh (z0g _))
def iRng1 (ta:TA):TI:=λ σ H R=>ta σ H λ vs H1=>∃j:Int,vs=[.int j]/\-(2 ^ 62)<=j/\j < 2 ^ 62/\R (Itr 0 j.toNat) H1
def iRng2 (ta:TA):TI:=λ σ H R=>ta σ H λ vs H1=>∃i j:Int,vs=[.int i,.int j]/\(-(2 ^ 62)<=i/\i < 2 ^ 62/\-(2 ^ 62)<=j/\j < 2 ^ 62)/\R (Itr i (j - i).toNat) H1
theorem pi_range1 {a:Expr} {ta:TA} {p pos:Pos} (hg:Gl X "range") (hm:X.mg "range" =none) (ha:PA X [a] ta) (hs:starEach [a] X.env=[(false,eval a X.env)]:=by rfl):PI X tg (.Call (.Name "range" p) [a] [] pos) (iRng1 ta):=by
 intro pins s σ H R I h;refine Call_ (ld_blt I hg hm boot_range (PyProof.Rows.callWith_type1 (thn (ha pos pins s σ H _ I h) λ us s1 ⟨vs,H1,I1,r1,q1⟩=>?_) hs rfl));obtain⟨j,e,q1,q2,q⟩:=q1;subst e;cases r1 with
 | cons r rr=>
  cases rr;obtain⟨t,rfl⟩:=r;exact call_range_1 (range_it I1 (by omega) (by omega) q1 q2 (by simpa using q))
theorem pi_range2 {a b:Expr} {ta:TA} {p pos:Pos} (hg:Gl X "range") (hm:X.mg "range" =none) (ha:PA X [a,b] ta) (hs:starEach [a,b] X.env=[(false,eval a X.env),(false,eval b X.env)]:=by rfl) (hs2:starEach [b] X.env=[(false,eval b X.env)]:=by rfl):
  PI X tg (.Call (.Name "range" p) [a,b] [] pos) (iRng2 ta):=by
 intro pins s σ H R I h;refine Call_ (ld_blt I hg hm boot_range (PyProof.Rows.callWith_type1 (thn (ha pos pins s σ H _ I h) λ us s1 ⟨vs,H1,I1,r1,q1⟩=>?_) (by rw[hs,hs2]) (by rw[hs2];rfl)));obtain⟨i,j,e,⟨q1,q2,q3,q4⟩,q⟩:=q1;subst e;cases r1 with
 | cons r rr=>
  cases rr with
  | cons r' rr=>
   cases rr;obtain⟨t,rfl⟩:=r;obtain⟨t',rfl⟩:=r';exact call_range_2 (range_it I1 q1 q2 q3 q4 q)
def tFor (wi:TI) (g:TG) (tb:TS):TS:=λ D σ H=>wi σ H λ J H1=>∃W:Nat->Nat->St->Hp->Prop,(∃m,W 0 m σ H1)/\∀i m σ H,W i m σ H->
 (J.stop i H/\D.nx σ H)\/(J.go i H/\∃N:St->Hp->Prop,(∀σ' H',N σ' H'->∃m',m' < m/\W (i+1) m' σ' H')/\∀x H',J.yld i H x H'->g x σ H' λ σ2 H2=>tb {D with nx:=N,ct:=N,bk:=D.nx} σ2 H2)
def pinsAt (fp:List Addr) (h:Heap):List (Addr×Obj):=fp.filterMap λ b=>(h.get? b).map λ o=>(b,o)
theorem mem_pinsAt {fp:List Addr} {b:Addr} {o:Obj} (hb:b∈fp) (e:h.get? b=some o):(b,o)∈pinsAt fp h:=List.mem_filterMap.mpr ⟨b,hb,by rw[e];rfl⟩
theorem of_pinsAt {fp:List Addr} {p:Addr×Obj} (hp:p∈pinsAt fp h):p.1∈fp/\h.get? p.1=some p.2:=by
 obtain⟨b,hb,e⟩:=List.mem_filterMap.mp hp;cases q:h.get? b with
 |none=>rw[q] at e;cases e
 | some o=>
  rw[q] at e;have e':(b,o)=p:=Option.some.inj e;subst e';exact⟨hb,q⟩
theorem Inv.pinned {fp:List Addr} (I:Inv X pins σ H s) (hf:∀b∈fp,FpOk X pins H b) (ho:∀b∈fp,∃o,s.heap.get? b=some o/\∀v,o.data≠.cell v):Inv X (pins++pinsAt fp s.heap) σ H s:=
 I.pins_of λ p hp=>(List.mem_append.mp hp).elim (λ z=>I.pin p (List.mem_append_right _ z)) λ z=>by
  obtain⟨hb,e⟩:=of_pinsAt z;obtain⟨f0,f1,f2,_⟩:=hf p.1 hb;obtain⟨o,e',d⟩:=ho p.1 hb;rw[e] at e';cases e';exact⟨e,f0,f1,f2,d⟩
theorem Inv.unpinned {pl:List (Addr×Obj)} (I:Inv X (pins++pl) σ H s):Inv X pins σ H s:=I.pins_of λ p hp=>I.pin p (List.mem_append_right _ (List.mem_append_left _ hp))
inductive Vw (X:Cx) (pins:List (Addr×Obj)) (tn:Nat->Heap->Prop) (fp:List Addr) (W:Nat->Nat->St->Hp->Prop) (n:Nat) (s':Shared):Prop
 |mk (i:Nat) (σ':St) (H':Hp) (I:Inv X pins σ' H' s') (st:tn i s'.heap) (fr:∀b∈fp,H' b=none) (w:W i n σ' H'):Vw X pins tn fp W n s'
theorem ps_for {iter:Expr} {wi:TI} {g:TG} {tb:TS} {pos:Pos} (hp:PassesOwn (model X.prog X.w) X.A X.env X.xe) (hc:X.calm=true) (hi:PI X tg iter wi) (hg:PG X tg g) (hb:PSs X body tb)
  (hs:∀x,foldedSetIterable iter X.env x=pure x:=by intro _;rfl):PS X (.For tg iter body [] pos) (tFor wi g tb):=by
 intro pins s σ H D I h;refine wpAny_For (thn (hi pins s σ H _ I h) λ v s1 h1=>thn h1 λ itv s2 h2=>?_) hs;obtain⟨it,fp,tn,J,H2,e,I2,T,st2,f2,W,⟨m0,w0⟩,turn⟩:=h2;subst e;have stat:∀{H':Hp},(∀b∈fp,H' b=none)->∀b∈fp,FpOk X pins H' b:=λ hn b hb=>⟨hn b hb,(f2 b hb).2⟩;refine codeAny_forLoop_any (λ n s'=>Vw X pins tn fp W n s') ?_ m0 ⟨0,σ,H2,I2,st2,λ b hb=>(f2 b hb).1,w0⟩
 rintro n s3 ⟨i,σ3,H3,I3,st3,fr3,w3⟩
 rcases turn i n σ3 H3 w3 with⟨stop,qn⟩ |⟨go,N,hN,step⟩
 ·refine wpAny_passesOwn hp (thn (T.done X rfl rfl rfl hc i pins s3 σ3 H3 X.xe I3 (stat fr3) st3 stop) λ r s4 bA=>?_);obtain⟨hr,I4⟩:=bA;subst hr;exact wpAny_execs_nil ⟨σ3,H3,I4,qn⟩
 ·refine wpAny_passesOwn hp (thn (T.item X rfl rfl rfl hc i pins s3 σ3 H3 X.xe I3 (stat fr3) st3 go) λ r s4 bA=>?_);obtain⟨u,hr,h4⟩:=bA;subst hr;refine wpAny_passesOwn hp (thn h4 λ _ s5 bA=>?_);obtain⟨x,H5,I5,r5,y5,st5,fr5⟩:=bA;have I5':=I5.pinned (stat fr5) (T.obj _ _ st5);refine wpAny_passesOwn hp (thn (hg _ s5 σ3 H5 x u _ I5' r5 (step x H5 y5)) λ _ s6 bA=>?_);obtain⟨σ6,H6,I6,q6⟩:=bA;refine wpAny_passesOwn hp (thn (hb _ s6 σ6 H6 _ I6 q6) λ f s7 q7=>?_);have again:∀{σ7:St} {H7:Hp},Inv X (pins++pinsAt fp s5.heap) σ7 H7 s7->N σ7 H7->∃m,m < n/\Vw X pins tn fp W m s7:=λ {σ7 H7} I7 n7=>by
   obtain⟨m',hm,w7⟩:=hN σ7 H7 n7;refine⟨m',hm,i+1,σ7,H7,I7.unpinned,T.keep _ _ _ st5 λ b hb o e=>(I7.pin (b,o) (List.mem_append_right _ (List.mem_append_right _ (mem_pinsAt hb e)))).1,λ b hb=>?_,w7⟩;obtain⟨o,e,d⟩:=T.obj _ _ st5 b hb;exact (I7.pin (b,o) (List.mem_append_right _ (List.mem_append_right _ (mem_pinsAt hb e)))).2.1
  cases f with
  |next=>obtain⟨σ7,H7,I7,n7⟩:=q7;exact again I7 n7
  |cont=>obtain⟨σ7,H7,I7,n7⟩:=q7;exact again I7 n7
  |brk=>obtain⟨σ7,H7,I7,q7⟩:=q7;exact⟨σ7,H7,I7.unpinned,q7⟩
  |ret v=>obtain⟨x7,σ7,H7,I7,r7,q7⟩:=q7;exact⟨x7,σ7,H7,I7.unpinned,r7,q7⟩
end
abbrev R2:=V->V->Hp->VK->Prop
def OpR (X:Cx) (f:Value->Value->Sem Value) (r:R2):Prop:=
 ∀ (pins:List (Addr×Obj)) (s:Shared) (σ:St) (H:Hp) (x y:V) (v u:Value) (Q:VK),Inv X pins σ H s->RelV x v->RelV y u->r x y H Q->
  wpAny (model X.prog X.w) X.A (f v u) (EP X pins σ Q) X.xe s
def UnR (X:Cx) (f:Value->Sem Value) (r:V->Hp->VK->Prop):Prop:=
 ∀ (pins:List (Addr×Obj)) (s:Shared) (σ:St) (H:Hp) (x:V) (v:Value) (Q:VK),Inv X pins σ H s->RelV x v->r x H Q->
  wpAny (model X.prog X.w) X.A (f v) (EP X pins σ Q) X.xe s
def CallR (X:Cx) (f:Value) (r:List V->Hp->VK->Prop):Prop:=
 ∀ (pins:List (Addr×Obj)) (s:Shared) (σ:St) (H:Hp) (xs:List V) (us:List Value) (Q:VK),Inv X pins σ H s->Vals xs us->r xs H Q->
  wpAny (model X.prog X.w) X.A (call f us) (EP X pins σ Q) X.xe s
def TruR (X:Cx) (r:V->Hp->(Bool->Hp->Prop)->Prop):Prop:=
 ∀ (pins:List (Addr×Obj)) (s:Shared) (σ:St) (H:Hp) (x:V) (v:Value) (Q:Bool->Hp->Prop),Inv X pins σ H s->RelV x v->r x H Q->
  wpAny (model X.prog X.w) X.A (truthy v) (TP X pins σ Q) X.xe s
def tOp (r:R2) (ta tb:TE):TE:=λ σ H Q=>ta σ H λ x H1=>tb σ H1 λ y H2=>r x y H2 Q
def tUn (r:V->Hp->VK->Prop) (ta:TE):TE:=λ σ H Q=>ta σ H λ x H1=>r x H1 Q
def rI (C:Int->Int->Prop) (g:Int->Int->V):R2:=λ x y H Q=>∃i j,x= .int i/\y= .int j/\C i j/\Q (g i j) H
def rI0 (g:Int->Int->V):R2:=λ x y H Q=>∃i j,x= .int i/\y= .int j/\Q (g i j) H
def rU (g:Int->V):V->Hp->VK->Prop:=λ x H Q=>∃i,x= .int i/\Q (g i) H
section
variable {X:Cx} {a b c:Expr} {ta tb tc:TE} {pos:Pos}
theorem binT (ha:PE X a ta) (hb:PE X b tb) {R:V->V->Hp->Prop} (I:Inv X pins σ H s)
  (h:ta σ H λ x H1=>tb σ H1 λ y H2=>R x y H2) {Q:Value->Shared->Prop}
  (hf:∀v u s2 x y H2,Inv X pins σ H2 s2->RelV x v->RelV y u->R x y H2->wpAny (model X.prog X.w) X.A (f v u) Q X.xe s2):
  wpAny (model X.prog X.w) X.A (eval a X.env) (λ v s₁=>wpAny (model X.prog X.w) X.A (eval b X.env) (λ u s₂=>wpAny (model X.prog X.w) X.A (f v u) Q X.xe s₂) X.xe s₁) X.xe s:=by
 refine thn (ha pins s σ H _ I h) λ v s1 bA=>?_;obtain⟨x,H1,I1,r1,q1⟩:=bA;refine thn (hb pins s1 σ H1 _ I1 q1) λ u s2 bA=>?_;obtain⟨y,H2,I2,r2,q2⟩:=bA;exact hf v u s2 x y H2 I2 r1 r2 q2
theorem pe_op {op:Operator} (ho:OpR X (binaryOp op) r) (ha:PE X a ta) (hb:PE X b tb):PE X (.BinOp a op b pos) (tOp r ta tb):=by
 intro pins s σ H Q I h;exact wpAny_BinOp (binT ha hb I h λ v u s2 x y H2 I2 rx ry q=>ho pins s2 σ H2 x y v u Q I2 rx ry q)
theorem pe_un {op:UnaryOp} {r:V->Hp->VK->Prop} (ho:UnR X (unaryOp op) r) (ha:PE X a ta):PE X (.UnaryOp op a pos) (tUn r ta):=by
 intro pins s σ H Q I h;exact UnaryOp_ (thn (ha pins s σ H _ I h) λ v s1 ⟨x,H1,I1,r1,q1⟩=>ho pins s1 σ H1 x v Q I1 r1 q1)
theorem opI {C:Int->Int->Prop} {g:Int->Int->Int}
  (rule:∀(i j:Int) (t u:Tok) (s:Shared) (Q:Value->Shared->Prop) (E:Value->Shared->Prop),C i j->Q (.int (g i j) s.toks) {s with toks:=s.toks+1}->wpAny (model X.prog X.w) X.A (f (.int i t) (.int j u)) Q E s):
  OpR X f (rI C λ i j=> .int (g i j)):=by
 intro pins s σ H x y v u Q I rx ry h;obtain⟨i,j,rfl,rfl,hc,q⟩:=h;obtain⟨t,rfl⟩:=rx;obtain⟨t',rfl⟩:=ry;exact rule i j t t' s _ _ hc ⟨.int (g i j),H,I.tok _,⟨_,rfl⟩,q⟩
theorem opI0 {g:Int->Int->Int}
  (rule:∀(i j:Int) (t u:Tok) (s:Shared) (Q:Value->Shared->Prop) (E:Value->Shared->Prop),Q (.int (g i j) s.toks) {s with toks:=s.toks+1}->wpAny (model X.prog X.w) X.A (f (.int i t) (.int j u)) Q E s):
  OpR X f (rI0 λ i j=> .int (g i j)):=by
 intro pins s σ H x y v u Q I rx ry h;obtain⟨i,j,rfl,rfl,q⟩:=h;obtain⟨t,rfl⟩:=rx;obtain⟨t',rfl⟩:=ry;exact rule i j t t' s _ _ ⟨.int (g i j),H,I.tok _,⟨_,rfl⟩,q⟩
theorem opB0 {g:Int->Int->Bool}
  (rule:∀(i j:Int) (t u:Tok) (s:Shared) (Q:Value->Shared->Prop) (E:Value->Shared->Prop),Q (.bool (g i j)) s->wpAny (model X.prog X.w) X.A (f (.int i t) (.int j u)) Q E s):
  OpR X f (rI0 λ i j=> .bl (g i j)):=by
 intro pins s σ H x y v u Q I rx ry h;obtain⟨i,j,rfl,rfl,q⟩:=h;obtain⟨t,rfl⟩:=rx;obtain⟨t',rfl⟩:=ry;exact rule i j t t' s _ _ ⟨.bl (g i j),H,I,rfl,q⟩
def CPow (i j:Int):Prop:=0<=j/\j<=1000000/\i.natAbs < 2 ^ 64
def CMul (i j:Int):Prop:=(-(2 ^ 64) < i/\i < 2 ^ 64)\/(-(2 ^ 64) < j/\j < 2 ^ 64)
theorem CMul.ok {i j:Int} (h:CMul i j):IntMulOk i j:=by
 rcases h with⟨h1,h2⟩ |⟨h1,h2⟩
 ·exact .of_left (intBits_le_64 h1 h2)
 ·exact .of_right (intBits_le_64 h1 h2)
theorem op_add:OpR X (binaryOp .Add) (rI0 λ i j=> .int (i+j)):=opI0 λ _ _ _ _ _ _ _ q=>add_int q
theorem op_sub:OpR X (binaryOp .Sub) (rI0 λ i j=> .int (i - j)):=opI0 λ _ _ _ _ _ _ _ q=>sub_int q
theorem op_mul:OpR X (binaryOp .Mult) (rI CMul λ i j=> .int (i*j)):=opI λ _ _ _ _ _ _ _ hc q=>mul_int q hc.ok
theorem op_mod:OpR X (binaryOp .Mod) (rI (λ _ j=>0 < j) λ i j=> .int (i % j)):=opI λ i j _ _ _ _ _ hc q=>by
 have h1:(0:Int) < j:=hc;exact mod_int' (by omega) (by rw[Int.fmod_eq_emod_of_nonneg i (by omega)];exact q)
theorem op_pow:OpR X (binaryOp .Pow) (rI CPow λ i j=> .int (i ^ j.toNat)):=opI λ _ _ _ _ _ _ _ hc q=>pow_int_small hc.1 hc.2.1 hc.2.2 q
theorem unI {f:Value->Sem Value} {g:Int->Int}
  (rule:∀(i:Int) (t:Tok) (s:Shared) (Q:Value->Shared->Prop) (E:Value->Shared->Prop),Q (.int (g i) s.toks) {s with toks:=s.toks+1}->wpAny (model X.prog X.w) X.A (f (.int i t)) Q E s):
  UnR X f (rU λ i=> .int (g i)):=by
 intro pins s σ H x v Q I rx h;obtain⟨i,rfl,q⟩:=h;obtain⟨t,rfl⟩:=rx;exact rule i t s _ _ ⟨.int (g i),H,I.tok _,⟨_,rfl⟩,q⟩
theorem un_neg:UnR X (unaryOp .USub) (rU λ i=> .int (-i)):=unI λ _ _ _ _ _ q=>neg_int q
end
section
variable {X:Cx} {a b c:Expr} {ta tb tc:TE} {pos:Pos}
theorem fin_bl {Q:VK} {k k':Bool} (I:Inv X pins σ H s) (q:Q (.bl k) H) (e:k=k'):EP X pins σ Q (.bool k') s:=by
 subst e;exact⟨.bl k,H,I,rfl,q⟩
theorem op_lt:OpR X (compareOp .Lt) (rI0 λ i j=> .bl (decide (i < j))):=opB0 λ _ _ _ _ _ _ _ q=>lt_int q
theorem op_le:OpR X (compareOp .LtE) (rI0 λ i j=> .bl (decide (i<=j))):=opB0 λ _ _ _ _ _ _ _ q=>le_int q
theorem op_gt:OpR X (compareOp .Gt) (rI0 λ i j=> .bl (decide (j < i))):=opB0 λ _ _ _ _ _ _ _ q=>gt_int q
theorem op_ge:OpR X (compareOp .GtE) (rI0 λ i j=> .bl (decide (j<=i))):=opB0 λ _ _ _ _ _ _ _ q=>ge_int q
theorem op_isN:OpR X (compareOp .Is) (λ x y H Q=>y= .non/\Q (.bl (decide (x= .non))) H):=by
 intro pins s σ H x y v u Q I rx ry h;obtain⟨rfl,q⟩:=h;cases ry;refine is_none_gen (fin_bl I q ?_);cases x <;> first
  |(cases rx;rfl)
  |(obtain⟨t,rfl⟩:=rx;rfl)
theorem OpR.or {r':R2} (h:OpR X f r) (h':OpR X f r'):OpR X f (λ x y H Q=>r x y H Q\/r' x y H Q):=by
 intro pins s σ H x y v u Q I rx ry q;rcases q with q |q
 ·exact h pins s σ H x y v u Q I rx ry q
 ·exact h' pins s σ H x y v u Q I rx ry q
theorem nomark (b:Expr) {op:CmpOp} (h:op≠.In:=by decide) (h2:op≠.NotIn:=by decide):behindInMarks op b=false:=by
 have e1:(op ==CmpOp.In)=false:=by cases op <;> first |rfl |exact absurd rfl h
 have e2:(op ==CmpOp.NotIn)=false:=by cases op <;> first |rfl |exact absurd rfl h2
 cases b <;> simp[behindInMarks,e1,e2]
theorem pe_cmpR {op:CmpOp} (ho:OpR X (compareOp op) r) (ha:PE X a ta) (hb:PE X b tb) (hm:behindInMarks op b=false):PE X (.Compare a [op] [b] pos) (tOp r ta tb):=by
 intro pins s σ H Q I h;exact wpAny_Compare1 (binT ha hb I h λ v u s2 x y H2 I2 rx ry q=>ho pins s2 σ H2 x y v u Q I2 rx ry q) hm
def tTest (t:TE):TT:=λ σ H Q=>t σ H λ x H'=>∃k,x= .bl k/\Q k H'
theorem pt_cmpR {op:CmpOp} (ho:OpR X (compareOp op) r) (ha:PE X a ta) (hb:PE X b tb) (hm:behindInMarks op b=false):PT X (.Compare a [op] [b] pos) (tTest (tOp r ta tb)):=by
 intro pins s σ H Q I h;refine wpAny_isTrue_Compare1 (thn (ha pins s σ H _ I h) λ v s1 ⟨x,H1,I1,r1,q1⟩=>thn (hb pins s1 σ H1 _ I1 q1) λ u s2 ⟨y,H2,I2,r2,q2⟩=>
  thn (ho pins s2 σ H2 x y v u _ I2 r1 r2 q2) λ c s3 ⟨z,H3,I3,r3,k,e,q3⟩=>?_) hm
 subst e;cases r3;exact wpAny_truthy_bool ⟨H3,I3,q3⟩
def tChain (r r':R2) (ta tb tc:TE):TE:=λ σ H Q=>ta σ H λ x H1=>tb σ H1 λ y H2=>r x y H2 λ z H3=>∃k,z= .bl k/\
 (if k=true then tc σ H3 λ w' H4=>r' y w' H4 Q else Q (.bl false) H3)
theorem pe_chain {op op':CmpOp} {r':R2} (ho:OpR X (compareOp op) r) (ho':OpR X (compareOp op') r') (ha:PE X a ta) (hb:PE X b tb) (hc:PE X c tc)
  (hm:lastMarks [op,op'] [b,c]=false:=by with_unfolding_all rfl):PE X (.Compare a [op,op'] [b,c] pos) (tChain r r' ta tb tc):=by
 intro pins s σ H Q I h;refine Compare_chain (thn (ha pins s σ H _ I h) λ v s1 ⟨x,H1,I1,r1,q1⟩=>chain_link (thn (hb pins s1 σ H1 _ I1 q1) λ u s2 ⟨y,H2,I2,r2,q2⟩=>
  thn (ho pins s2 σ H2 x y v u _ I2 r1 r2 q2) λ d s3 ⟨z,H3,I3,r3,k,e,q3⟩=>?_)) hm
 subst e;cases r3;refine wpAny_truthy_bool ?_;cases k with
 |false=>exact ite_ff ⟨.bl false,H3,I3,rfl,q3⟩
 |true=>exact ite_tt (chain_last (thn (hc pins s3 σ H3 _ I3 q3) λ w' s4 ⟨z',H4,I4,r4,q4⟩=>ho' pins s4 σ H4 y z' u w' Q I4 r2 r4 q4))
theorem pt_chain {op op':CmpOp} {r':R2} (ho:OpR X (compareOp op) r) (ho':OpR X (compareOp op') r') (ha:PE X a ta) (hb:PE X b tb) (hc:PE X c tc)
  (hm:lastMarks [op,op'] [b,c]=false:=by with_unfolding_all rfl):PT X (.Compare a [op,op'] [b,c] pos) (tTest (tChain r r' ta tb tc)):=by
 intro pins s σ H Q I h;refine isTrue_chain (thn (ha pins s σ H _ I h) λ v s1 ⟨x,H1,I1,r1,q1⟩=>test_link (thn (hb pins s1 σ H1 _ I1 q1) λ u s2 ⟨y,H2,I2,r2,q2⟩=>
  thn (ho pins s2 σ H2 x y v u _ I2 r1 r2 q2) λ d s3 ⟨z,H3,I3,r3,k,e,q3⟩=>?_)) hm
 subst e;cases r3;refine wpAny_truthy_bool ?_;cases k with
 | false=>
  obtain⟨k',e',q'⟩:=q3;cases e';exact ite_ff ⟨H3,I3,q'⟩
 | true=>
  refine ite_tt (test_last (thn (hc pins s3 σ H3 _ I3 q3) λ w' s4 ⟨z',H4,I4,r4,q4⟩=>thn (ho' pins s4 σ H4 y z' u w' _ I4 r2 r4 q4) λ d' s5 bA=>?_));obtain⟨z2,H5,I5,r5,k2,e2,q5⟩:=bA;subst e2;cases r5;exact wpAny_truthy_bool ⟨H5,I5,q5⟩
def TruV (K:PySem.W.Frag) (x:V) (H:Hp) (k:Bool):Prop:=
 match x with
 | .non=>k=false
 | .bl b=>k=b
 | .int i=>k=(i !=0)
 | .str y=>y.length<=sizeLine/\k=((y.length:Int) !=0)
 | .byt y=>y.size<=sizeLine/\k=((y.size:Int) !=0)
 | .ref p=>(∃xs,SqL K H p xs/\k= !xs.isEmpty)\/(∃xs,SqT K H p xs/\k= !xs.isEmpty)\/∃kvs,H p=some (.dK kvs)/\k= !kvs.isEmpty
 |_=>False
theorem isEmpty_kv {κ:Type} {kvs:List (κ×V)} {vs:List (κ×Value)} (r:KV kvs vs):(!vs.isEmpty)= !kvs.isEmpty:=by
 cases r <;> rfl
theorem isEmpty_of {xs:List V} {its:List Value} (r:Vals xs its):(!its.toArray.isEmpty)= !xs.isEmpty:=by
 cases r <;> simp
theorem line63:(sizeLine:Nat) < 2 ^ 63:=by rw[sizeLine_eq];decide
theorem tru_ok:TruR X (λ x H Q=>∃k,TruV X.K x H k/\Q k H):=by
 intro pins s σ H x v Q I rx h;obtain⟨k,e,q⟩:=h;have hl:=line63;have hs:sizeLine=16777216:=sizeLine_eq;cases x with
 | non=>
  cases rx;have e':k=false:=e;subst e';exact truthy_none ⟨H,I,q⟩
 | bl b=>
  cases rx;have e':k=b:=e;subst e';exact wpAny_truthy_bool ⟨H,I,q⟩
 | int i=>
  obtain⟨t,rfl⟩:=rx;have e':k=(i !=0):=e;subst e';exact PySem.P.truthy_int ⟨H,I,q⟩
 | str y=>
  obtain⟨t,rfl⟩:=rx;obtain⟨hy,e'⟩:y.length<=sizeLine/\k=((y.length:Int) !=0):=e;subst e';exact PySem.P.truthy_str (by omega) ⟨H,I.tok _,q⟩
 | byt y=>
  obtain⟨t,rfl⟩:=rx;obtain⟨hy,e'⟩:y.size<=sizeLine/\k=((y.size:Int) !=0):=e;subst e';exact PySem.W.truthy_bytes (by omega) ⟨H,I.tok _,q⟩
 | ref p=>
  cases rx;have e':(∃xs,SqL X.K H p xs/\k= !xs.isEmpty)\/(∃xs,SqT X.K H p xs/\k= !xs.isEmpty)\/∃kvs,H p=some (.dK kvs)/\k= !kvs.isEmpty:=e;rcases e' with⟨xs,hx,e'⟩ |⟨xs,hx,e'⟩ |⟨kvs,hx,e'⟩
  ·subst e';obtain⟨its,r,pl,hz⟩:=I.list hx;have hlen:=r.length;exact wpAny_truthy_list pl.isList (by simp only[z1c];omega) ⟨H,I.tok _,by rw[isEmpty_of r];exact q⟩
  ·subst e';obtain⟨its,r,pl,hz⟩:=I.tuple hx;have hlen:=r.length;exact truthy_tuple pl (by simp only[z1c];omega) ⟨H,I.tok _,by rw[isEmpty_of r];exact q⟩
  ·subst e';obtain⟨hz,hS,vs,r,m⟩:kvs.length<=sizeLine/\(p ==sysModules)=false/\∃vs,KV kvs vs/\s.heap.DictOf (mixKind X.prog X.w) p vs:=I.hok p _ hx;have hlen:kvs.length=vs.length:=Paired.length r;exact wpAny_truthy_dict hS m (by omega) ⟨H,I.tok _,by rw[isEmpty_kv r];exact q⟩
 |_=>exact (show False from e).elim
theorem pt_truth (ha:PE X a ta) (he:∀whole,isTrue a X.env whole=(do let v <-whole;standAt a.pos;holding [v] (truthy v))):
  PT X a (λ σ H Q=>ta σ H λ x H'=>∃k,TruV X.K x H' k/\Q k H'):=by
 intro pins s σ H Q I h;exact isTrue_plain (thn (ha pins s σ H _ I h) λ v s1 ⟨x,H1,I1,r1,q1⟩=>tru_ok pins s1 σ H1 x v Q I1 r1 q1) (he _)
theorem vals1 {x:V} (r:Vals [x] us):∃u,us=[u]/\RelV x u:=by
 cases r with
 |cons r1 r2=>cases r2;exact⟨_,rfl,r1⟩
theorem vals2 {x y:V} (r:Vals [x,y] us):∃u w',us=[u,w']/\RelV x u/\RelV y w':=by
 cases r with
 | cons r1 r2=>
  cases r2 with
  |cons r3 r4=>cases r4;exact⟨_,_,rfl,r1,r3⟩
theorem call_abs:CallR X (.builtin "abs") (λ xs H Q=>∃i,xs=[.int i]/\Q (.int (if i < 0 then -i else i)) H):=by
 intro pins s σ H xs us Q I r h;obtain⟨i,rfl,q⟩:=h;obtain⟨u,rfl,t,rfl⟩:=vals1 r;exact call_abs_int λ u tk=>⟨.int (if i < 0 then -i else i),H,I.tok _,⟨_,rfl⟩,q⟩
theorem call_max2 (hc:X.calm=true):CallR X (.builtin "max") (λ xs H Q=>∃i j,xs=[.int i,.int j]/\Q (.int (if j > i then j else i)) H):=by
 intro pins s σ H xs us Q I r h;obtain⟨i,j,rfl,q⟩:=h;obtain⟨u,w',rfl,⟨t,rfl⟩,⟨t',rfl⟩⟩:=vals2 r;refine max_two_ints (I.ok.hd hc) λ h' tk k=>⟨_,H,I.kept k,?_,q⟩;by_cases hj:j > i
 ·rw[if_pos hj,if_pos hj];exact⟨_,rfl⟩
 ·rw[if_neg hj,if_neg hj];exact⟨_,rfl⟩
theorem call_min2 (hc:X.calm=true):CallR X (.builtin "min") (λ xs H Q=>∃i j,xs=[.int i,.int j]/\Q (.int (if j < i then j else i)) H):=by
 intro pins s σ H xs us Q I r h;obtain⟨i,j,rfl,q⟩:=h;obtain⟨u,w',rfl,⟨t,rfl⟩,⟨t',rfl⟩⟩:=vals2 r;refine min_two_ints (I.ok.hd hc) λ h' tk k=>⟨_,H,I.kept k,?_,q⟩;by_cases hj:j < i
 ·rw[if_pos hj,if_pos hj];exact⟨_,rfl⟩
 ·rw[if_neg hj,if_neg hj];exact⟨_,rfl⟩
end
section
variable {prog:Program} {w:World} {A:Around} {E:Value->Shared->Prop} {s:Shared} {K:PySem.W.Frag} {x dx C f:Addr} {mA:Str->Option Value} {name:Str} {v:Value}
end
section
variable {P:Program} {w:World} {H H':Hp} {h h':Heap} {a C dx:Addr} {fs fs':List (Str×V)}
end
section
variable {X:Cx} {pins:List (Addr×Obj)} {σ:St} {H:Hp} {s:Shared} {a C dx:Addr} {fs:List (Str×V)} {f:Str} {v:V} {A:Around} {E:Value->Shared->Prop}
end
section
variable {X:Cx} {o e value:Expr} {f:Str} {pos pos' tpos:Pos} {ta tv:TE}
end
section
variable {X:Cx} {pins:List (Addr×Obj)} {σ:St} {H:Hp} {s:Shared} {A:Around} {E:Value->Shared->Prop} {Q:Value->Shared->Prop} {c:Value} {b:Bool}
end
structure Room (k:Nat) (A:Around):Prop where
 hd:A.handled=none
 dp:A.depth+3*k+5 < recursionLimit
 un:A.units+16*k+200 < cLine
theorem Room.mono {j:Nat} (r:Room k A) (h:j<=k):Room j A:=⟨r.hd,by have:=r.dp;omega,by have:=r.un;omega⟩
theorem Room.deeper (r:Room (k+1) A) (env:Env):Room k (A.deeper env):=
 ⟨r.hd,by have:=r.dp;show A.depth+1+3*k+5 < _;omega,by have:=r.un;show A.units+3+16*k+200 < _;omega⟩
theorem Room.depth (r:Room k A):A.depth < recursionLimit:=by have:=r.dp;omega
def tNil:TA:=λ _ H Q=>Q [] H
def tCons (ta:TE) (tr:TA):TA:=λ σ H Q=>ta σ H λ x H1=>tr σ H1 λ xs H2=>Q (x::xs) H2
section
variable {X:Cx} {e:Expr} {es:List Expr} {te:TE} {t:TA} {pos:Pos}
theorem pa_nil:PA X [] tNil:=λ _ _ _ _ H Q I h=>Calls.spliced_nil ⟨[],H,I,.nil,h⟩
theorem pa_cons (ha:PE X e te) (hr:PA X es t) (hs:starEach (e::es) X.env=(false,eval e X.env)::starEach es X.env:=by rfl):PA X (e::es) (tCons te t):=by
 intro pos pins s σ H Q I h;rw[hs];show wpAny _ _ (spliced ((false,eval e X.env)::backTo pos (starEach es X.env))) _ _ s;refine Calls.spliced_cons (thn (ha pins s σ H _ I h) λ u s1 bA=>?_);obtain⟨x,H1,I1,r1,q1⟩:=bA;refine thn (hr pos pins s1 σ H1 _ I1 q1) λ us s2 bA=>?_;obtain⟨xs,H2,I2,r2,q2⟩:=bA;exact⟨x::xs,H2,I2,.cons r1 r2,q2⟩
def tTup (t:TA):TE:=λ σ H Q=>t σ H λ xs H1=>xs.length<=sizeLine/\∀p,H1 p=none->Q (.ref p) (upd H1 p (.tup xs))
def tLst (t:TA):TE:=λ σ H Q=>t σ H λ xs H1=>xs.length<=sizeLine/\∀p,H1 p=none->Q (.ref p) (upd H1 p (.lst xs))
theorem pe_tup {x1} (h:PA X es t):PE X (.Tuple es x1 pos) (tTup t):=by
 intro pins s σ H Q I hq;refine wpAny_Tuple_spliced (thn (h pos pins s σ H _ I hq) λ us s1 ⟨xs,H1,I1,r,z,q⟩=>⟨by rw[<-r.length];exact z,?_⟩);have hf:H1 s1.heap.objs.size=none:=I1.hok.fresh (z0g _);refine⟨.ref s1.heap.objs.size,upd H1 s1.heap.objs.size (.tup xs),I1.laid (t':=s1.toks) (λ b u e=>z1a _ e) (z0g _) ?_,rfl,q _ hf⟩;exact⟨z,us,r,⟨_,z1f _ rfl,rfl,rfl,_,rfl⟩⟩
theorem pe_lst (h:PA X es t):PE X (.List es pos) (tLst t):=by
 intro pins s σ H Q I hq;refine wpAny_List_spliced (thn (h pos pins s σ H _ I hq) λ us s1 ⟨xs,H1,I1,r,z,q⟩=>⟨by rw[<-r.length];exact z,?_⟩);have hf:H1 s1.heap.objs.size=none:=I1.hok.fresh (z0g _);refine⟨.ref s1.heap.objs.size,upd H1 s1.heap.objs.size (.lst xs),I1.laid (t':=s1.toks) (λ b u e=>z1a _ e) (z0g _) ?_,rfl,q _ hf⟩;exact⟨z,us,0,r,z1f _ rfl⟩
end
abbrev Sp:=List V->Hp->VK->XK->Prop
abbrev CXT:=List Env->Hp->Shared->XK->Value->Shared->Prop
structure Env0 (P:Program) (w:World) (K:PySem.W.Frag) (mg:Str->Option Value) (base:Heap) (A:Around) (outer:List Env) (s:Shared) (H:Hp):Prop where
 frames:A.frames=some outer
 mod:Mod K mg base
 bs:∀b o,base.get? b=some o->s.heap.get? b=some o/\H b=none
 bsz:base.objs.size<=s.heap.objs.size
 funs:s.heap.FunFrames base outer
 frf:∀b∈frs outer,H b=none
 hok:HOk P w H s.heap
 bare:AllBare s.gens
inductive CE (outer:List Env) (P:Program) (w:World) (H:Hp) (s:Shared) (Q:VK) (u:Value) (s':Shared):Prop
 |mk (v:V) (H':Hp) (os:s'.os=s.os) (bare:AllBare s'.gens) (un:Un (frs outer) [] H H' s.heap s'.heap) (hok:HOk P w H' s'.heap) (r:RelV v u) (q:Q v H'):CE outer P w H s Q u s'
def CR (CX:CXT) (outer:List Env) (P:Program) (w:World) (H:Hp) (s:Shared) (Q:VK) (E:XK) (r:Result) (s':Shared):Prop:=
 match r with
 | .ok (.ret u)=>CE outer P w H s Q u s'
 | .ok _=>False
 | .error e=>CX outer H s E e s'
structure FnOk (P:Program) (w:World) (K:PySem.W.Frag) (mg:Str->Option Value) (base:Heap) (CX:CXT) (k:Nat) (f:Addr) (fd:FuncData) (ps:List Str) (sp:Sp):Prop where
 len:∀vs H Q E,sp vs H Q E->vs.length=ps.length
 run:∀(A:Around) (outer:List Env) (s:Shared) (H:Hp) (args:Args) (us:List Value) (vs:List V) (Q:VK) (E:XK),Room k A->Env0 P w K mg base A outer s H->BindsTo s fd args (ps.zip us)->Vals vs us->sp vs H Q E->
  codeAny (model P w) A (.call (.ref f) args) (CR CX outer P w H s Q E) s
theorem FnOk.mono {j:Nat} {f:Addr} {fd:FuncData} {sp:Sp} (F:FnOk P w K mg base CX j f fd ps sp) (h:j<=k):
  FnOk P w K mg base CX k f fd ps sp:=⟨F.len,λ A outer s H args us vs Q E hr=>F.run A outer s H args us vs Q E (hr.mono h)⟩
section
variable {X:Cx} {pins:List (Addr×Obj)} {σ:St} {H:Hp} {s s':Shared}
theorem Inv.env0 (I:Inv X pins σ H s):Env0 X.prog X.w X.K X.mg X.base X.A X.stack s H:=
 ⟨I.ok.frames,I.ok.mod,I.bs,z0b I.ok.bsz I.sz,I.stack,I.stkFree,I.hok,I.bare⟩
theorem Inv.after {Q:VK} {u:Value} (I:Inv X pins σ H s) (h:CE X.stack X.prog X.w H s Q u s'):EP X pins σ Q u s':=by
 obtain⟨v,H',os,bare,un,hok,r,q⟩:=h;obtain⟨hh,g,d,t,os'⟩:=s';obtain rfl:os'=s.os:=os;exact⟨v,H',I.call (h':=hh) (g':=g) (d':=d) (t':=t) (ch:=[]) un hok bare (λ b z=>absurd z (by simp)),r,q⟩
end
def tCall (sp:Sp) (dvs:List V) (E:XK) (t:TA):TE:=λ σ H Q=>t σ H λ vs H1=>sp (vs++dvs) H1 Q E
def Binds (K:PySem.W.Frag) (fd:FuncData) (ps:List Str) (ds:List Value):Prop:=
 ∀(s:Shared) (us:List Value),K.In s.heap->(us++ds).length=ps.length->BindsTo s fd ⟨us,[]⟩ (ps.zip (us++ds))
theorem Binds.all {fd:FuncData} (h:∀us:List Value,us.length=ps.length->bindArgs fd ⟨us,[]⟩=pure (ps.zip us)):Binds K fd ps []:=λ s us _ hl=>by
 rw[List.append_nil] at hl |-;exact .of_eq (h us hl)
def Passes (CX:CXT) (X:Cx) (E:XK):Prop:=∀(pins:List (Addr×Obj)) (σ:St) (H:Hp) (s:Shared) (e:Value) (s':Shared),Inv X pins σ H s->CX X.stack H s E e s'->X.xe e s'
section
variable {X:Cx} {CX:CXT} {k:Nat} {f C:Addr} {fd:FuncData} {ps:List Str} {sp:Sp} {dvs:List V} {ds:List Value} {E:XK} {x m:Str} {p pos apos:Pos} {e o:Expr} {es:List Expr} {ta:TE} {t:TA}
theorem run_fn {Q:VK} {vs:List V} (F:FnOk X.prog X.w X.K X.mg X.base CX k f fd ps sp) (hr:Room k X.A) (hb:Binds X.K fd ps ds) (hd:Vals dvs ds) (hx:Passes CX X E)
  (I:Inv X pins σ H s) (r:Vals vs us) (h:sp (vs++dvs) H Q E):wpAny (model X.prog X.w) X.A (call (.ref f) us) (EP X pins σ Q) X.xe s:=by
 have r2:Vals (vs++dvs) (us++ds):=r.append hd;have hl:(us++ds).length=ps.length:=by rw[<-r2.length];exact F.len _ _ _ _ h
 refine wpAny_call (codeAny_mono (F.run X.A X.stack s H ⟨us,[]⟩ (us++ds) (vs++dvs) Q E hr I.env0 (hb s us I.kIn hl) r2 h) λ r s' hq=>?_);cases r with
 |error e=>exact hx pins σ H s e s' I hq
 | ok fl=>
  cases fl with
  |ret u=>exact I.after hq
  |next=>exact False.elim hq
  |brk=>exact False.elim hq
  |cont=>exact False.elim hq
theorem pe_call (F:FnOk X.prog X.w X.K X.mg X.base CX k f fd ps sp) (hr:Room k X.A) (hg:Gl X x) (hm:X.mg x=some (.ref f)) (hk:PySem.W.keepIn X.K (.ref f)=true) (hb:Binds X.K fd ps ds) (hd:Vals dvs ds) (hx:Passes CX X E)
  (ha:PA X (e::es) t) (hdb:(x ==("__debug__" :Str))=false:=by decide) (he:starEach (e::es) X.env=(false,eval e X.env)::starEach es X.env:=by rfl) (hpl:(backTo pos (starEach es X.env)).any (·.1)=false:=by rfl):
  PE X (.Call (.Name x p) (e::es) [] pos) (tCall sp dvs E t):=by
 intro pins s σ H Q I h;refine wpAny_Call_Name_kw (ld_glob I hg hm ?_ hdb);refine PySem.W.callWith_K (h₀:=X.base) I.ok.mod.kin hk (thn (ha pos pins s σ H _ I h) λ us s1 ⟨vs,H1,I1,r,q⟩=>⟨I1.kIn,?_⟩) he hpl;exact run_fn F hr hb hd hx I1 r q
end
def PK (X:Cx) (kws:List Keyword) (t:TA):Prop:=
 ∀(pos:Pos) (pins:List (Addr×Obj)) (s:Shared) (σ:St) (H:Hp) (Q:List V->Hp->Prop),Inv X pins σ H s->t σ H Q->wpAny (model X.prog X.w) X.A (evalAll ((backToKw pos (keywordEach kws X.env)).map (·.2))) (AP X pins σ Q) X.xe s
section
variable {X:Cx} {CX:CXT} {k:Nat} {f C:Addr} {fd:FuncData} {ps ks:List Str} {sp:Sp} {E:XK} {x m:Str} {p pos apos kpos:Pos} {e o:Expr} {es:List Expr} {kws:List Keyword} {te ta:TE} {t tk:TA} {nm:Option Str}
theorem pk_nil:PK X [] tNil:=λ _ _ _ _ H Q I h=>wpAny_evalAll_nil ⟨[],H,I,.nil,h⟩
theorem pk_cons (ha:PE X e te) (hr:PK X kws t):PK X (⟨nm,e,kpos⟩::kws) (tCons te t):=by
 intro pos pins s σ H Q I h;show wpAny _ _ (evalAll ((do let v <-eval e X.env;standAt pos;pure v)::(backToKw pos (keywordEach kws X.env)).map (·.2))) _ _ s;refine wpAny_evalAll_cons (wpAny_bind (thn (ha pins s σ H _ I h) λ u s1 ⟨x,H1,I1,r1,q1⟩=>wpAny_bind (wpAny_standAt (wpAny_pure ?_))));refine thn (hr pos pins s1 σ H1 _ I1 q1) λ us s2 bA=>?_;obtain⟨xs,H2,I2,r2,q2⟩:=bA;exact⟨x::xs,H2,I2,.cons r1 r2,q2⟩
variable {g:List Value->List Value->List Value} {gV:List V->List V->List V}
end
structure FnScope (N P:List Str) (sc:Scope):Prop where
 kind:sc.kind= .function
 co:sc.isCoroutine=false
 gen:sc.isGenerator=false
 nd:N.Nodup
 pre:N.take P.length=P
 par:∀x∈P,sc.names.lookup x=some .local\/sc.names.lookup x=some .cell
 nofree:∀y∈sc.names,y.2≠.free
theorem bindL_out {kindOf:Str->Option NameKind} {x:Str}:∀{binds:List (Str×Value)} {m:Str->Option Value},(∀v,(x,v)∉binds)->bindL kindOf binds m x=m x
 |[],_,_=>rfl
 | (n,v)::r,m,h=>by
  unfold bindL;rw[bindL_out λ w hw=>h w (z2f _ hw)];split
  ·have:x≠n:=by rintro rfl;exact h v List.mem_cons_self
   simp[this]
  ·rfl
theorem bindC_out {kindOf:Str->Option NameKind} {x:Str}:∀{binds:List (Str×Value)} {m:Str->Option Value},(∀v,(x,v)∉binds)->bindC kindOf binds m x=m x
 |[],_,_=>rfl
 | (n,v)::r,m,h=>by
  unfold bindC;rw[bindC_out λ w hw=>h w (z2f _ hw)];split
  ·rfl
  ·have:x≠n:=by rintro rfl;exact h v List.mem_cons_self
   simp[this]
theorem bindL_get {kindOf:Str->Option NameKind} {x:Str} {v:Value}:∀{P:List Str} {vs:List Value} {i:Nat} {m:Str->Option Value},P.Nodup->P[i]?=some x->vs[i]?=some v->kindOf x=some .local->
  bindL kindOf (P.zip vs) m x=some v
 |[],_,_,_,_,h,_,_=>by simp at h
 |_::_,[],_,_,_,_,h,_=>by simp at h
 | p::P,w::vs,0,m,nd,h1,h2,hk=>by
  simp at h1 h2;subst h1;subst h2;show bindL kindOf ((p,w)::P.zip vs) m p=_;unfold bindL;rw[bindL_out λ v hv=>(List.nodup_cons.mp nd).1 (List.of_mem_zip hv).1,if_pos hk];simp
 | p::P,w::vs,i+1,m,nd,h1,h2,hk=>by
  show bindL kindOf ((p,w)::P.zip vs) m x=_;unfold bindL;exact bindL_get (i:=i) (List.nodup_cons.mp nd).2 (by simpa using h1) (by simpa using h2) hk
theorem bindC_get {kindOf:Str->Option NameKind} {x:Str} {v:Value}:∀{P:List Str} {vs:List Value} {i:Nat} {m:Str->Option Value},P.Nodup->P[i]?=some x->vs[i]?=some v->kindOf x≠some .local->
  bindC kindOf (P.zip vs) m x=some v
 |[],_,_,_,_,h,_,_=>by simp at h
 |_::_,[],_,_,_,_,h,_=>by simp at h
 | p::P,w::vs,0,m,nd,h1,h2,hk=>by
  simp at h1 h2;subst h1;subst h2;show bindC kindOf ((p,w)::P.zip vs) m p=_;unfold bindC;rw[bindC_out λ v hv=>(List.nodup_cons.mp nd).1 (List.of_mem_zip hv).1,if_neg hk];simp
 | p::P,w::vs,i+1,m,nd,h1,h2,hk=>by
  show bindC kindOf ((p,w)::P.zip vs) m x=_;unfold bindC;exact bindC_get (i:=i) (List.nodup_cons.mp nd).2 (by simpa using h1) (by simpa using h2) hk
def start (N:List Str) (vs:List V):St:=vs.map some++List.replicate (N.length - vs.length) none
def cxOf (CX:CXT) (P:Program) (w:World) (K:PySem.W.Frag) (mg:Str->Option Value) (base:Heap) (N:List Str) (qual:Str) (scope:Scope) (f:Addr) (cd:Value) (A:Around) (outer:List Env) (s:Shared) (H:Hp) (E:XK):Cx where
 prog:=P
 w:=w
 K:=K
 mg:=mg
 base:=base
 A:=A.deeper (envOfC qual scope s.heap.objs.size f cd)
 N:=N
 s₀:=s
 H₀:=H
 env:=envOfC qual scope s.heap.objs.size f cd
 outer:=outer
 stack:=envOfC qual scope s.heap.objs.size f cd::outer
 ex:=[]
 calm:=true
 fn:=λ _=>true
 pn:=[]
 xe:=λ e s'=>wpAny (model P w) (A.deeper (envOfC qual scope s.heap.objs.size f cd)) (leaving (envOfC qual scope s.heap.objs.size f cd) e) (λ _ s''=>CX outer H s E e s'') (λ e' s''=>CX outer H s E e' s'') s'
theorem cell_has {sc:Scope} {n:Nat} {x:Str} (h:sc.names.lookup x=some .cell):∃c,(cellsFrom n sc.names []).lookup x=some c:=by
 have q:=PySem.W.cellsFrom_some sc.names n [] (.inl h);exact Option.isSome_iff_exists.mp q
theorem inv_start {qual:Str} {scope:Scope} {f:Addr} {cd:Value} {outer:List Env} {s1:Shared} {E:XK} {vs:List V}
  (S:FnScope N ps scope) (hd:A.handled=none) (e0:Env0 P w K mg base A outer s H) (hl:vs.length=ps.length) (r:Vals vs us)
  (x:InCallC s s.heap.objs.size (bindL (envOfC qual scope s.heap.objs.size f cd).kindOf (ps.zip us) λ _=>none) (cellsFrom (s.heap.objs.size+1) scope.names []) (bindC (envOfC qual scope s.heap.objs.size f cd).kindOf (ps.zip us) λ _=>none) s1):
  Inv (cxOf CX P w K mg base N qual scope f cd A outer s H E) [] (start N vs) H s1:=by
 have hpl:ps.length<=N.length:=by have:=congrArg List.length S.pre;rw[List.length_take] at this;omega
 obtain⟨h1,tk,rfl,hk⟩:=x.done;have noA:∀b:Addr,b∉(cxOf CX P w K mg base N qual scope f cd A outer s H E).ex:=λ b z=>absurd (show b∈([]:List Addr) from z) (by simp);refine⟨⟨e0.mod,S.kind,rfl,rfl,z0g _,λ y z c h1 h2=>?_,λ y hy=>?_,λ y c _ h=>?_,λ _=>hd,Around.frames_deeper e0.frames,.inr ⟨rfl,rfl⟩,λ b z=>absurd z (noA b),e0.bs,e0.bsz,λ b _ _=>noA b,λ b z=>absurd z (noA b),e0.funs,e0.frf⟩,
  rfl,e0.bare,Un.kept hk,⟨_,x.toInCall.ns,λ i y v h1 h2 h3=>?_⟩,λ y c h=>⟨_,x.cell y c h⟩,e0.hok.fresh (z0g _),λ y c h=>?_,λ p hp=>absurd (show p∈([]:List (Addr×Obj)) from hp) (by simp),e0.hok.kept hk,?_⟩
 ·exact name_of_addr x.apart (PySem.mem_of_lookup h1) (PySem.mem_of_lookup h2)
 ·have hy:scope.names.lookup y=some .cell\/scope.names.lookup y=some .free:=hy;rcases hy with hy |hy
  ·exact cell_has hy
  ·exact absurd rfl (S.nofree _ (PySem.mem_of_lookup hy))
 ·exact z0e (x.above y c (PySem.mem_of_lookup h))
 ·have hi:i < vs.length:=by
   unfold start at h2;by_cases hi:i < vs.length
   ·exact hi
   ·rw[List.getElem?_append_right (by simpa using hi)] at h2;rw[List.getElem?_replicate] at h2;split at h2 <;> cases h2
  have ha:vs[i]?=some v:=by
   unfold start at h2;rw[List.getElem?_append_left (by simpa using hi),z2b] at h2;cases e:vs[i]? with
   |none=>rw[e] at h2;cases h2
   |some a=>rw[e] at h2;cases h2;rfl
  obtain⟨u,hu,rv⟩:=r.get ha;have hp:ps[i]?=some y:=by
   rw[<-S.pre,List.getElem?_take_of_lt (by omega)];exact h1
  have ndP:ps.Nodup:=by rw[<-S.pre];exact S.nd.sublist (List.take_sublist _ _)
  refine⟨u,rv,?_⟩;rcases S.par y (List.mem_of_getElem? hp) with k |k
  ·exact .inl ⟨k,bindL_get ndP hp hu k⟩
  ·obtain⟨c,e⟩:=cell_has (n:=s.heap.objs.size+1) k;refine .inr ⟨.inl k,c,e,?_⟩;have q:=x.cell y c e;rw[bindC_get ndP hp hu (by show scope.names.lookup y≠_;rw[k];decide)] at q;exact q
 ·exact e0.hok.fresh (z0e (x.above y c (PySem.mem_of_lookup h)))
 ·unfold start;show _=N.length;rw[z1d,z1g,List.length_replicate];omega
theorem fn_of {f:Addr} {name qual:Str} {params:Arguments} {scope:Scope} {dV kV doc pm cdv ct oc:Value} {an od:Option Addr}
  {osl:Array (Option Value)} {sp:Sp} (lk:K.lookup f=some ⟨oc,od,.func (PySem.W.fnOf name qual params body scope dV kV doc pm an cdv ct),osl⟩) (hcd:PySem.W.codeIn K cdv qual=true) (S:FnScope N ps scope)
  (len:∀vs H Q E,sp vs H Q E->vs.length=ps.length)
  (hbody:∀(A:Around) (outer:List Env) (s:Shared) (H:Hp) (vs:List V) (Q:VK) (E:XK),Room k (A.deeper (envOfC qual scope s.heap.objs.size f cdv))->sp vs H Q E->
   ∃t,PSs (cxOf CX P w K mg base N qual scope f cdv A outer s H E) body t/\t {nx:=λ _ H'=>Q .non H',rt:=Q} (start N vs) H):
  FnOk P w K mg base CX (k+1) f (PySem.W.fnOf name qual params body scope dV kV doc pm an cdv ct) ps sp:=by
 refine⟨len,λ A outer s H args us vs Q E hr e0 hb r hsp=>?_⟩;have hl:=len _ _ _ _ hsp;have KX:K.In s.heap:=e0.mod.kin.keeps λ b o e=>(e0.bs b o e).1;have lim:s.heap.NoLimit:=e0.mod.nolimit.keeps λ b o e=>(e0.bs b o e).1;have hkind:∀y∈ps.zip us,scope.names.lookup y.1=some .local\/(scope.names.lookup y.1=some .cell/\((cellsFrom (s.heap.objs.size+1) scope.names []).lookup y.1).isSome=true):=λ ⟨n,v⟩ hy=>by
  rcases S.par n (List.of_mem_zip hy).1 with q |q
  ·exact .inl q
  ·exact .inr ⟨q,PySem.W.cellsFrom_some _ _ _ (.inl q)⟩
 refine codeAny_call_function hr.depth (KX _ _ lk) rfl S.co S.gen rfl (PySem.W.codeRec_of KX hcd) (hb _ _ _ _ ?_);refine wpAny_newFunctionEnv_cells S.kind hkind λ env he s1 x=>?_;subst he;refine⟨lim.keeps x.toInCall.keep,codeAny_func ?_⟩;obtain⟨t,ht,hq⟩:=hbody A outer s H vs Q E (hr.deeper _) hsp;have I:Inv (cxOf CX P w K mg base N qual scope f cdv A outer s H E) [] (start N vs) H s1:=inv_start S hr.hd e0 hl r x;refine wpAny_mono (ht [] s1 (start N vs) H _ I hq) (λ fl s' hs=>?_) λ e s' hs=>hs;have fin:∀{σ':St} {H':Hp} {v:V} {u:Value},Inv (cxOf CX P w K mg base N qual scope f cdv A outer s H E) [] σ' H' s'->RelV v u->Q v H'->CE outer P w H s Q u s':=
  λ {σ' H' v u} J rv q=>⟨v,H',J.os,J.bare,J.base,J.hok,rv,q⟩
 cases fl with
 | ret u=>
  obtain⟨v,σ',H',J,rv,q⟩:=hs;exact fin J rv q
 | next=>
  obtain⟨σ',H',J,q⟩:=hs;exact fin (v:=V.non) (u:=Value.none) J rfl q
 | brk=>
  obtain⟨_,_,_,q⟩:=hs;exact False.elim q
 | cont=>
  obtain⟨_,_,_,q⟩:=hs;exact False.elim q
section
variable {X:Cx} {x:Str} {p pos:Pos} {e:Expr} {es:List Expr} {t:TA} {id T:String} {r:List V->Hp->VK->Prop}
def tCB (r:List V->Hp->VK->Prop) (t:TA):TE:=λ σ H Q=>t σ H λ vs H1=>r vs H1 Q
theorem pe_callB (hc:CallR X (.builtin id) r) (hg:Gl X x) (hm:X.mg x=none) (hv:bootBuiltins x=some (.builtin id)) (ha:PA X (e::es) t) (hn:x≠"__name__" :=by decide) (hdb:(x ==("__debug__" :Str))=false:=by decide)
  (he:starEach (e::es) X.env=(false,eval e X.env)::starEach es X.env:=by rfl) (hpl:(backTo pos (starEach es X.env)).any (·.1)=false:=by rfl):PE X (.Call (.Name x p) (e::es) [] pos) (tCB r t):=by
 intro pins s σ H Q I h;refine wpAny_Call_Name_kw (ld_blt I hg hm hv ?_ hn hdb);exact PyProof.Rows.callWith_builtin1 (thn (ha pos pins s σ H _ I h) λ us s1 ⟨vs,H1,I1,r1,q1⟩=>hc pins s1 σ H1 vs us Q I1 r1 q1) he hpl
theorem pe_callTy (hc:CallR X (.type T) r) (hg:Gl X x) (hm:X.mg x=none) (hv:bootBuiltins x=some (.type T)) (ha:PA X (e::es) t) (hn:x≠"__name__" :=by decide) (hdb:(x ==("__debug__" :Str))=false:=by decide)
  (he:starEach (e::es) X.env=(false,eval e X.env)::starEach es X.env:=by rfl) (hpl:(backTo pos (starEach es X.env)).any (·.1)=false:=by rfl):PE X (.Call (.Name x p) (e::es) [] pos) (tCB r t):=by
 intro pins s σ H Q I h;refine wpAny_Call_Name_kw (ld_blt I hg hm hv ?_ hn hdb);exact PyProof.Rows.callWith_type1 (thn (ha pos pins s σ H _ I h) λ us s1 ⟨vs,H1,I1,r1,q1⟩=>hc pins s1 σ H1 vs us Q I1 r1 q1) he hpl
end
end L2
namespace HT
open PySem PyProof.Rows
section
open PySem.SeqAt
open PySem.AutoSeq1 (wpAny_loadPart')
open PySem.MeetsSeq PySem.MeetsSeq2 PySem.MeetsSeq3
end
section
variable {prog:Program} {w:World} {A:Around} {E:Value->Shared->Prop} {s:Shared}
theorem cat_tup {t b:Addr} {vs ws:List Value} {Q:Value->Shared->Prop} (ht:IsTup s.heap t vs.toArray) (hb:IsTup s.heap b ws.toArray) (hv:vs≠[])
  (h1:ws=[]->Q (.ref t) s) (h2:ws≠[]->Q (.ref s.heap.objs.size) {s with heap:=s.heap.push {cls:= .type "tuple",data:= .seq (vs++ws).toArray}})
  (hsz:vs.length+ws.length<=sizeLine):wpAny (model prog w) A (binaryOp .Add (.ref t) (.ref b)) Q E s:=by
 obtain⟨⟨cls,dd,data,sl⟩,ho,hc,n,hd⟩:=id ht;obtain⟨⟨cls2,dd2,data2,sl2⟩,ho2,hc2,n2,hd2⟩:=id hb;simp only at hc hd hc2 hd2;subst hc hd hc2 hd2;have e:vs.toArray++ws.toArray=(vs++ws).toArray:=by simp
 by_cases hw:ws=[]
 ·exact concat_meets ⟨_,ho,rfl⟩ ⟨_,ho2,rfl⟩ noFill_tuple_add seq_tuple_add PySem.F.slot_tuple_add PySem.F.entry_tuple_add (PySem.F.args_tuple_add_2 _ _)
   (tuple_addW1 t b vs.toArray ws.toArray n n2 dd dd2 sl sl2 (by simpa using hv) (by simp[hw])) ⟨ho,ho2,h1 hw⟩
 ·refine concat_meets ⟨_,ho,rfl⟩ ⟨_,ho2,rfl⟩ noFill_tuple_add seq_tuple_add PySem.F.slot_tuple_add PySem.F.entry_tuple_add (PySem.F.args_tuple_add_2 _ _)
   (tuple_addW2 t b vs.toArray ws.toArray n n2 dd dd2 sl sl2 (by simpa using hv) (by simpa using hw) (by rw[z1c,z1c];exact hsz)) ⟨ho,ho2,?_⟩
  rw[e];exact h2 hw
def sIx (n d:Nat):Option Int->Nat
 |none=>d
 |some v=>if v < 0 then (v+(n:Int)).toNat else min v.toNat n
theorem sIx_le (n d:Nat) (hd:d<=n) (o:Option Int):sIx n d o<=n:=by
 cases o with
 |none=>exact hd
 | some v=>
  show (if v < 0 then (v+(n:Int)).toNat else min v.toNat n)<=n;by_cases hv:v < 0
  ·rw[if_pos hv];omega
  ·rw[if_neg hv];exact Nat.min_le_right _ _
theorem Ru (a b:Nat):((min a b:Nat):Int)=min (a:Int) (b:Int):=by
 rcases Nat.le_total a b with h |h
 ·rw[Nat.min_eq_left h,Int.min_eq_left (Int.ofNat_le.mpr h)]
 ·rw[Nat.min_eq_right h,Int.min_eq_right (Int.ofNat_le.mpr h)]
theorem aaE {i:Int} (n:Nat) (h:i < 0):max 0 (min (i+(n:Int)) (n:Int))=(((i+(n:Int)).toNat:Nat):Int):=by
 rw[Int.min_eq_left (by omega),Int.max_comm];exact (Int.ofNat_toNat _).symm
theorem aaF (k n:Nat):max 0 (min (k:Int) (n:Int))=((min (k:Int).toNat n:Nat):Int):=by
 rw[Int.max_eq_right (Int.le_min.mpr ⟨Int.natCast_nonneg _,Int.natCast_nonneg _⟩)];exact (Ru k n).symm
theorem clip_eq (v:Int) (n d:Nat):(if v < 0 then max (v+(n:Int)) 0 else min v (n:Int))=((sIx n d (some v):Nat):Int):=by
 show (if v < 0 then max (v+(n:Int)) 0 else min v (n:Int))=(((if v < 0 then (v+(n:Int)).toNat else min v.toNat n):Nat):Int);by_cases hv:v < 0
 ·simp only[if_pos hv];exact (Int.ofNat_toNat _).symm
 ·simp only[if_neg hv];obtain⟨k,rfl⟩:=Int.eq_ofNat_of_zero_le (Int.not_lt.mp hv);exact (Ru k n).symm
theorem adjust_gen (lo hi:Option Int) (n:Nat):Builtin.Slice.sliceAdjust lo hi 1 (n:Int)=(((sIx n 0 lo:Nat):Int),((sIx n n hi:Nat):Int)):=by
 have h1:¬((1:Int) < 0):=by omega
 unfold Builtin.Slice.sliceAdjust;simp only[h1,if_false];refine Prod.ext ?_ ?_
 ·cases lo with
  |none=>rfl
  |some v=>exact clip_eq v n 0
 ·cases hi with
  |none=>rfl
  |some v=>exact clip_eq v n n
theorem places_gen (i j:Nat):Builtin.Slice.slicePlaces (i:Int) (j:Int) 1=j - i:=by
 unfold Builtin.Slice.slicePlaces;have h1:(1:Int) > 0:=by omega
 simp only[h1,if_true,Int.ediv_one];split <;> omega
theorem slicePart_ {v:Value} {o:Option Int} {Q:Option Int->Shared->Prop} (p:IsPart v o) (h:Q o s):wpAny (model prog w) A (Builtin.Slice.slicePartIndex v) Q E s:=by
 cases p with
 |none=>exact slicePart_none h
 |int i t=>exact slicePart_int h
theorem sliceApplied_gen {sl:Addr} {vl vu:Value} {lo hi:Option Int} {n:Nat} {Q:Int×Int×Nat->Shared->Prop} (hs:s.heap.IsSliceOf sl vl vu .none) (pl:IsPart vl lo) (pu:IsPart vu hi)
  (h:Q (((sIx n 0 lo:Nat):Int),1,sIx n n hi - sIx n 0 lo) s):wpAny (model prog w) A (Builtin.Slice.sliceApplied (.ref sl) (pure (n:Int))) Q E s:=by
 obtain⟨os,hos,hcs,hds⟩:=id hs;unfold Builtin.Slice.sliceApplied Builtin.Slice.sliceFields;refine wpAny_bind (wpAny_bind (wpAny_field hos hds (x:=vl) rfl (wpAny_bind (wpAny_field hos hds (x:=vu) rfl (wpAny_bind (wpAny_field hos hds (x:= .none) rfl (wpAny_pure ?_)))))));refine wpAny_bind (slicePart_none ?_);show wpAny _ _ (if ((1:Int) ==0)=true then _ else _) _ _ s;rw[if_neg (by decide)];refine wpAny_bind (slicePart_ pl (wpAny_bind (slicePart_ pu (wpAny_bind (wpAny_pure ?_)))));show wpAny _ _ (match Builtin.Slice.sliceAdjust lo hi 1 (n:Int) with |(lo,hi)=>pure (lo,(1:Int),Builtin.Slice.slicePlaces lo hi 1)) _ _ s;rw[adjust_gen lo hi n];show wpAny _ _ (pure (((sIx n 0 lo:Nat):Int),(1:Int),Builtin.Slice.slicePlaces ((sIx n 0 lo:Nat):Int) ((sIx n n hi:Nat):Int) 1)) _ _ s;rw[places_gen];exact wpAny_pure h
theorem pick_gen (xs:Array Value) (i k:Nat):((List.range k).filterMap λ (m:Nat)=>xs[((i:Int)+(m:Int)*1).toNat]?).toArray=((xs.toList.drop i).take k).toArray:=by
 have e:(λ (m:Nat)=>xs[((i:Int)+(m:Int)*1).toNat]?)=λ m=>xs[i+m]?:=by
  funext m;have:((i:Int)+(m:Int)*1).toNat=i+m:=by omega
  rw[this]
 rw[e];have:=pick_run xs i k;rw[List.filterMap_map] at this;have e2:((λ x=>xs[x]?) ∘ λ x=>i+x)=λ m=>xs[i+m]?:=rfl;rw[e2] at this;rw[this]
theorem getItem_tuple_cut {t sl:Addr} {items:Array Value} {vl vu:Value} {lo hi:Option Int} {Q:Value->Shared->Prop} (ht:IsTup s.heap t items) (hs:s.heap.IsSliceOf sl vl vu .none) (pl:IsPart vl lo) (pu:IsPart vu hi)
  (hw:¬(sIx items.size 0 lo=0/\sIx items.size items.size hi=items.size))
  (h:Q (.ref s.heap.objs.size) {s with heap:=s.heap.push {cls:= .type "tuple",data:= .seq ((items.toList.drop (sIx items.size 0 lo)).take (sIx items.size items.size hi - sIx items.size 0 lo)).toArray}})
  (hsz:items.size<=sizeLine):wpAny (model prog w) A (getItem (.ref t) (.ref sl)) Q E s:=by
 have htake:sizeOk (.seq ((items.toList.drop (sIx items.size 0 lo)).take (sIx items.size items.size hi - sIx items.size 0 lo)).toArray):=by
  show ((items.toList.drop (sIx items.size 0 lo)).take (sIx items.size items.size hi - sIx items.size 0 lo)).toArray.size<=sizeLine;rw[z1c,List.length_take,List.length_drop,Array.length_toList];omega
 have hj:sIx items.size items.size hi<=items.size:=sIx_le _ _ (z0g _) hi;obtain⟨os,hos,hcs,hds⟩:=id hs;have hTs:s.TypeIs (.ref sl) "slice" :=⟨os,hos,hcs⟩;unfold getItem
 try with_reducible refine wpAny_holding ?_
 first |refine wpAny_bind (wpAny_pure ?_) |skip
 refine wpAny_bind (wpAny_sequenceKey ht.typeIs (by decide) ?_);refine wpAny_bind (wpAny_callSpecial?_slot (name:=Str.ofString "__getitem__") ht.typeIs PyProof.Rows.slot_tuple_getitem
  (wpAny_call_entry PyProof.Rows.slot_tuple_getitem ht.typeIs entry_tuple_getitem ?_ (args_tuple_getitem _ _)))
 show wpAny _ _ (Builtin.Tuple.tupleItemsOf (.ref t) >>=_) _ _ s;refine wpAny_bind (tupleItemsOf_ ht ?_);refine wpAny_bind (wpAny_typeOf hTs ?_);rw[if_pos (by decide)];refine wpAny_bind (sliceApplied_gen hs pl pu ?_);have hno:¬((((sIx items.size 0 lo:Nat):Int) ==0 && (1:Int) ==1 && (sIx items.size items.size hi - sIx items.size 0 lo) ==items.size)=true):=by
  intro q;rw[Bool.and_eq_true,Bool.and_eq_true] at q;have q1:((sIx items.size 0 lo:Nat):Int)=0:=eq_of_beq q.1.1;have q2:sIx items.size items.size hi - sIx items.size 0 lo=items.size:=eq_of_beq q.2;exact hw ⟨by omega,by omega⟩
 show wpAny _ _ (if (((sIx items.size 0 lo:Nat):Int) ==0 && (1:Int) ==1 && (sIx items.size items.size hi - sIx items.size 0 lo) ==items.size)=true then _ else _) _ _ s;rw[if_neg hno,pick_gen]
 first
  |exact wpAny_bind (m:=Builtin.Tuple.tupleExact _) (wpAny_newObj_type (wpAny_pure ⟨_,rfl,wpAny_pure h⟩) htake)
  |exact wpAny_bind (m:=Builtin.Tuple.tupleExact _) (wpAny_newObj_type (wpAny_bind (wpAny_pure (wpAny_pure ⟨_,rfl,wpAny_pure h⟩))) htake)
  |exact wpAny_bind (wpAny_bind (m:=Builtin.Tuple.tupleExact _) (wpAny_newObj_type (wpAny_pure (wpAny_pure ⟨_,rfl,wpAny_pure h⟩)) htake))
  |exact wpAny_bind (wpAny_bind (m:=Builtin.Tuple.tupleExact _) (wpAny_newObj_type (wpAny_pure ⟨_,rfl,wpAny_pure h⟩) htake))
end
end HT
namespace L2
open PySem PySem.Spec PyProof.Rows
variable {pins:List (Addr×Obj)} {xs:List V} {its:List Value} {s:Shared}
abbrev TO:=St->Hp->(Option Int->Hp->Prop)->Prop
def PO (X:Cx) (e:Option Expr) (t:TO):Prop:=
 ∀ (pins:List (Addr×Obj)) (s:Shared) (σ:St) (H:Hp) (Q:Option Int->Hp->Prop),Inv X pins σ H s->t σ H Q->
  wpAny (model X.prog X.w) X.A (evalPart e X.env) (λ u s'=>∃o H',Inv X pins σ H' s'/\IsPart u o/\Q o H') X.xe s
def tNoPart:TO:=λ _ H Q=>Q none H
def tPart (t:TE):TO:=λ σ H Q=>t σ H λ x H1=>∃i,x= .int i/\Q (some i) H1
section
variable {X:Cx} {e:Expr} {te:TE} {lo hi:Option Expr} {tl th:TO} {pos p2:Pos}
theorem po_none:PO X none tNoPart:=by
 intro pins s σ H Q I h;rw[evalPart_none];exact wpAny_pure ⟨none,H,I,.none,h⟩
theorem po_some (h:PE X e te):PO X (some e) (tPart te):=by
 intro pins s σ H Q I hw;rw[evalPart_some];refine thn (h pins s σ H _ I hw) λ u s1 bA=>?_;obtain⟨x,H1,I1,r1,q1⟩:=bA;obtain⟨i,rfl,q⟩:=q1;obtain⟨t,rfl⟩:=r1;exact⟨some i,H1,I1,.int i t,q⟩
def SlR (X:Cx) (r:V->Option Int->Option Int->Hp->VK->Prop):Prop:=
 ∀ (pins:List (Addr×Obj)) (s:Shared) (σ:St) (H:Hp) (x:V) (v vl vu:Value) (lo hi:Option Int) (sl:Addr) (Q:VK),Inv X pins σ H s->RelV x v->s.heap.IsSliceOf sl vl vu .none->IsPart vl lo->IsPart vu hi->r x lo hi H Q->
  ∃T id,typeLookup (.type T) "__getitem__" =pure (some (.builtin id))/\s.TypeIs v T/\wpAny (model X.prog X.w) X.A (getItem v (.ref sl)) (EP X pins σ Q) X.xe s
theorem SlR.or {r r':V->Option Int->Option Int->Hp->VK->Prop} (h:SlR X r) (h':SlR X r'):SlR X (λ x lo hi H Q=>r x lo hi H Q\/r' x lo hi H Q):=by
 intro pins s σ H x v vl vu lo hi sl Q I rx hs pl pu q;rcases q with q |q
 ·exact h pins s σ H x v vl vu lo hi sl Q I rx hs pl pu q
 ·exact h' pins s σ H x v vl vu lo hi sl Q I rx hs pl pu q
def tSl (r:V->Option Int->Option Int->Hp->VK->Prop) (te:TE) (tl th:TO):TE:=λ σ H Q=>te σ H λ x H1=>tl σ H1 λ l H2=>th σ H2 λ u H3=>r x l u H3 Q
theorem pe_slice {r:V->Option Int->Option Int->Hp->VK->Prop} (hr:SlR X r) (he:PE X e te) (hl:PO X lo tl) (hu:PO X hi th):PE X (.Subscript e (.Slice lo hi none p2) pos) (tSl r te tl th):=by
 intro pins s σ H Q I h;refine Subscript_ (thn (he pins s σ H _ I h) λ v s1 bA=>?_);obtain⟨x,H1,I1,r1,q1⟩:=bA;refine wpAny_Slice (thn (hl pins s1 σ H1 _ I1 q1) λ vl s2 ⟨l,H2,I2,pl,q2⟩=>thn (hu pins s2 σ H2 _ I2 q2) λ vu s3 bA=>?_);obtain⟨u,H3,I3,pu,q3⟩:=bA;rw[evalPart_none];refine wpAny_pure ?_;have I4:Inv X pins σ H3 {s3 with heap:=s3.heap.push {cls:= .type "slice",data:= .fields #[vl,vu,.none]}}:=I3.kept (t':=s3.toks) λ b ob q=>z1a _ q;obtain⟨T,id,hT,ht,hg⟩:=hr pins {s3 with heap:=s3.heap.push {cls:= .type "slice",data:= .fields #[vl,vu,.none]}} σ H3 x v vl vu l u s3.heap.objs.size Q I4 r1 (Heap.IsSliceOf.new ..) pl pu q3;show wpAny (model X.prog X.w) X.A (subscriptTail e (.Slice lo hi none p2) v (.ref s3.heap.objs.size)) (EP X pins σ Q) X.xe {s3 with heap:=s3.heap.push {cls:= .type "slice",data:= .fields #[vl,vu,.none]}};exact tail_any (ops:=[.ref s3.heap.objs.size,v]) ht hT hg (by with_unfolding_all rfl)
def cutV (xs:List V) (lo hi:Option Int):List V:=(xs.drop (HT.sIx xs.length 0 lo)).take (HT.sIx xs.length xs.length hi - HT.sIx xs.length 0 lo)
theorem cutV_length (xs:List V) (lo hi:Option Int):(cutV xs lo hi).length<=xs.length:=by
 unfold cutV;rw[List.length_take,List.length_drop];omega
def rSlT (K:PySem.W.Frag):V->Option Int->Option Int->Hp->VK->Prop:=λ x lo hi H Q=>∃a xs,x= .ref a/\SqT K H a xs/\
 ¬(HT.sIx xs.length 0 lo=0/\HT.sIx xs.length xs.length hi=xs.length)/\∀p,H p=none->Q (.ref p) (upd H p (.tup (cutV xs lo hi)))
theorem sl_tup:SlR X (rSlT X.K):=by
 intro pins s σ H x v vl vu lo hi sl Q I rx hs pl pu h;obtain⟨a,xs,rfl,hx,hw,q⟩:=h;cases rx;obtain⟨its,r,ht,hz⟩:=I.tuple hx;have hlen:its.toArray.size=xs.length:=by rw[z1c];exact r.length.symm
 refine⟨"tuple",_,PyProof.Rows.slot_tuple_getitem.lookup,ht.typeIs,?_⟩;refine HT.getItem_tuple_cut ht hs pl pu (by rw[hlen];exact hw) ?_ (by rw[hlen];exact hz);rw[hlen];refine⟨.ref s.heap.objs.size,_,I.laid (t':=s.toks) (o:= .tup (cutV xs lo hi)) (λ b ob q=>z1a _ q) (z0g _) ?_,rfl,q _ (I.hok.fresh (z0g _))⟩;exact⟨z0b (cutV_length xs lo hi) hz,_,(r.drop (HT.sIx xs.length 0 lo)).take (HT.sIx xs.length xs.length hi - HT.sIx xs.length 0 lo),uF.new _ _⟩
def rCatT (K:PySem.W.Frag):R2:=λ x y H Q=>∃a b xs ys,x= .ref a/\y= .ref b/\SqT K H a xs/\SqT K H b ys/\xs≠[]/\xs.length+ys.length<=sizeLine/\
 (ys=[]->Q (.ref a) H)/\(ys≠[]->∀p,H p=none->Q (.ref p) (upd H p (.tup (xs++ys))))
theorem Vals.nil_iff {us:List Value} (r:Vals xs us):us=[]↔xs=[]:=by
 cases r with
 |nil=>simp
 |cons _ _=>simp
theorem op_catT:OpR X (binaryOp .Add) (rCatT X.K):=by
 intro pins s σ H x y v u Q I rx ry h;obtain⟨a,b,xs,ys,rfl,rfl,ha,hb,hx,hz,q1,q2⟩:=h;cases rx;cases ry;obtain⟨its,r1,p1,_⟩:=I.tuple ha;obtain⟨its2,r2,p2,_⟩:=I.tuple hb;refine HT.cat_tup p1 p2 (λ z=>hx (r1.nil_iff.mp z)) (λ z=>⟨.ref a,H,I,rfl,q1 (r2.nil_iff.mp z)⟩) (λ z=>?_) (by rw[<-r1.length,<-r2.length];exact hz);refine⟨.ref s.heap.objs.size,_,I.laid (t':=s.toks) (o:= .tup (xs++ys)) (λ b ob q=>z1a _ q) (z0g _) ?_,rfl,q2 (λ w=>z (r2.nil_iff.mpr w)) _ (I.hok.fresh (z0g _))⟩;exact⟨by rw[z1d];exact hz,_,r1.append r2,uF.new _ _⟩
end
def ixN (n:Nat) (i:Int):Option Nat:=if 0<=i then (if i < n then some i.toNat else none) else if -(n:Int)<=i then some (i+n).toNat else none
def atI {α:Type} (xs:List α) (i:Int):Option α:=(ixN xs.length i).bind λ j=>xs[j]?
theorem ixN_seq {n:Nat} {i:Int} {j:Nat} (h:ixN n i=some j):seqIndex? i n=some j/\j < n/\-(n:Int)<=i/\i < n:=by
 unfold ixN at h;by_cases h0:0<=i
 ·rw[if_pos h0] at h;by_cases h1:i < n
  ·rw[if_pos h1] at h;have e:i.toNat=j:=Option.some.inj h;exact⟨by rw[seqIndex_of h0 h1,e],by omega,by omega,h1⟩
  ·rw[if_neg h1] at h;cases h
 ·rw[if_neg h0] at h;by_cases h1: -(n:Int)<=i
  ·rw[if_pos h1] at h;have e:(i+n).toNat=j:=Option.some.inj h;exact⟨by rw[seqIndex_neg (by omega) h1,e],by omega,h1,by omega⟩
  ·rw[if_neg h1] at h;cases h
theorem atI_get {α:Type} {xs:List α} {i:Int} {v:α} (h:atI xs i=some v):∃j,seqIndex? i xs.length=some j/\xs[j]?=some v/\j < xs.length/\-(xs.length:Int)<=i/\i < xs.length:=by
 unfold atI at h;cases e:ixN xs.length i with
 |none=>rw[e] at h;cases h
 | some j=>
  rw[e] at h;obtain⟨h1,h2,h3,h4⟩:=ixN_seq e;exact⟨j,h1,h,h2,h3,h4⟩
def PlainIx (b:Expr):Prop:=∀o i,subscripted b false o i=operate [o,i] (getItem o i)
def IxR (X:Cx) (r:R2):Prop:=
 ∀ (value slice:Expr) (pins:List (Addr×Obj)) (s:Shared) (σ:St) (H:Hp) (x y:V) (v u:Value) (Q:VK),Inv X pins σ H s->RelV x v->RelV y u->r x y H Q->
  subscripted slice false v u=operate [v,u] (getItem v u)->wpAny (model X.prog X.w) X.A (subscriptTail value slice v u) (EP X pins σ Q) X.xe s
def MtR (X:Cx) (id:String) (r:V->List V->Hp->VK->Prop):Prop:=
 ∀ (pins:List (Addr×Obj)) (s:Shared) (σ:St) (H:Hp) (x:V) (xs:List V) (v:Value) (us:List Value) (Q:VK),Inv X pins σ H s->RelV x v->Vals xs us->r x xs H Q->
  wpAny (model X.prog X.w) X.A (call (.builtin id) (v::us)) (EP X pins σ Q) X.xe s
section
variable {X:Cx} {a b:Expr} {ta tb:TE} {pos:Pos}
theorem IxR.or {r r':R2} (h:IxR X r) (h':IxR X r'):IxR X (λ x y H Q=>r x y H Q\/r' x y H Q):=by
 intro value slice pins s σ H x y v u Q I rx ry q hs;rcases q with q |q
 ·exact h value slice pins s σ H x y v u Q I rx ry q hs
 ·exact h' value slice pins s σ H x y v u Q I rx ry q hs
theorem pe_ix {r:R2} (hr:IxR X r) (ha:PE X a ta) (hb:PE X b tb) (hs:PlainIx b):PE X (.Subscript a b pos) (tOp r ta tb):=by
 intro pins s σ H Q I h;exact Subscript_ (binT ha hb I h λ v u s2 x y H2 I2 rx ry q=>hr a b pins s2 σ H2 x y v u Q I2 rx ry q (hs _ _))
def rIxL (K:PySem.W.Frag):R2:=λ x y H Q=>∃p xs i v,x= .ref p/\y= .int i/\SqL K H p xs/\atI xs i=some v/\Q v H
def rIxT (K:PySem.W.Frag):R2:=λ x y H Q=>∃p xs i v,x= .ref p/\y= .int i/\SqT K H p xs/\atI xs i=some v/\Q v H
def rIxS:R2:=λ x y H Q=>∃z i c,x= .str z/\y= .int i/\z.length<=sizeLine/\atI z.cps.toList i=some c/\Q (.str ⟨#[c]⟩) H
theorem ix_list:IxR X (rIxL X.K):=by
 intro value slice pins s σ H x y v u Q I rx ry h hs;obtain⟨p,xs,i,z,rfl,rfl,hq,he,q⟩:=h;cases rx;obtain⟨t,rfl⟩:=ry;obtain⟨its,r,pl,hz⟩:=I.list hq;obtain⟨j,h1,h2,h3,h4,h5⟩:=atI_get he;obtain⟨w,ew,rw'⟩:=r.get h2;have hl:=r.length;have hn:=line63;have fin:EP X pins σ Q w s:=⟨z,H,I,rw',q⟩;by_cases h0:0<=i
 ·have hj:i.toNat=j:=by
   rw[seqIndex_of h0 h5] at h1;exact Option.some.inj h1
  exact item_listR pl.isList h0 (by omega) (by rw[hj];simpa using ew) fin hs
 ·have hj:(i+(its.toArray.size:Int)).toNat=j:=by
   rw[seqIndex_neg (by omega) h4] at h1;rw[z1c,<-hl];exact Option.some.inj h1
  exact subscriptTail_builtinR (x:=w) pl.isList.typeIs slot_list_getitem.lookup
   (wpAny_getItem_list_neg (Q:=λ r s'=>r=w/\EP X pins σ Q r s') pl.isList (by omega) (by rw[z1c] <;> omega) (by omega) (by rw[hj];simpa using ew) ⟨rfl,fin⟩) hs
theorem ix_tup:IxR X (rIxT X.K):=by
 intro value slice pins s σ H x y v u Q I rx ry h hs;obtain⟨p,xs,i,z,rfl,rfl,hq,he,q⟩:=h;cases rx;obtain⟨t,rfl⟩:=ry;obtain⟨its,r,pl,hz⟩:=I.tuple hq;obtain⟨j,h1,h2,h3,h4,h5⟩:=atI_get he;obtain⟨w,ew,rw'⟩:=r.get h2;have hl:=r.length;have hn:=line63;have fin:EP X pins σ Q w s:=⟨z,H,I,rw',q⟩;exact subscriptTail_builtinR (x:=w) pl.typeIs slot_tuple_getitem.lookup
  (getItem_tuple (j:=j) (Q:=λ r s'=>r=w/\EP X pins σ Q r s') pl (by omega) (by omega) (by rw[z1c,<-hl];exact h1) (by simpa using ew) ⟨rfl,fin⟩) hs
theorem ix_str:IxR X rIxS:=by
 intro value slice pins s σ H x y v u Q I rx ry h hs;obtain⟨z,i,c,rfl,rfl,hz,he,q⟩:=h;obtain⟨t,rfl⟩:=rx;obtain⟨t',rfl⟩:=ry;obtain⟨j,h1,h2,h3,h4,h5⟩:=atI_get he;have hl:z.cps.toList.length=z.length:=by simp[Str.length]
 rw[hl] at h1 h4 h5;have hn:=line63;exact tail_any (typeIs_str s z t) slot_str_getitem.lookup (getItem_str (c:=c) (by
  have e1:decide (i < -(2 ^ 63:Int))=false:=decide_eq_false (by omega);have e2:decide (i>=2 ^ 63)=false:=decide_eq_false (by omega);rw[e1,e2,Bool.or_false]) (by rw[h1];simpa using h2) ⟨.str ⟨#[c]⟩,H,I.tok _,⟨_,rfl⟩,q⟩) hs
def rIx (K:PySem.W.Frag):R2:=λ x y H Q=>rIxL K x y H Q\/rIxT K x y H Q\/rIxS x y H Q
theorem ix_seq:IxR X (rIx X.K):=ix_list.or (ix_tup.or ix_str)
theorem mapSeq_set (its:List Value) (n j:Nat) (u:Value):Obj.mapSeq (·.setIfInBounds j u) {cls:= .type "list",data:= .seq its.toArray n}={cls:= .type "list",data:= .seq (its.set j u).toArray n}:=by
 simp[Obj.mapSeq]
theorem Inv.lst {σ:St} {H:Hp} {p:Addr} (I:Inv X pins σ H s) (h:H p=some (.lst xs)):
  ∃(its:List Value) (n:Nat),Vals xs its/\s.heap.get? p=some {cls:= .type "list",data:= .seq its.toArray n}/\xs.length<=sizeLine:=by
 obtain⟨z,its,n,r,e⟩:=I.hok p _ h;exact⟨its,n,r,e,z⟩
theorem Inv.lstUpd {σ:St} {H:Hp} {p:Addr} {ys:List V} {its':List Value} {n n':Nat} {f:Obj->Obj} (I:Inv X pins σ H s) (h:H p=some (.lst xs))
  (ho:s.heap.get? p=some {cls:= .type "list",data:= .seq its.toArray n}) (hf:f {cls:= .type "list",data:= .seq its.toArray n}={cls:= .type "list",data:= .seq its'.toArray n'}) (r:Vals ys its') (hz:ys.length<=sizeLine) (t:Nat):
  Inv X pins σ (upd H p (.lst ys)) {s with heap:=s.heap.update p f,toks:=t}:=by
 have e:(s.heap.update p f).get? p=some {cls:= .type "list",data:= .seq its'.toArray n'}:=by
  rw[Heap.get?_update_self f ho (by rw[hf] <;> rfl),hf]
 refine I.write (x:=p) (e:=p) (by rw[h];trivial) (.inl rfl) (λ b u hb q=>(Heap.get?_update_other _ _ (Ne.symm hb)).trans q) ⟨_,e⟩ ?_;exact⟨hz,its',n',r,e⟩
def rSetL:V->V->V->Hp->(Hp->Prop)->Prop:=λ o i v H Q=>∃p xs k j,o= .ref p/\i= .int k/\H p=some (.lst xs)/\ixN xs.length k=some j/\Q (upd H p (.lst (xs.set j v)))
theorem set_list:PSet X rSetL:=by
 intro pins s σ H o i v ov iv u Q I ro ri rv h;obtain⟨p,xs,k,j,rfl,rfl,hp,hj,q⟩:=h;cases ro;obtain⟨t,rfl⟩:=ri;obtain⟨its,n,r,ho,hz⟩:=I.lst hp;obtain⟨h1,h2,h3,h4⟩:=ixN_seq hj;have hl:=r.length;have hn:=line63;have I':Inv X pins σ (upd H p (.lst (xs.set j v))) {s with heap:=s.heap.update p (Obj.mapSeq (·.setIfInBounds j u))}:=
  I.lstUpd hp ho (mapSeq_set its n j u) (r.set rv j) (by rw[List.length_set];exact hz) s.toks
 by_cases h0:0<=k
 ·have hk:k.toNat=j:=by
   rw[seqIndex_of h0 h4] at h1;exact Option.some.inj h1
  exact PySem.W.ki_setAt ho h0 (by omega) (by rw[z1c,<-hl];exact h4) (by rw[hk];exact⟨_,I',q⟩)
 ·have hk:(k+(its.toArray.size:Int)).toNat=j:=by
   rw[seqIndex_neg (by omega) h3] at h1;rw[z1c,<-hl];exact Option.some.inj h1
  exact PySem.W.ki_setBack ho (by omega) (by rw[z1c,<-hl];exact h3) (by omega) (by rw[hk];exact⟨_,I',q⟩)
theorem slice_bounds (lo hi:Option Int) (n:Nat):(sliceBounds lo hi none n).1=((HT.sIx n 0 lo:Nat):Int)/\(sliceBounds lo hi none n).2.1=((HT.sIx n n hi:Nat):Int)/\(sliceBounds lo hi none n).2.2=1:=by
 refine⟨?_,?_,rfl⟩
 ·cases lo with
  |none=>simp[sliceBounds,HT.sIx]
  | some i=>
   simp only[sliceBounds,HT.sIx,Option.getD_none,show (1:Int) > 0 by decide,if_true];by_cases h:i < 0
   ·simp only[h,if_true];exact HT.aaE n h
   ·simp only[h,if_false];obtain⟨k,rfl⟩:=Int.eq_ofNat_of_zero_le (Int.not_lt.mp h);exact HT.aaF k n
 ·cases hi with
  |none=>simp[sliceBounds,HT.sIx]
  | some i=>
   simp only[sliceBounds,HT.sIx,Option.getD_none,show (1:Int) > 0 by decide,if_true];by_cases h:i < 0
   ·simp only[h,if_true];exact HT.aaE n h
   ·simp only[h,if_false];obtain⟨k,rfl⟩:=Int.eq_ofNat_of_zero_le (Int.not_lt.mp h);exact HT.aaF k n
theorem slicePick_cut (its:List Value) (lo hi:Option Int):slicePick its.toArray lo hi none=((its.drop (HT.sIx its.length 0 lo)).take (HT.sIx its.length its.length hi - HT.sIx its.length 0 lo)).toArray:=by
 obtain⟨h1,h2,h3⟩:=slice_bounds lo hi its.toArray.size;unfold slicePick;rw[h1,h2,h3];simp only[sliceRange_one,pick_run,z1c] <;> rfl
def rSlL (K:PySem.W.Frag):V->Option Int->Option Int->Hp->VK->Prop:=λ x lo hi H Q=>∃a xs,x= .ref a/\SqL K H a xs/\∀p,H p=none->Q (.ref p) (upd H p (.lst (cutV xs lo hi)))
theorem sl_list:SlR X (rSlL X.K):=by
 intro pins s σ H x v vl vu lo hi sl Q I rx hs pl pu h;obtain⟨a,xs,rfl,hx,q⟩:=h;cases rx;obtain⟨its,r,ht,hz⟩:=I.list hx;have hlen:=r.length;refine⟨"list",_,slot_list_getitem.lookup,ht.isList.typeIs,?_⟩;refine wpAny_getItem_list_slice ht.isList hs pl pu .none (by simp) ?_ (by rw[z1c] <;> omega);rw[slicePick_cut,<-hlen];refine⟨.ref s.heap.objs.size,_,I.laid (t':=s.toks) (o:= .lst (cutV xs lo hi)) (λ b ob q=>z1a _ q) (z0g _) ?_,rfl,q _ (I.hok.fresh (z0g _))⟩;exact⟨z0b (cutV_length xs lo hi) hz,_,0,(r.drop (HT.sIx xs.length 0 lo)).take (HT.sIx xs.length xs.length hi - HT.sIx xs.length 0 lo),z1f _ rfl⟩
def flatV:V->Bool
 | .non=>true
 | .bl _=>true
 | .int _=>true
 | .str _=>true
 |_=>false
def eqV:V->V->Bool
 | .non,.non=>true
 | .bl a,.bl b=>a ==b
 | .bl a,.int b=>(if a then 1 else 0) ==b
 | .int a,.bl b=>a ==(if b then 1 else 0)
 | .int a,.int b=>a ==b
 | .str a,.str b=>a ==b
 |_,_=>false
theorem eqAt_V {A:Around} {y x:V} {u v:Value} (ry:RelV y u) (rx:RelV x v) (fy:flatV y=true) (fx:flatV x=true):SeqAt.EqAt A s u v (eqV y x):=by
 cases y with
 | non=>
  cases ry;cases x with
  |non=>cases rx;exact SeqAt.EqAt.same _
  |bl b=>cases rx;exact SeqAt.EqAt.none_bool b
  |int b=>obtain⟨t,rfl⟩:=rx;exact SeqAt.EqAt.none_int b t
  |str b=>obtain⟨t,rfl⟩:=rx;exact SeqAt.EqAt.none_str b t
  |_=>exact absurd (show false=true from fx) Bool.false_ne_true
 | bl a=>
  cases ry;cases x with
  |non=>cases rx;exact SeqAt.EqAt.bool_none a
  |bl b=>cases rx;exact SeqAt.EqAt.bool_bool a b
  |int b=>obtain⟨t,rfl⟩:=rx;exact SeqAt.EqAt.bool_int a b t
  |str b=>obtain⟨t,rfl⟩:=rx;exact SeqAt.EqAt.bool_str a b t
  |_=>exact absurd (show false=true from fx) Bool.false_ne_true
 | int a=>
  obtain⟨t',rfl⟩:=ry;cases x with
  |non=>cases rx;exact SeqAt.EqAt.int_none a t'
  |bl b=>cases rx;exact SeqAt.EqAt.int_bool a t' b
  |int b=>obtain⟨t,rfl⟩:=rx;exact SeqAt.EqAt.int_int a t' b t
  |str b=>obtain⟨t,rfl⟩:=rx;exact SeqAt.EqAt.int_str a t' b t
  |_=>exact absurd (show false=true from fx) Bool.false_ne_true
 | str a=>
  obtain⟨t',rfl⟩:=ry;cases x with
  |non=>cases rx;exact SeqAt.EqAt.str_none a t'
  |bl b=>cases rx;exact SeqAt.EqAt.str_bool a t' b
  |int b=>obtain⟨t,rfl⟩:=rx;exact SeqAt.EqAt.str_int a t' b t
  |str b=>obtain⟨t,rfl⟩:=rx;exact SeqAt.EqAt.str_str a t' b t
  |_=>exact absurd (show false=true from fx) Bool.false_ne_true
 |_=>exact absurd (show false=true from fy) Bool.false_ne_true
def eqU (x:V) (u:Value):Bool:=match u with
 | .none=>eqV .non x
 | .bool b=>eqV (.bl b) x
 | .int i _=>eqV (.int i) x
 | .str z _=>eqV (.str z) x
 |_=>false
theorem eqU_of {x y:V} {u:Value} (r:RelV y u) (f:flatV y=true):eqU x u=eqV y x:=by
 cases y with
 |non=>cases r;rfl
 |bl b=>cases r;rfl
 |int i=>obtain⟨t,rfl⟩:=r;rfl
 |str z=>obtain⟨t,rfl⟩:=r;rfl
 |_=>exact absurd (show false=true from f) Bool.false_ne_true
theorem any_eqU {x:V}:∀{xs:List V} {us:List Value},Vals xs us->xs.all flatV=true->us.any (eqU x)=xs.any λ y=>eqV y x
 |_,_,.nil,_=>rfl
 | y::xs,u::us,.cons r t,f=>by
  rw[List.all_cons,Bool.and_eq_true] at f;rw[List.any_cons,List.any_cons,eqU_of r f.1,any_eqU t f.2]
theorem mem_eqAt {A:Around} {s:Shared} {x:V} {v:Value} (rx:RelV x v) (fx:flatV x=true):∀{xs:List V} {us:List Value},Vals xs us->xs.all flatV=true->∀u∈us,SeqAt.EqAt A s u v (eqU x u)
 |_,_,.nil,_=>λ u hu=>by cases hu
 | y::xs,u::us,.cons r t,f=>λ u' hu=>by
  rw[List.all_cons,Bool.and_eq_true] at f;rcases List.mem_cons.mp hu with rfl |hu
  ·rw[eqU_of r f.1];exact eqAt_V r rx f.1 fx
  ·exact mem_eqAt rx fx t f.2 u' hu
def inV (x:V) (xs:List V):Bool:=xs.any λ y=>eqV y x
def rIn (K:PySem.W.Frag) (neg:Bool):R2:=λ x y H Q=>∃p xs,y= .ref p/\(SqL K H p xs\/SqT K H p xs)/\flatV x=true/\xs.all flatV=true/\Q (.bl (if neg then !inV x xs else inV x xs)) H
theorem op_notIn_seq:OpR X (compareOp .NotIn) (rIn X.K true):=by
 intro pins s σ H x y v u Q I rx ry h;obtain⟨p,xs,rfl,hq,fx,fs,q⟩:=h;cases ry;rcases hq with hq |hq
 ·obtain⟨its,r,pl,hz⟩:=I.list hq;refine SeqAt.notIn_listAt (eqU x) pl.isList (λ w hw=>mem_eqAt rx fx r fs w (by simpa using hw)) ⟨.bl _,H,I,rfl,?_⟩;rw[show its.toArray.any (eqU x)=its.any (eqU x) by simp,any_eqU r fs];exact q
 ·obtain⟨its,r,pl,hz⟩:=I.tuple hq;refine SeqAt.notIn_tupleAt (eqU x) pl (λ w hw=>mem_eqAt rx fx r fs w (by simpa using hw)) ⟨.bl _,H,I,rfl,?_⟩;rw[show its.toArray.any (eqU x)=its.any (eqU x) by simp,any_eqU r fs];exact q
theorem call_len_seq:CallR X (.builtin "len") (λ xs H Q=>∃p ys,xs=[.ref p]/\(SqL X.K H p ys\/SqT X.K H p ys)/\Q (.int ys.length) H):=by
 intro pins s σ H xs us Q I r h;obtain⟨p,ys,rfl,hq,q⟩:=h;obtain⟨u,rfl,rx⟩:=vals1 r;cases rx;have hn:=line63;rcases hq with hq |hq
 ·obtain⟨its,r',pl,hz⟩:=I.list hq;have hlen:=r'.length;exact Calls.call_len_list pl.isList (by simp only[z1c] <;> omega) ⟨.int ys.length,H,I.tok _,⟨s.toks+1,by rw[z1c,hlen]⟩,q⟩
 ·obtain⟨its,r',pl,hz⟩:=I.tuple hq;have hlen:=r'.length;exact len_tuple pl (by simp only[z1c] <;> omega) ⟨.int ys.length,H,I.tok _,⟨s.toks+1,by rw[z1c,hlen]⟩,q⟩
theorem call_list_of:CallR X (.type "list") (λ xs H Q=>∃p ys,xs=[.ref p]/\(SqL X.K H p ys\/SqT X.K H p ys)/\∀l,H l=none->Q (.ref l) (upd H l (.lst ys))):=by
 intro pins s σ H xs us Q I r h;obtain⟨p,ys,rfl,hq,q⟩:=h;obtain⟨u,rfl,rx⟩:=vals1 r;cases rx;have fin:∀(its:List Value),Vals ys its->ys.length<=sizeLine->∀(h':Heap) (c':Nat),(∀b o',s.heap.get? b=some o'->h'.get? b=some o')->
   h'.get? s.heap.objs.size=some {cls:= .type "list",dict:=none,data:= .seq its.toArray c',slots:= #[]}->EP X pins σ Q (.ref s.heap.objs.size) {s with heap:=h'}:=λ its r' hz h' c' kp e=>
  ⟨.ref s.heap.objs.size,_,I.laid (t':=s.toks) kp (z0g _) (show ObjOk X.prog X.w _ h' _ (.lst ys) from ⟨hz,its,c',r',e⟩),rfl,q _ (I.hok.fresh (z0g _))⟩
 rcases hq with hq |hq
 ·obtain⟨its,r',pl,hz⟩:=I.list hq;have hlen:=r'.length;obtain⟨o,ho,hc,n,hd⟩:=pl.isList;exact call_list_seq p (.inl rfl) ho hc hd (λ h' c' kp e=>fin its r' hz h' c' kp e) (by simp only[z1c] <;> omega)
 ·obtain⟨its,r',pl,hz⟩:=I.tuple hq;have hlen:=r'.length;obtain⟨o,ho,hc,n,hd⟩:=pl;exact call_list_seq p (.inr rfl) ho hc hd (λ h' c' kp e=>fin its r' hz h' c' kp e) (by simp only[z1c] <;> omega)
theorem call_tuple_of:CallR X (.type "tuple") (λ xs H Q=>∃p ys,xs=[.ref p]/\((SqL X.K H p ys/\∀l,H l=none->Q (.ref l) (upd H l (.tup ys)))\/(SqT X.K H p ys/\Q (.ref p) H))):=by
 intro pins s σ H xs us Q I r h;obtain⟨p,ys,rfl,h⟩:=h;obtain⟨u,rfl,rx⟩:=vals1 r;cases rx;rcases h with⟨hq,q⟩ |⟨hq,q⟩
 ·obtain⟨its,r',pl,hz⟩:=I.list hq;have hlen:=r'.length;refine call_tuple_list pl.isList (λ h' kp=>?_) (by simp only[z1c] <;> omega);have I1:Inv X pins σ H {s with heap:=h'}:=I.kept (t':=s.toks) kp;have I2:Inv X pins σ (upd H h'.objs.size (.tup ys)) {s with heap:=h'.push {cls:= .type "tuple",data:= .seq its.toArray}}:=
   I1.laid (t':=s.toks) (λ b o e=>z1a _ e) (z0g _) (show ObjOk X.prog X.w _ _ _ (.tup ys) from ⟨hz,its,r',uF.new _ _⟩)
  exact⟨.ref h'.objs.size,_,I2,rfl,q _ (I1.hok.fresh (z0g _))⟩
 ·obtain⟨its,r',pl,hz⟩:=I.tuple hq;exact call_tuple_same pl ⟨.ref p,H,I,rfl,q⟩
def tyV (K:PySem.W.Frag) (T:String) (x:V) (H:Hp):Prop:=match x with
 | .str _=>T= "str"
 | .int _=>T= "int"
 | .ref p=>(T= "list"/\∃xs,SqL K H p xs)\/(T= "tuple"/\∃xs,SqT K H p xs)\/
   (T= "dict"/\((∃kvs,H p=some (.dK kvs))\/∃kvs,H p=some (.dT kvs)))\/(T= "set"/\∃S n,H p=some (.set S n))
 |_=>False
theorem tyV_is {σ:St} {H:Hp} {T:String} {x:V} {v:Value} (I:Inv X pins σ H s) (r:RelV x v) (ty:tyV X.K T x H):
  s.TypeIs v T/\∀a,v= .ref a->∃ob,s.heap.get? a=some ob/\ob.dict=none:=by
 cases x with
 | str z=>
  obtain⟨t,rfl⟩:=r;cases (show T= "str" from ty);exact⟨typeIs_str s z t,λ _ e=>nomatch e⟩
 | int i=>
  obtain⟨t,rfl⟩:=r;cases (show T= "int" from ty);exact⟨typeIs_int s i t,λ _ e=>nomatch e⟩
 | ref p =>
  cases r;rcases ty with⟨rfl,xs,hq⟩ |⟨rfl,xs,h |⟨o,its,n,hk,hc,hd,_⟩⟩ |⟨rfl,hk⟩ |⟨rfl,S,n,hk⟩
  ·obtain⟨its,_,pl,_⟩:=I.list hq;refine⟨pl.isList.typeIs,λ a e=>?_⟩;cases e;obtain⟨o,n,e,c,hd,_⟩:=pl;exact⟨o,e,hd⟩
  ·obtain⟨_,its,_,o,e1,c1,d1,_⟩:=h.ok I.hok;refine⟨⟨o,e1,c1⟩,λ a e=>?_⟩;cases e;exact⟨o,e1,d1⟩
  ·refine⟨⟨o,I.kIn p o hk,hc⟩,λ a e=>?_⟩;cases e;exact⟨o,I.kIn _ o hk,hd⟩
  ·have z:∃o,s.heap.get? p=some o/\o.ExactDict:=by
    rcases hk with⟨kvs,hk⟩ |⟨kvs,hk⟩
    ·obtain⟨_,_,_,_,o,_,_,e,ex,_⟩:=I.hok p _ hk;exact⟨o,e,ex⟩
    ·obtain⟨_,_,_,_,o,_,_,e,ex,_⟩:=I.hok p _ hk;exact⟨o,e,ex⟩
   obtain⟨o,e,ex⟩:=z;refine⟨⟨o,e,ex.1⟩,λ a e2=>?_⟩;cases e2;exact⟨o,e,ex.2.1⟩
  ·obtain⟨o,_,_,_,e,ex,_⟩:=I.hok p _ hk;refine⟨⟨o,e,ex.1⟩,λ a e2=>?_⟩;cases e2;exact⟨o,e,ex.2.1⟩
 |_=>exact False.elim ty
def tBM (K:PySem.W.Frag) (T:String) (r:V->List V->Hp->VK->Prop) (to:TE) (t:TA):TE:=λ σ H Q=>to σ H λ x H1=>tyV K T x H1/\t σ H1 λ xs H2=>r x xs H2 Q
variable {o e:Expr} {es:List Expr} {to:TE} {t:TA} {name:Str} {apos cpos:Pos} {T id:String} {r:V->List V->Hp->VK->Prop}
theorem pe_bm (pa:PlainAttrs T) (slot:Slot T name id) (hty:typeOf (.builtin id)=pure (.type "method_descriptor")) (hm:MtR X id r) (ho:PE X o to) (ha:PA X (e::es) t)
  (hbase:attributeBase o name X.env (eval o X.env)=eval o X.env:=by rfl)
  (hfew:((backTo cpos (starEach (e::es) X.env)).all (λ x=> !x.1) && (backToKw cpos (keywordEach [] X.env)).all (λ x=>x.1.isSome)
   && decide ((e::es).length+([]:List Keyword).length+(if ([]:List Keyword).isEmpty then 0 else 1) < 30))=true:=by rfl)
  (hline:(apos.endLine ==cpos.line)=true:=by rfl) (hs:starEach (e::es) X.env=(false,eval e X.env)::starEach es X.env:=by rfl) (hplain:(backTo cpos (starEach es X.env)).any (·.1)=false:=by rfl):
  PE X (.Call (.Attribute o name apos) (e::es) [] cpos) (tBM X.K T r to t):=by
 intro pins s σ H Q I h;refine wpAny_Call_method_late hbase hfew hline rfl (thn (ho pins s σ H _ I h) λ v s1 bA=>?_);obtain⟨x,H1,I1,r1,ty,q1⟩:=bA;obtain⟨h1,h2⟩:=tyV_is I1 r1 ty;refine⟨T,id,pa,slot,hty,h1,h2,?_⟩;have hA:=ha cpos pins s1 σ H1 _ I1 q1;rw[hs] at hA |-;refine Calls.callWith_builtin (by show (false || (backTo cpos (starEach es X.env)).any (·.1))=false;rw[hplain] <;> rfl) (Calls.evalArgs_plain ?_);refine thn hA λ us s2 bA=>?_;obtain⟨vs,H2,I2,r2,q2⟩:=bA;exact hm pins s2 σ H2 x vs v us Q I2 r1 r2 q2
end
def MtM (X:Cx) (id:String) (r:V->List V->Hp->VK->Prop):Prop:=
 ∀ (pins:List (Addr×Obj)) (s:Shared) (σ:St) (H:Hp) (x:V) (xs:List V) (v:Value) (us:List Value) (Q:VK),Inv X pins σ H s->RelV x v->Vals xs us->r x xs H Q->
  wpAny (model X.prog X.w) X.A (call (.builtin id) (v::us)) (EP X pins σ Q) X.xe s
theorem Vals.one:∀{x:V} {us:List Value},Vals [x] us->∃u,us=[u]/\RelV x u
 | _,_,h=>by
  cases h with
  |cons r t=>cases t;exact⟨_,rfl,r⟩
theorem Vals.eraseIdx:∀{xs:List V} {us:List Value} (i:Nat),Vals xs us->Vals (xs.eraseIdx i) (us.eraseIdx i)
 |_,_,_,.nil=> .nil
 |_,_,0,.cons _ t=>t
 |_,_,i+1,.cons r t=> .cons r (Vals.eraseIdx i t)
theorem Vals.rep {xs:List V} {us:List Value} (h:Vals xs us):∀k:Nat,Vals (List.replicate k xs).flatten (List.replicate k us).flatten
 |0=> .nil
 | k+1=>by
  rw[List.replicate_succ,List.replicate_succ,List.flatten_cons,List.flatten_cons];exact Vals.append h (Vals.rep h k)
theorem len_erase {α:Type}:∀(l:List α) (i:Nat),(l.eraseIdx i).length<=l.length
 |[],_=>z0g _
 |_::_,0=>Nat.le_succ _
 |_::r,i+1=>Nat.succ_le_succ (len_erase r i)
theorem foldl_rep (its:List Value):∀(k:Nat) (acc:List Value),
  List.foldl (λ x1 x2=>x1++x2) acc.toArray (List.replicate k its.toArray)=(acc++(List.replicate k its).flatten).toArray
 |0,acc=>by simp
 | k +1,acc=>by
  have e:acc.toArray++its.toArray=(acc++its).toArray:=by simp
  have e2:(acc++its)++(List.replicate k its).flatten=acc++(List.replicate (k+1) its).flatten:=by
   rw[List.replicate_succ,List.flatten_cons,List.append_assoc]
  rw[<-e2,<-foldl_rep its k (acc++its),<-e,List.replicate_succ,List.foldl_cons]
section
variable {X:Cx} {pins:List (Addr×Obj)} {σ:St} {H:Hp} {s:Shared} {l b:Addr} {xs ys zs:List V}
theorem Inv.lset {its':List Value} {n:Nat} {f:Array Value->Array Value} {t':Nat} (I:Inv X pins σ H s) (hH:H l=some (.lst xs))
  (e:s.heap.get? l=some {cls:= .type "list",data:= .seq its.toArray n}) (hf:f its.toArray=its'.toArray) (hv:Vals ys its') (hz:ys.length<=sizeLine):
  Inv X pins σ (upd H l (.lst ys)) {s with heap:=s.heap.update l (Obj.mapSeq f),toks:=t'}:=by
 have q:=PySem.IsL.update e f;rw[hf] at q;refine I.write (x:=l) (e:=l) (by rw[hH];exact trivial) (.inl rfl) (λ b' u hb hu=>(Heap.get?_update_other s.heap (Obj.mapSeq f) (Ne.symm hb)).trans hu) ⟨_,q⟩ ?_;exact⟨hz,its',_,hv,q⟩
theorem Inv.lnew {t':Nat} (I:Inv X pins σ H s) (hv:Vals ys its) (hz:ys.length<=sizeLine):
  Inv X pins σ (upd H s.heap.objs.size (.lst ys)) {s with heap:=s.heap.push {cls:= .type "list",data:= .seq its.toArray},toks:=t'}:=
 I.laid (λ _ _ q=>z1a _ q) (z0g _) ⟨hz,its,0,hv,z1f _ rfl⟩
theorem Inv.fresh (I:Inv X pins σ H s):H s.heap.objs.size=none:=I.hok.fresh (z0g _)
theorem Inv.lstM (I:Inv X pins σ H s) (hH:H l=some (.lst xs)):xs.length<=sizeLine/\∃(its:List Value) (n:Nat),Vals xs its/\xs.length=its.length/\s.heap.get? l=some {cls:= .type "list",data:= .seq its.toArray n}:=by
 obtain⟨z,its,n,r,e⟩:=I.hok l _ hH;exact⟨z,its,n,r,r.length,e⟩
end
section
variable {X:Cx}
def rAppend:V->List V->Hp->VK->Prop:=λ x vs H Q=>∃l xs y,x= .ref l/\vs=[y]/\H l=some (.lst xs)/\xs.length < sizeLine/\Q .non (upd H l (.lst (xs++[y])))
theorem mt_append:MtM X "list.append" rAppend:=by
 intro pins s σ H x vs v us Q I rx rv h;obtain⟨l,xs,y,rfl,rfl,hH,hz,q⟩:=h;cases rx;obtain⟨u,rfl,ru⟩:=rv.one;obtain⟨z,its,n,r,hl,e⟩:=I.lstM hH;refine call_meets F.slot_list_append ⟨_,e,rfl⟩ F.entry_list_append (F.args_list_append_2 _ _) (PySem.list_append l its.toArray n u (by rw[z1c];omega)) ⟨e,?_⟩;refine⟨.non,_,I.lset (its':=its++[u]) hH e (by simp) (r.append (.cons ru .nil)) ?_,rfl,q⟩;rw[z1d,List.length_singleton];omega
def rPopAt:V->List V->Hp->VK->Prop:=λ x vs H Q=>∃l xs i k y,x= .ref l/\vs=[.int i]/\H l=some (.lst xs)/\-(2 ^ 63)<=i/\i < 2 ^ 63/\seqIndex? i xs.length=some k/\xs[k]?=some y/\Q y (upd H l (.lst (xs.eraseIdx k)))
theorem mt_popAt:MtM X "list.pop" rPopAt:=by
 intro pins s σ H x vs v us Q I rx rv h;obtain⟨l,xs,i,k,y,rfl,rfl,hH,h1,h2,hk,hy,q⟩:=h;cases rx;obtain⟨u,rfl,ru⟩:=rv.one;obtain⟨t,rfl⟩:=ru;obtain⟨z,its,n,r,hl,e⟩:=I.lstM hH;obtain⟨w,hw,rw'⟩:=r.get hy;refine call_meets F.slot_list_pop ⟨_,e,rfl⟩ F.entry_list_pop (F.args_list_pop_2 _ _)
  (MeetsSeq.list_pop_at l its.toArray n i t k w (fitsIndex_both h1 h2) (by rw[z1c,<-hl];exact hk) (by rw[<-Array.getElem?_toList];exact hw) (by rw[z1c];omega)) ⟨e,?_⟩
 refine⟨y,_,I.lset (its':=its.eraseIdx k) hH e ?_ (r.eraseIdx k) ?_,rw',q⟩
 ·show its.toArray.eraseIdxIfInBounds k=(its.eraseIdx k).toArray;rw[List.eraseIdxIfInBounds_toArray]
 ·have:=len_erase xs k;omega
theorem len_rep {α:Type} (xs:List α) (k:Nat):(List.replicate k xs).flatten.length=k*xs.length:=by
 induction k with
 |zero=>simp
 |succ k ih=>rw[List.replicate_succ,List.flatten_cons,z1d,ih,Nat.succ_mul,Nat.add_comm]
end
section
variable {prog:Program} {w:World} {A:Around} {E:Value->Shared->Prop} {s:Shared}
end
section
variable {X:Cx}
end
section
variable {κ:Type} [DecidableEq κ]
end
section
variable {P:Program} {w:World} {H:Hp} {h:Heap} {a:Addr}
end
section
variable {X:Cx} {pins:List (Addr×Obj)} {σ:St} {H:Hp} {s:Shared} {a:Addr} {y v:V} {u r:Value} {o:Option V} {A:Around} {E:Value->Shared->Prop}
end
section
variable {X:Cx} {pins:List (Addr×Obj)} {σ:St} {H:Hp} {s:Shared} {a:Addr} {kvs:List (Key×V)} {k:Key} {u:Value} {A:Around} {E:Value->Shared->Prop}
end
section
variable {X:Cx} {o i e value:Expr} {pos pos' tpos:Pos} {td ty tv:TE}
end
section
variable {X:Cx} {pos:Pos}
end
section
variable {X:Cx} {pins:List (Addr×Obj)} {σ:St} {H:Hp} {s:Shared} {a:Addr} {y d:V} {u r:Value} {o:Option V} {A:Around} {E:Value->Shared->Prop}
end
section
variable {X:Cx} {o e f:Expr} {apos cpos:Pos} {td ty tx:TE}
end
section
variable {X:Cx} {pins:List (Addr×Obj)} {σ:St} {H:Hp} {s:Shared} {a:Addr} {kvs:List (Key×V)} {A:Around} {E:Value->Shared->Prop}
end
section
variable {X:Cx} {pins:List (Addr×Obj)} {σ:St} {H:Hp} {s:Shared} {a:Addr} {y:V} {u:Value} {A:Around} {E:Value->Shared->Prop}
end
end L2
namespace Att
open PySem PySem.W PySem.Calls PyProof.Rows
theorem ints_of_wellAll {P:Params} {h:Heap}:∀(ns:List Int) (vs:List Value),WellAll P h vs (ns.map WData.int)->IntsAre vs ns:=by
 intro ns
 induction ns with
 | nil=>
  intro vs w;rw[List.map_nil] at w;cases w;exact .nil
 | cons n ns ih=>
  intro vs w;rw[z1h] at w;cases w with
  | cons a b=>
   cases a;exact .cons _ _ (ih _ b)
theorem script_of {l:OpenLaw} {n:Nat} (hn:l.most=some n) {P:Params} {h:Heap} {args:List WData} {vals:List Value}
  (hpre:l.row.toRowW.claim.pre args=true) (hwl:WellAll P h vals args):
  ∃a vs ns,vals=[Value.ref a]/\args=[WData.list (ns.map WData.int)]/\h.get? a=some {cls:= .type "list",data:= .seq vs.toArray}/\IntsAre vs ns/\ns.length<=n:=by
 have hsh:WShape.hasAll [] args [.list .int]=true:=(pre_splitW hpre).1;have hc:l.pre.holds [] {args:=args}=true:=(pre_splitW hpre).2;obtain⟨d,r,rfl,h1,h2⟩:=hasAllW_cons hsh;obtain rfl:=hasAllW_nil h2;obtain⟨xs,rfl,h3⟩:=hasW_list h1;obtain⟨ns,rfl⟩:=items_int h3;have hlen:ns.length<=n:=by
  unfold OpenLaw.pre at hc;have h4:(WTm.not (.lt (.lit (.int (n:Int))) (.len (.arg 0)))).holds [] {args:=[.list (ns.map .int)]}=true:=by
   have h4:=(holds_andW hc).1;rw[hn] at h4;exact h4
  have h5:=condW_of h4 (w_not (w_lt w_lit (w_len_list (w_arg rfl))));rw[z1g] at h5;refine Nat.le_of_not_lt λ q=>?_;have q':(n:Int) < ((ns.length:Nat):Int):=by omega
  first
   |(rw[decide_eq_true q'] at h5;exact absurd h5 (by decide))
   |(simp at h5;omega)
 cases hwl with
 | cons w1 w2=>
  cases w2;cases w1 with
  |list ho hall=>exact⟨_,_,ns,rfl,rfl,ho,ints_of_wellAll ns _ hall,hlen⟩
theorem post_true (l:OpenLaw) (args:List WData):l.row.toRowW.claim.post args (.bool true) args=true:=
 postW_of (r:=l.row.toRowW) (X:=(true ==true))
  (show WShape.has [] (.bool true) .bool=true by first |rfl |decide |simp [WShape.has,WShape.arms,WShape.armsAll])
  (show (WTm.eq .res (.lit (.bool true))).value [] {args:=args,res:=some (.bool true),after:=args}=some (.bool (true ==true)) from w_eq_bool (w_res rfl) w_lit) rfl
theorem attach_call {l:OpenLaw} {n:Nat} {q:Program} {loose:List Str} {XP:(Str->Option Value)->Heap->Prop} {YP:World->Heap->Prop} {d:DefRec}
  (hn:l.most=some n) (hdf:d.params.defaults=[])
  (call:∀(w:World) (s₀ s₁:Shared) (mg mb:Str->Option Value) (fa:Addr) (o:Obj) (pm cd doc:Value) (a:Addr) (vs:List Value) (ns:List Int),
   Ground q loose [] XP w s₀ mg mb s₁.heap->YP w s₁.heap->
   s₁.heap.get? fa=some o->o.data= .func (docDef d.name d.params d.body d.scope pm cd doc)->s₁.heap.CodeRec cd d.name->mg d.name=some (.ref fa)->
   s₁.heap.get? a=some {cls:= .type "list",data:= .seq vs.toArray}->IntsAre vs ns->ns.length<=n->s₁.gens= #[]->
   codeAny (model l.prog w) callerA (.call (.ref fa) ⟨[.ref a],[]⟩) (λ r s'=>r= .ok (.ret (.bool true))/\OldK s₁.heap s'.heap/\s'.os=s₁.os/\AllBare s'.gens) s₁):
  WalkO q loose XP YP l.row.toRowW d [] (λ f vs=>PySem.call f vs):=by
 intro w s₀ s₁ mg mb G Y fa o pm cd doc dV kV ho hd hcd hD hmg hg args vals as hpre hlay hrd hwl hlo;obtain rfl:dV= .none:=Dflts.none hD hdf;obtain rfl:kV= .none:=Dflts.noKw hD;obtain⟨a,vs,ns,rfl,rfl,hobj,hints,hlen⟩:=script_of hn hpre hwl;refine enter_call (codeAny_mono (call w s₀ s₁ mg mb fa o pm cd doc a vs ns G Y ho (fd_plain hd) hcd hmg hobj hints hlen hg) λ r s' hq=>?_);obtain⟨rfl,h2,h3,h4⟩:=hq;exact⟨.inl ⟨.bool true,.bool true,[],rfl,λ _=>rfl,.bool true,post_true l _,λ _=>⟨List.Pairwise.nil,λ _ hm=>(nomatch hm)⟩⟩,h2,h3,h4⟩
section
variable {prog:Program} {w:World} {A:Around} {E:Value->Shared->Prop} {s:Shared} {K:Frag}
end
end Att
namespace L2
open PySem PySem.Spec PyProof.Rows
variable {fd:FuncData} {st:Stmt} {x qual:Str}
theorem vals_ints:∀{vs:List Value} {ns:List Int},IntsAre vs ns->Vals (ns.map V.int) vs
 :=by
 intro vs ns h
 induction h with
 |nil=>exact .nil
 |cons n t h ih=>exact .cons ⟨t,rfl⟩ ih
def Only (H:Hp):Prop:=∀b,H b=none\/∃o xs,H b=some (.frz o (.lst xs))
theorem law_call {P:Program} {w:World} {K:PySem.W.Frag} {mg mb:Str→Option Value} {CX:CXT} {k:Nat} {fa a:Addr} {sp:Sp} {s₁:Shared} {vs:List Value} {ns:List Int}
    (KX:K.In s₁.heap) (hns:s₁.heap.Ns mainGlobals mg) (hb:s₁.heap.Ns builtinsNs mb) (hbb:∀x:Str,x≠"__name__"→mb x=bootBuiltins x) (hlim:s₁.heap.NoLimit) (hg:s₁.gens= #[])
    (ha:s₁.heap.get? a=some {cls:= .type "list",data:= .seq vs.toArray}) (hi:IntsAre vs ns) (hl:ns.length≤sizeLine) (hr:Room k callerA)
    (F:∀base:Heap,K.In base→base.Ns mainGlobals mg→FnOk P w K mg base CX k fa fd [x] sp) (hbind:∀(s:Shared) (u:Value),BindsTo s fd ⟨[u],[]⟩ [(x,u)])
    (hsp:∀H:Hp,Only H→SqL K H a (ns.map V.int)→sp [.ref a] H (fun v _=>v= .bl true) fun _ _ _=>False)
    (hCX:∀H e s',CX [] H s₁ (fun _ _ _=>False) e s'→False):
    codeAny (model P w) callerA (.call (.ref fa) ⟨[.ref a],[]⟩) (fun r s'=>r= .ok (.ret (.bool true))∧OldK s₁.heap s'.heap∧s'.os=s₁.os∧AllBare s'.gens) s₁:=by
  have rv:=vals_ints hi
  have lenV:=hi.length
  have core :∀H:Hp,Only H→SqL K H a (ns.map V.int)→HOk P w H s₁.heap→(∀b,H b≠none→b=a)→(H a≠none→K.lookup a=none)→
      codeAny (model P w) callerA (.call (.ref fa) ⟨[.ref a],[]⟩) (fun r s'=>r= .ok (.ret (.bool true))∧OldK s₁.heap s'.heap∧s'.os=s₁.os∧AllBare s'.gens) s₁:=by
    intro H hO hS hok hA hK
    have base_of:∀{b:Addr} {o:Obj},s₁.heap.get? b=some o→H b=none→(hidT s₁.heap H).get? b=some o:=fun e n=>hidT_get e n
    have noA:∀{b:Addr} {o:Obj} {es:Array DictEntry} {ep:Nat},s₁.heap.get? b=some o→o.data= .dict es ep→H b=none:=fun {b o es ep} e d=>by
      cases q:H b with
      |none=>rfl
      | some u=>
        have e':b=a:=hA b (by rw[q];simp)
        subst e'
        rw[ha] at e;cases e
        have d':Data.seq vs.toArray _=Data.dict es ep:=d
        cases d'
    have nsK:∀{b:Addr} {m:Str→Option Value},s₁.heap.Ns b m→(hidT s₁.heap H).Ns b m:=fun {b m} ⟨o,es,ep,e,d,r⟩=>⟨o,es,ep,base_of e (noA e d),d,r⟩
    have hKb:K.In (hidT s₁.heap H):=fun b o e=>base_of (KX b o e) (by
      cases q:H b with
      |none=>rfl
      | some u=>
        have e':b=a:=hA b (by rw[q];simp)
        subst e'
        rw[hK (by rw[q];simp)] at e;cases e)
    have hM:Mod K mg (hidT s₁.heap H):=⟨hKb,nsK hns,⟨mb,nsK hb,hbb⟩,let ⟨mc,h1,h2⟩:=hlim;⟨mc,nsK h1,h2⟩⟩
    have e0:Env0 P w K mg (hidT s₁.heap H) callerA [] s₁ H:=⟨rfl,hM,fun b o e=>of_hidT e,Nat.le_of_eq (hidT_size _ _),trivial,fun b hb=>absurd (show b∈([]:List Addr) from hb) (by simp),hok,.of_eq hg⟩
    refine codeAny_mono ((F _ hKb (nsK hns)).run callerA [] s₁ H ⟨[.ref a],[]⟩ [.ref a] [.ref a] _ _ hr e0 (hbind s₁ (.ref a)) (.cons rfl .nil) (hsp H hO hS)) fun r s' h=>?_
    cases r with
    |error e=>exact (hCX H e s' h).elim
    | ok fl =>
      cases fl with
      |next=>exact False.elim h
      |brk=>exact False.elim h
      |cont=>exact False.elim h
      | ret u=>
        obtain⟨v,H',os,bare,un,hok',r',q⟩:=h
        have q':v= .bl true:=q
        subst q'
        obtain rfl:u=Value.bool true:=r'
        refine⟨rfl,OldK.of_keep fun b o e=>?_,os,bare⟩
        cases q:H b with
        |none=>exact un.keep b o e q (by intro z;exact absurd (show b∈([]:List Addr) from z) (by simp)) (by simp)
        | some u=>
          rcases hO b with z |⟨ob,xs,z⟩
          · rw[q] at z;cases z
          · have z2:=un.frzs b ob _ z
            obtain⟨e1,_⟩:=hok b _ z
            obtain⟨e2,_⟩:=hok' b _ z2
            rw[e] at e1;cases e1
            exact e2
  cases hk:K.lookup a with
  | some o=>
    have e:=KX a o hk
    rw[ha] at e
    cases e
    refine core (fun _=>none) (fun _=> .inl rfl) (.inr ⟨_,vs.toArray,_,hk,rfl,rfl,rfl,by rw[List.size_toArray,lenV];exact hl,by simpa using rv⟩) (fun b u z=>by have z':(none:Option HO)=some u:=z;cases z') (fun b z=>absurd rfl z) fun z=>absurd rfl z
  | none=>
    refine core (fun b=>if b=a then some (.frz {cls:= .type "list",data:= .seq vs.toArray} (.lst (ns.map V.int))) else none) (fun b=>?_) (.inl (.inr ⟨{cls:= .type "list",data:= .seq vs.toArray},if_pos rfl⟩)) (fun b u z=>?_) (fun b z=>?_) fun _=>hk
    · by_cases hb:b=a
      · exact .inr ⟨_,_,if_pos hb⟩
      · exact .inl (if_neg hb)
    · by_cases hb:b=a
      · have z':=(if_pos hb).symm.trans z
        cases z'
        subst hb
        exact⟨ha,by rw[List.length_map];exact hl,vs,_,rv,ha⟩
      · have z':=(if_neg hb).symm.trans z
        cases z'
    · by_cases hb:b=a
      · exact hb
      · exact absurd (if_neg hb) z
theorem walk_of {l:PySem.W.OpenLaw} {n k:Nat} {q:Program} {loose:List Str} {XP:(Str->Option Value)->Heap->Prop} {YP:World->Heap->Prop} {d:DefRec} {K:Params->PySem.W.Frag} {CX:World->CXT} {sp:World->Sp}
  (hn:l.most=some n) (hn2:n<=sizeLine) (hdf:d.params.defaults=[]) (hr:Room k callerA)
  (hY:∀(w:World) (h:Heap),YP w h->(K w.params).In h)
  (F:∀(w:World) (mg:Str->Option Value) (fa:Addr) (h:Heap),(K w.params).In h->h.Ns mainGlobals mg->mg d.name=some (.ref fa)->
   ∃ fd:FuncData,(∀(s:Shared) (u:Value),BindsTo s fd ⟨[u],[]⟩ [(x,u)])/\
    ∀base:Heap,(K w.params).In base->base.Ns mainGlobals mg->FnOk l.prog w (K w.params) mg base (CX w) k fa fd [x] (sp w))
  (hsp:∀(w:World) (H:Hp) (a:Addr) (ns:List Int),ns.length<=n->Only H->SqL (K w.params) H a (ns.map V.int)->sp w [.ref a] H (λ v _=>v= .bl true) λ _ _ _=>False)
  (hCX:∀(w:World) (H:Hp) (s:Shared) (e:Value) (s':Shared),CX w [] H s (λ _ _ _=>False) e s'->False):
  PySem.W.WalkO q loose XP YP l.row.toRowW d [] (λ f vs=>PySem.call f vs):=by
 refine Att.attach_call hn hdf λ w s₀ s₁ mg mb fa o pm cd doc a vs ns G Y ho hd hcd hmg hobj hints hlen hg=>?_;have KX:=hY w _ Y;obtain⟨fd,hb,hF⟩:=F w mg fa _ KX G.T.g hmg;exact law_call KX G.T.g G.T.b G.T.builtins G.T.nolimit hg hobj hints (z0b hlen hn2) hr hF hb (λ H hO hS=>hsp w H a ns hlen hO hS) λ H e s'=>hCX w H s₁ e s'
def defArgs (s:Stmt):Arguments:=match s with
 | .FunctionDef _ a _ _ _ _ _ _ _ _=>a
 |_=>{posonlyargs:=[],args:=[],vararg:=none,kwonlyargs:=[],kw_defaults:=[],kwarg:=none,defaults:=[]}
def defBody (s:Stmt):List Stmt:=match s with
 | .FunctionDef _ _ b _ _ _ _ _ _ _=>b
 |_=>[]
def defScope (s:Stmt):Scope:=match s with
 | .FunctionDef _ _ _ _ _ _ sc _ _ _=>sc
 |_=>{kind:= .function,names:=[],isGenerator:=false,isCoroutine:=false}
abbrev CX0:CXT:=λ _ _ _ _ _ _=>False
abbrev E0:XK:=λ _ _ _=>False
theorem pass0 {X:Cx}:Passes CX0 X E0:=λ _ _ _ _ _ _ _ h=>h.elim
inductive Xw (K:PySem.W.Frag) (x qual:Str) (st:Stmt) (f:Addr) (fd:FuncData):Prop
 |mk (oc:Value) (od:Option Addr) (kV doc pm:Value) (an:Option Addr) (cdv ct:Value) (osl:Array (Option Value)) (e:fd=PySem.W.fnOf x qual (defArgs st) (defBody st) (defScope st) .none kV doc pm an cdv ct) (lk:K.lookup f=some ⟨oc,od,.func fd,osl⟩) (hcd:PySem.W.codeIn K cdv qual=true):Xw K x qual st f fd
structure Fun (K:PySem.W.Frag) (x qual:Str) (st:Stmt) (f:Addr) (fd:FuncData):Prop where
 ex:Xw K x qual st f fd
 kp:PySem.W.keepIn K (.ref f)=true
section
variable {P:Program} {w:World} {K:PySem.W.Frag} {mg:Str->Option Value} {base:Heap}
theorem Fun.ok {f:Addr} {N ps:List Str} {k:Nat} {sp:Sp} (F:Fun K x qual st f fd) (S:FnScope N ps (defScope st)) (len:∀vs H Q E,sp vs H Q E->vs.length=ps.length)
  (hbody:∀(cdv:Value) (A:Around) (outer:List Env) (s:Shared) (H:Hp) (vs:List V) (Q:VK) (E:XK),Room k (A.deeper (envOfC qual (defScope st) s.heap.objs.size f cdv))->sp vs H Q E->
   ∃t,PSs (cxOf CX0 P w K mg base N qual (defScope st) f cdv A outer s H E).nox (defBody st) t/\t {nx:=λ _ H'=>Q .non H',rt:=Q} (start N vs) H):FnOk P w K mg base CX0 (k+1) f fd ps sp:=by
 obtain⟨oc,od,kV,doc,pm,an,cdv,ct,osl,rfl,lk,hcd⟩:=F.ex;refine fn_of lk hcd S len λ A outer s H vs Q E hr hsp=>?_;obtain⟨t,h,q⟩:=hbody cdv A outer s H vs Q E hr hsp;exact⟨t,h.nox,q⟩
theorem Fun.binds {f:Addr} {ps:List Str} (F:Fun K x qual st f fd)
  (h:∀(kV doc pm:Value) (an:Option Addr) (cdv ct:Value) (us:List Value),us.length=ps.length->bindArgs (PySem.W.fnOf x qual (defArgs st) (defBody st) (defScope st) .none kV doc pm an cdv ct) ⟨us,[]⟩=pure (ps.zip us)):Binds K fd ps []:=by
 obtain⟨oc,od,kV,doc,pm,an,cdv,ct,osl,rfl,lk,hcd⟩:=F.ex;exact .all (h kV doc pm an cdv ct)
theorem fun_mk {f:Addr} {oc:Value} {od an:Option Addr} {osl:Array (Option Value)} {kV doc pm cdv ct:Value} (l:K.lookup f=some ⟨oc,od,.func (PySem.W.fnOf x qual (defArgs st) (defBody st) (defScope st) .none kV doc pm an cdv ct),osl⟩)
  (c:PySem.W.codeIn K cdv qual=true) (k:PySem.W.keepIn K (.ref f)=true):Fun K x qual st f (PySem.W.fnOf x qual (defArgs st) (defBody st) (defScope st) .none kV doc pm an cdv ct):=⟨⟨oc,od,kV,doc,pm,an,cdv,ct,osl,rfl,l,c⟩,k⟩
end
section
variable {X:Cx}
theorem pv (i:Nat) {pos:Pos} (hN:X.N[i]?=some x:=by rfl) (hv:Vis X.env.scope x:=by first |exact Or.inl rfl |exact Or.inr (Or.inl rfl) |exact Or.inr (Or.inr rfl)) (hd:(x ==("__debug__" :Str))=false:=by decide)
  (hcd:(x ==("__classdict__" :Str))=false:=by decide):PE X (.Name x pos) (tVar i):=pe_var hN hv hd hcd
end
def Same (H H':Hp):Prop:=∀b o,H b=some o->H' b=some o
theorem Same.refl (H:Hp):Same H H:=λ _ _ h=>h
theorem Same.trans {H H1 H2:Hp} (a:Same H H1) (b:Same H1 H2):Same H H2:=λ c o h=>b c o (a c o h)
theorem Same.free {H H':Hp} (e:Same H H') {l:Addr} (h:H' l=Option.none):H l=Option.none:=by
 cases q:H l with
 |none=>rfl
 | some o=>
  rw[e l o q] at h;cases h
section
variable {κ:Type} [DecidableEq κ]
end
end L2
namespace Pu
open PySem PySem.Spec L2
open PyProof.Rows hiding St
inductive D where
 |non |bl (b:Bool) |int (i:Int) |str (x:Str) |tup (xs:List D) |lst (xs:List D)
inductive R (α:Type) where
 |bad |ok (a:α) |err (c:Str)
namespace R
def bind {α β:Type} (r:R α) (k:α->R β):R β:=match r with
 | .ok a=>k a
 | .err c=> .err c
 | .bad=> .bad
@[simp] theorem aR {α β:Type} (a:α) (k:α->R β):(R.ok a).bind k=k a:=rfl
end R
mutual
def Rep (K:PySem.W.Frag) (O:Addr->Prop) (H:Hp):D->V->Prop
 | .non,v=>v= .non
 | .bl b,v=>v= .bl b
 | .int i,v=>v= .int i
 | .str x,v=>v= .str x
 | .tup ds,v=>∃a xs,v= .ref a/\SqT K H a xs/\aJ K O H ds xs
 | .lst ds,v=>∃a xs,v= .ref a/\SqL K H a xs/\¬O a/\aJ K O H ds xs
def aJ (K:PySem.W.Frag) (O:Addr->Prop) (H:Hp):List D->List V->Prop
 |[],xs=>xs=[]
 |d::ds,xs=>∃x r,xs=x::r/\Rep K O H d x/\aJ K O H ds r
end
structure Ext (O:Addr->Prop) (H H':Hp):Prop where
 tup:∀b xs,Rd H b (.tup xs)->Rd H' b (.tup xs)
 lst:∀b xs,¬O b->Rd H b (.lst xs)->Rd H' b (.lst xs)
section
variable {K:PySem.W.Frag} {O O':Addr->Prop} {H H':Hp}
theorem SqL.ext (e:Ext O H H') {a:Addr} {xs:List V} (n:¬O a) (h:SqL K H a xs):SqL K H' a xs:=by
 rcases h with h |h
 ·exact .inl (e.lst _ _ n h)
 ·exact .inr h
theorem SqT.ext (e:Ext O H H') {a:Addr} {xs:List V} (h:SqT K H a xs):SqT K H' a xs:=by
 rcases h with h |h
 ·exact .inl (e.tup _ _ h)
 ·exact .inr h
mutual
theorem Rep.ext (e:Ext O H H') (o:∀b xs,¬O b->SqL K H b xs->¬O' b):∀(d:D) (v:V),Rep K O H d v->Rep K O' H' d v
 | .non,_,h=>by simpa only[Rep] using h
 | .bl _,_,h=>by simpa only[Rep] using h
 | .int _,_,h=>by simpa only[Rep] using h
 | .str _,_,h=>by simpa only[Rep] using h
 | .tup ds,v,h=>by
  simp only[Rep] at h |-;obtain⟨a,xs,e1,h1,h2⟩:=h;exact⟨a,xs,e1,SqT.ext e h1,aJ.ext e o ds xs h2⟩
 | .lst ds,v,h=>by
  simp only[Rep] at h |-;obtain⟨a,xs,e1,h1,h2,h3⟩:=h;exact⟨a,xs,e1,SqL.ext e h2 h1,o _ _ h2 h1,aJ.ext e o ds xs h3⟩
theorem aJ.ext (e:Ext O H H') (o:∀b xs,¬O b->SqL K H b xs->¬O' b):∀(ds:List D) (xs:List V),aJ K O H ds xs->aJ K O' H' ds xs
 |[],xs,h=>by simpa only[aJ] using h
 | d::ds,xs,h=>by
  simp only[aJ] at h |-;obtain⟨x,r,e1,h1,h2⟩:=h;exact⟨x,r,e1,Rep.ext e o d x h1,aJ.ext e o ds r h2⟩
end
end
structure c7 (K:PySem.W.Frag) (O:Addr->Prop) (H:Hp) (O':Addr->Prop) (H':Hp):Prop where
 ext:Ext O H H'
 new:∀a,O' a->O a\/(H a=none/\K.lookup a=none)
 dom:∀a,H' a=none->H a=none
section
variable {K:PySem.W.Frag} {O O1 O2:Addr->Prop} {H H1 H2:Hp}
theorem Rd.some {a:Addr} {u:HO} (h:Rd H a u):H a≠none:=by
 rcases h with h |⟨o,h⟩ <;> rw[h] <;> simp
theorem c7.out (r:c7 K O H O1 H1) (b:Addr) (xs:List V) (n:¬O b) (h:SqL K H b xs):¬O1 b:=λ z=>by
 rcases r.new b z with z |⟨z1,z2⟩
 ·exact n z
 ·rcases h with h |⟨o,_,_,h,_⟩
  ·exact Rd.some h z1
  ·rw[z2] at h;cases h
theorem c7.refl:c7 K O H O H:=⟨⟨λ _ _ h=>h,λ _ _ _ h=>h⟩,λ _ h=> .inl h,λ _ h=>h⟩
theorem c7.trans (r:c7 K O H O1 H1) (q:c7 K O1 H1 O2 H2):c7 K O H O2 H2 where
 ext:=⟨λ b xs h=>q.ext.tup b xs (r.ext.tup b xs h),λ b xs n h=>q.ext.lst b xs (r.out b xs n (.inl h)) (r.ext.lst b xs n h)⟩
 new:=λ a z=>(q.new a z).elim (r.new a) λ w=> .inr ⟨r.dom a w.1,w.2⟩
 dom:=λ a z=>r.dom a (q.dom a z)
theorem Same.rd (s:Same H H1) {a:Addr} {u:HO} (h:Rd H a u):Rd H1 a u:=by
 rcases h with h |⟨o,h⟩
 ·exact .inl (s _ _ h)
 ·exact .inr ⟨o,s _ _ h⟩
theorem Same.dg (s:Same H H1):c7 K O H O H1:=⟨⟨λ _ _ h=>Same.rd s h,λ _ _ _ h=>Same.rd s h⟩,λ _ h=> .inl h,λ _ h=>s.free h⟩
theorem Rep.go (r:c7 K O H O1 H1) {d:D} {v:V} (h:Rep K O H d v):Rep K O1 H1 d v:=Rep.ext r.ext r.out d v h
theorem aJ.go (r:c7 K O H O1 H1) {d:List D} {v:List V} (h:aJ K O H d v):aJ K O1 H1 d v:=aJ.ext r.ext r.out d v h
theorem Rep.same (s:Same H H1) {d:D} {v:V} (h:Rep K O H d v):Rep K O H1 d v:=h.go (Same.dg s)
theorem aJ.same (s:Same H H1) {d:List D} {v:List V} (h:aJ K O H d v):aJ K O H1 d v:=h.go (Same.dg s)
theorem Rep.fewer (w:∀a,O1 a->O a) {d:D} {v:V} (h:Rep K O H d v):Rep K O1 H d v:=Rep.ext ⟨λ _ _ h=>h,λ _ _ _ h=>h⟩ (λ b _ n _ z=>n (w b z)) d v h
theorem aJ.fewer (w:∀a,O1 a->O a) {d:List D} {v:List V} (h:aJ K O H d v):aJ K O1 H d v:=aJ.ext ⟨λ _ _ h=>h,λ _ _ _ h=>h⟩ (λ b _ n _ z=>n (w b z)) d v h
theorem aJ.nil:aJ K O H [] []:=by simp only[aJ]
theorem aJ.cons {d:D} {v:V} {ds:List D} {vs:List V} (h:Rep K O H d v) (t:aJ K O H ds vs):aJ K O H (d::ds) (v::vs):=by simp only[aJ];exact⟨v,vs,rfl,h,t⟩
theorem aJ.cons_inv {d:D} {ds:List D} {vs:List V} (h:aJ K O H (d::ds) vs):∃x r,vs=x::r/\Rep K O H d x/\aJ K O H ds r:=by simpa only[aJ] using h
theorem aJ.nil_inv {vs:List V} (h:aJ K O H [] vs):vs=[]:=by simpa only[aJ] using h
theorem aJ.length:∀{ds:List D} {vs:List V},aJ K O H ds vs->ds.length=vs.length
 |[],vs,h=>by rw[h.nil_inv];rfl
 | d::ds,vs,h=>by
  obtain⟨x,r,rfl,_,t⟩:=h.cons_inv;simp[aJ.length t]
theorem aJ.get:∀{ds:List D} {vs:List V} {i:Nat} {d:D},aJ K O H ds vs->ds[i]?=some d->∃v,vs[i]?=some v/\Rep K O H d v
 |[],_,_,_,_,e=>by simp at e
 | d::ds,vs,i,d',h,e=>by
  obtain⟨x,r,rfl,h1,t⟩:=h.cons_inv;cases i with
  |zero=>simp at e;subst e;exact⟨x,rfl,h1⟩
  |succ i=>simpa using aJ.get t (i:=i) (by simpa using e)
theorem aJ.bD {ds:List D} {vs:List V} {i:Nat} {v:V} (h:aJ K O H ds vs) (e:vs[i]?=some v):∃d,ds[i]?=some d/\Rep K O H d v:=by
 have hl:=h.length;have hi:i < ds.length:=by rw[hl];exact (z1b e).1
 obtain⟨v',e',r⟩:=h.get (i:=i) (d:=ds[i]) (by simp[hi]);rw[e] at e';cases e';exact⟨_,by simp[hi],r⟩
theorem aJ.append:∀{ds es:List D} {vs ws:List V},aJ K O H ds vs->aJ K O H es ws->aJ K O H (ds++es) (vs++ws)
 |[],_,vs,_,h,t=>by rw[h.nil_inv];exact t
 | d::ds,es,vs,ws,h,t=>by
  obtain⟨x,r,rfl,h1,h2⟩:=h.cons_inv;exact .cons h1 (aJ.append h2 t)
theorem aJ.reverse:∀{ds:List D} {vs:List V},aJ K O H ds vs->aJ K O H ds.reverse vs.reverse
 |[],vs,h=>by rw[h.nil_inv];exact .nil
 | d::ds,vs,h=>by
  obtain⟨x,r,rfl,h1,h2⟩:=h.cons_inv;simp only[List.reverse_cons];exact h2.reverse.append (.cons h1 .nil)
theorem aJ.drop:∀{ds:List D} {vs:List V} (n:Nat),aJ K O H ds vs->aJ K O H (ds.drop n) (vs.drop n)
 |_,_,0,h=>h
 |[],vs,n+1,h=>by rw[h.nil_inv];exact .nil
 | d::ds,vs,n+1,h=>by
  obtain⟨x,r,rfl,h1,h2⟩:=h.cons_inv;exact h2.drop n
theorem aJ.take:∀{ds:List D} {vs:List V} (n:Nat),aJ K O H ds vs->aJ K O H (ds.take n) (vs.take n)
 |_,_,0,_=>by simpa using aJ.nil
 |[],vs,n+1,h=>by rw[h.nil_inv];exact .nil
 | d::ds,vs,n+1,h=>by
  obtain⟨x,r,rfl,h1,h2⟩:=h.cons_inv;exact .cons h1 (h2.take n)
theorem Rep.int {i:Int} {v:V} (h:Rep K O H (.int i) v):v= .int i:=by simpa only[Rep] using h
theorem Rep.bl {b:Bool} {v:V} (h:Rep K O H (.bl b) v):v= .bl b:=by simpa only[Rep] using h
theorem Rep.non {v:V} (h:Rep K O H .non v):v= .non:=by simpa only[Rep] using h
theorem Rep.str {x:Str} {v:V} (h:Rep K O H (.str x) v):v= .str x:=by simpa only[Rep] using h
theorem Rep.tup {ds:List D} {v:V} (h:Rep K O H (.tup ds) v):∃a xs,v= .ref a/\SqT K H a xs/\aJ K O H ds xs:=by simpa only[Rep] using h
theorem Rep.lst {ds:List D} {v:V} (h:Rep K O H (.lst ds) v):∃a xs,v= .ref a/\SqL K H a xs/\¬O a/\aJ K O H ds xs:=by simpa only[Rep] using h
theorem bY (i:Int):Rep K O H (.int i) (.int i):=by simp only[Rep]
theorem gb (b:Bool):Rep K O H (.bl b) (.bl b):=by simp only[Rep]
theorem mV:Rep K O H .non .non:=by simp only[Rep]
theorem CV (x:Str):Rep K O H (.str x) (.str x):=by simp only[Rep]
theorem f9 {ds:List D} {a:Addr} {xs:List V} (h:SqT K H a xs) (r:aJ K O H ds xs):Rep K O H (.tup ds) (.ref a):=by simp only[Rep];exact⟨a,xs,rfl,h,r⟩
theorem lD {ds:List D} {a:Addr} {xs:List V} (h:SqL K H a xs) (n:¬O a) (r:aJ K O H ds xs):Rep K O H (.lst ds) (.ref a):=by simp only[Rep];exact⟨a,xs,rfl,h,n,r⟩
end
inductive Ob where
 |exc (c:Str) |fn (a:Addr)
inductive Ent where
 |val (d:D) |lst (ds:List D) |qj (kvs:List (Key×D)) |obj (t:Ob) |rws (rows:List (List D))
def Ent.own:Ent->Bool
 | .val _=>false
 | .obj _=>false
 |_=>true
def Ent.M8:Ent->Bool
 | .val _=>true
 |_=>false
theorem Yw {e:Ent} (h:e.M8=true):e.own=false:=by cases e <;> first |rfl |cases h
abbrev ao:=List (Option Ent)
def ace (K:PySem.W.Frag) (O:Addr->Prop) (H:Hp) (kvs:List (Key×D)) (ys:List (Key×V)):Prop:=kvs.map (·.1)=ys.map (·.1)/\aJ K O H (kvs.map (·.2)) (ys.map (·.2))
def lO (K:PySem.W.Frag) (H:Hp):Ob->V->Prop
 | .exc c,v=>∃a o C,v= .ref a/\H a=some (.frz o (.own a))/\o.cls= .ref C/\o.dict=none/\(∃vs,o.data= .fields vs)/\PySem.W.nsIn K mainGlobals c=some (some (.ref C))
 | .fn a,v=>v= .ref a/\∃o fd,H a=some (.frz o (.own a))/\o.data= .func fd
structure zF (K:PySem.W.Frag) (O:Addr->Prop) (H:Hp) (rows:List (List D)) (a:Addr) (rs:List Addr):Prop where
 at_:H a=some (.lst (rs.map V.ref))
 oa:O a
 nd:(a::rs).Nodup
 len:rs.length=rows.length
 row:∀(i:Nat) r row,rs[i]?=some r->rows[i]?=some row->O r/\∃xs,H r=some (.lst xs)/\aJ K O H row xs
def mW (K:PySem.W.Frag) (O:Addr->Prop) (H:Hp):Ent->V->Prop
 | .val d,v=>Rep K O H d v
 | .lst ds,v=>∃a xs,v= .ref a/\O a/\H a=some (.lst xs)/\aJ K O H ds xs
 | .qj kvs,v=>∃a ys,v= .ref a/\O a/\H a=some (.dK ys)/\ace K O H kvs ys
 | .obj t,v=>lO K H t v
 | .rws rows,v=>∃a rs,v= .ref a/\zF K O H rows a rs
def Qa (H:Hp) (ρ:ao) (σ:St):Prop:=∀(i j:Nat) (rows:List (List D)) (a:Addr) (rs:List Addr) (e:Ent) (v:V),i≠j->ρ[i]?=some (some (.rws rows))->σ[i]?=some (some (.ref a))->H a=some (.lst (rs.map V.ref))->ρ[j]?=some (some e)->e.own=true->σ[j]?=some (some v)->(∀r∈rs,v≠.ref r)/\∀rows',e≠.rws rows'
structure Env (K:PySem.W.Frag) (O:Addr->Prop) (H:Hp) (ρ:ao) (σ:St):Prop where
 get:∀(i:Nat) e,ρ[i]?=some (some e)->∃v,σ[i]?=some (some v)/\mW K O H e v
 sep:∀(i j:Nat) e e' v,i≠j->ρ[i]?=some (some e)->ρ[j]?=some (some e')->e.own=true->e'.own=true->σ[i]?=some (some v)->σ[j]?=some (some v)->False
 lg:Qa H ρ σ
structure In (X:Cx) (O:Addr->Prop) (H:Hp) (ρ:ao) (σ:St):Prop where
 env:Env X.K O H ρ σ
 al:∀a,O a->∃o,H a=some o
 len:σ.length=X.N.length
 jU:ρ.length=X.N.length
section
variable {X:Cx} {O:Addr->Prop} {H H1:Hp} {ρ:ao} {σ:St} {K:PySem.W.Frag}
theorem lO.fz (s:∀b o u,H b=some (.frz o u)->H1 b=some (.frz o u)):∀{t:Ob} {v:V},lO K H t v->lO K H1 t v
 | .exc _,_,z=>by
  obtain⟨a,o,C,e,h,q,n⟩:=z;exact⟨a,o,C,e,s _ _ _ h,q,n⟩
 | .fn _,_,z=>by
  obtain⟨e,o,fd,h,q⟩:=z;exact⟨e,o,fd,s _ _ _ h,q⟩
theorem lO.same (s:Same H H1) {t:Ob} {v:V} (h:lO K H t v):lO K H1 t v:=h.fz λ _ _ _ q=>s _ _ q
theorem jq {rs rs':List Addr} (h:rs.map V.ref=rs'.map V.ref):rs=rs':=(List.map_inj_right λ _ _ e=>V.ref.inj e).mp h
theorem zF.same (s:Same H H1) {rows:List (List D)} {a:Addr} {rs:List Addr} (h:zF K O H rows a rs):zF K O H1 rows a rs:=⟨s _ _ h.at_,h.oa,h.nd,h.len,λ i r row e1 e2=>let ⟨o,xs,q,r'⟩:=h.row i r row e1 e2;⟨o,xs,s _ _ q,r'.same s⟩⟩
theorem mW.same (s:Same H H1):∀{e:Ent} {v:V},mW K O H e v->mW K O H1 e v
 | .val d,v,h=>Rep.same s h
 | .lst ds,v,z=>by
  obtain⟨a,xs,e,o,h,r⟩:=z;exact⟨a,xs,e,o,s _ _ h,r.same s⟩
 | .qj kvs,v,z=>by
  obtain⟨a,xs,e,o,h,k,r⟩:=z;exact⟨a,xs,e,o,s _ _ h,k,r.same s⟩
 | .obj t,v,h=>lO.same s h
 | .rws rows,v,⟨a,rs,e,h⟩=>⟨a,rs,e,h.same s⟩
theorem Qa.of (h:Qa H ρ σ) (w:∀(i:Nat) (rows:List (List D)) (a:Addr) (rs:List Addr),ρ[i]?=some (some (.rws rows))->σ[i]?=some (some (.ref a))->H1 a=some (.lst (rs.map V.ref))->H a=some (.lst (rs.map V.ref))):Qa H1 ρ σ:=λ i j rows a rs e v hij hi hs ha=>h i j rows a rs e v hij hi hs (w i rows a rs hi hs ha)
theorem Env.rws (E:Env K O H ρ σ) {i:Nat} {rows:List (List D)} {a:Addr} (hi:ρ[i]?=some (some (.rws rows))) (hs:σ[i]?=some (some (.ref a))):∃rs,zF K O H rows a rs:=by
 obtain⟨v,q,a',rs,e,r⟩:=E.get i _ hi;rw[q] at hs;cases hs;cases e;exact⟨rs,r⟩
theorem Env.back (E:Env K O H ρ σ) (s:Same H H1) {i:Nat} {rows:List (List D)} {a:Addr} {rs:List Addr} (hi:ρ[i]?=some (some (.rws rows))) (hs:σ[i]?=some (some (.ref a))) (ha:H1 a=some (.lst (rs.map V.ref))):H a=some (.lst (rs.map V.ref)):=by
 obtain⟨rs',r⟩:=E.rws hi hs;have:=s _ _ r.at_;rw[ha] at this;rw[r.at_,jq (HO.lst.inj (Option.some.inj this))]
theorem Env.same (E:Env K O H ρ σ) (s:Same H H1):Env K O H1 ρ σ:=⟨λ j e h=>let ⟨v,h1,h2⟩:=E.get j e h;⟨v,h1,h2.same s⟩,E.sep,E.lg.of λ i rows a rs hi hs ha=>E.back s hi hs ha⟩
theorem In.same (i:In X O H ρ σ) (s:Same H H1):In X O H1 ρ σ:=
 ⟨i.env.same s,λ a h=>let ⟨o,q⟩:=i.al a h;⟨o,s _ _ q⟩,i.len,i.jU⟩
end
def Exc (h:Heap) (e C:Addr) (T:Option Addr):Prop:=∃(oe:Obj) (vs:Array Value),h.get? e=some oe/\oe.cls= .ref C/\oe.dict=none/\oe.data= .fields vs/\match T with
 |none=>vs[1]?=some Value.none
 |some t=>vs[1]?=some (.ref t)/\t≠e/\∃(ot:Obj) (ts:Array Value),h.get? t=some ot/\ot.data= .fields ts/\ts[3]?=some Value.none
structure Rsd (P:Program) (w:World) (fs:List Addr) (H:Hp) (s:Shared) (a C:Addr) (T:Option Addr) (s':Shared) (H':Hp):Prop where
 same:Same H H'
 un:Un fs [] H H' s.heap s'.heap
 hok:HOk P w H' s'.heap
 os:s'.os=s.os
 bare:AllBare s'.gens
 exc:Exc s'.heap a C T
 na:s.heap.get? a=none
 ha:H' a=none
 nt:∀t,T=some t->s.heap.get? t=none/\H' t=none
def Ar (X:Cx) (c:Str) (σ:St) (H:Hp):Prop:=∀(H1:Hp) (pins:List (Addr×Obj)) (s:Shared) (a C:Addr) (T:Option Addr) (s':Shared) (H':Hp),Same H H1->Inv X pins σ H1 s->
 PySem.W.nsIn X.K mainGlobals c=some (some (.ref C))->Rsd X.prog X.w (frs X.stack) H1 s a C T s' H'->X.xe (.ref a) s'
theorem Ar.same {X:Cx} {c:Str} {σ:St} {H H1:Hp} (h:Ar X c σ H) (s:Same H H1):Ar X c σ H1:=λ H2 pins s0 a C T s' H' s2=>h H2 pins s0 a C T s' H' (s.trans s2)
def good {α β:Type} (X:Cx) (Rl:(Addr->Prop)->Hp->α->β->Prop) (O:Addr->Prop) (r:R α) (σ:St) (H:Hp) (Q:β->Hp->Prop):Prop:=match r with
 | .ok a=>∀b H',Same H H'->Rl O H' a b->Q b H'
 | .err c=>Ar X c σ H
 | .bad=>False
theorem good.same {α β:Type} {X:Cx} {Rl:(Addr->Prop)->Hp->α->β->Prop} {O:Addr->Prop} {r:R α} {σ:St} {H H1:Hp} {Q:β->Hp->Prop} (h:good X Rl O r σ H Q) (s:Same H H1):good X Rl O r σ H1 Q:=by
 cases r with
 |ok a=>exact λ b H' s' q=>h b H' (s.trans s') q
 |err c=>exact Ar.same (show Ar X c σ H from h) s
 |bad=>exact h
inductive TGd {α β:Type} (X:Cx) (Rl:(Addr->Prop)->Hp->α->β->Prop) (f:ao->R α) (σ:St) (H:Hp) (Q:β->Hp->Prop):Prop
 |mk (ρ:ao) (O:Addr->Prop) (j:In X O H ρ σ) (g:good X Rl O (f ρ) σ H Q):TGd X Rl f σ H Q
def tG {α β:Type} (X:Cx) (Rl:(Addr->Prop)->Hp->α->β->Prop) (f:ao->R α):St->Hp->(β->Hp->Prop)->Prop:=λ σ H Q=>TGd X Rl f σ H Q
abbrev rB:(Addr->Prop)->Hp->Bool->Bool->Prop:=λ _ _ a b=>a=b
abbrev rD (X:Cx):(Addr->Prop)->Hp->D->V->Prop:=λ O H d v=>Rep X.K O H d v
abbrev M9 (X:Cx):(Addr->Prop)->Hp->List D->List V->Prop:=λ O H d v=>aJ X.K O H d v
def DE (X:Cx) (e:Expr) (f:ao->R D):Prop:=PE X e (tG X (rD X) f)
def DT (X:Cx) (e:Expr) (f:ao->R Bool):Prop:=PT X e (tG X rB f)
def DW (X:Cx) (e:Expr) (f:ao->R Bool):Prop:=PW X e (tG X rB f)
def DA (X:Cx) (es:List Expr) (f:ao->R (List D)):Prop:=PA X es (tG X (M9 X) f)
theorem PE.imp {X:Cx} {e:Expr} {t t':TE} (h:PE X e t) (w:∀σ H Q,t' σ H Q->t σ H Q):PE X e t':=λ pins s σ H Q I q=>h pins s σ H Q I (w σ H Q q)
theorem PT.imp {X:Cx} {e:Expr} {t t':TT} (h:PT X e t) (w:∀σ H Q,t' σ H Q->t σ H Q):PT X e t':=λ pins s σ H Q I q=>h pins s σ H Q I (w σ H Q q)
theorem PW.imp {X:Cx} {e:Expr} {t t':TT} (h:PW X e t) (w:∀σ H Q,t' σ H Q->t σ H Q):PW X e t':=λ wh pins s σ H Q I q=>h wh pins s σ H Q I (w σ H Q q)
theorem PA.imp {X:Cx} {e:List Expr} {t t':TA} (h:PA X e t) (w:∀σ H Q,t' σ H Q->t σ H Q):PA X e t':=λ pos pins s σ H Q I q=>h pos pins s σ H Q I (w σ H Q q)
section
variable {X:Cx} {O:Addr->Prop} {H:Hp} {ρ:ao} {σ:St}
theorem go {α β γ δ:Type} {Rl:(Addr->Prop)->Hp->α->β->Prop} {Rm:(Addr->Prop)->Hp->γ->δ->Prop} {f:ao->R α} {g:α->R γ} {Q:δ->Hp->Prop} {Q':β->Hp->Prop}
  (i:In X O H ρ σ) (h:good X Rm O ((f ρ).bind g) σ H Q)
  (k:∀a b H1,f ρ= .ok a->Same H H1->Rl O H1 a b->In X O H1 ρ σ->good X Rm O (g a) σ H1 Q->Q' b H1):tG X Rl f σ H Q':=by
 refine⟨ρ,O,i,?_⟩;cases e:f ρ with
 |ok a=>rw[e] at h;exact λ b H1 s r=>k a b H1 e s r (i.same s) (good.same h s)
 |err c=>rw[e] at h;exact h
 |bad=>rw[e] at h;exact h
theorem fin {α β:Type} {Rl:(Addr->Prop)->Hp->α->β->Prop} {a:α} {b:β} {Q:β->Hp->Prop} (h:good X Rl O (.ok a) σ H Q) (r:Rl O H a b):Q b H:=h b H (Same.refl H) r
end
end Pu
namespace Pu
open PySem PySem.Spec L2
open PyProof.Rows hiding St
variable {p:Addr} {O O0:Addr->Prop} {X Y:Cx} {d:D} {l:D->D->R D} {H H0:Hp} {ds:List D} {u:List D->ao->R ao} {N caps ts:List Str} {xs:List V} {n i:Nat} {px:Pos} {K:PySem.W.Frag} {ρ:ao} {scope sc:Scope} {σ:St} {α:Type}
theorem Same.upd {o:HO} (h:H p=none):Same H (L2.upd H p o):=λ b u e=>by
 rw[upd_ne (ne_of_none e h)];exact e
theorem Rep.pW (h:H p=none) (r:aJ X.K O H ds xs):Rep X.K O (upd H p (.tup xs)) (.tup ds) (.ref p):=
 f9 (SqT.of upd_same) (r.same (Same.upd h))
theorem In.lQ (i:In X O H ρ σ) (h:H p=none):¬O p:=λ z=>by
 obtain⟨o,e⟩:=i.al p z;rw[h] at e;cases e
theorem Rep.jr (h:H p=none) (n:¬O p) (r:aJ X.K O H ds xs):Rep X.K O (upd H p (.lst xs)) (.lst ds) (.ref p):=
 lD (SqL.of upd_same) n (r.same (Same.upd h))
section
variable {X:Cx} {a b c:Expr} {f g h:ao->R D} {pos:Pos}
def bD (ρ:ao) (i:Nat):R D:=match ρ[i]? with
 |some (some (.val d))=> .ok d
 |_=> .bad
theorem dv (i:Nat) {x:Str} {pos:Pos} (hN:X.N[i]?=some x:=by rfl) (hv:Vis X.env.scope x:=by first |exact Or.inl rfl |exact Or.inr (Or.inl rfl) |exact Or.inr (Or.inr rfl)) (hd:(x ==("__debug__" :Str))=false:=by decide) (hcd:(x ==("__classdict__" :Str))=false:=by decide):
  DE X (.Name x pos) (λ ρ=>bD ρ i):=by
 refine PE.imp (pe_var hN hv hd hcd) λ σ H Q h=>?_;obtain⟨ρ,O,j,h⟩:=h;have h:good X (rD X) O (bD ρ i) σ H Q:=h;unfold bD at h;split at h
 ·rename_i d e;obtain⟨v,e1,r⟩:=j.env.get i _ e;exact⟨v,e1,fin h r⟩
 ·exact h.elim
theorem CW {e:Expr} {v:V} (h:PE X e (tC v)) (r:∀O H,Rep X.K O H d v):DE X e (λ _=> .ok d):=PE.imp h λ σ H Q h=>by
 obtain⟨ρ,O,j,h⟩:=h;exact fin h (r O H)
theorem aK {i:Int} {j pos}:DE X (.Constant (.int i) j pos) (λ _=> .ok (.int i)):=CW pe_int λ _ _=>bY i
theorem uG {i:Bool} {j pos}:DE X (.Constant (.bool i) j pos) (λ _=> .ok (.bl i)):=CW pe_bl λ _ _=>gb i
theorem Il {j pos}:DE X (.Constant .none j pos) (λ _=> .ok .non):=CW pe_non λ _ _=>mV
theorem Im {x:Str} {j pos}:DE X (.Constant (.str x) j pos) (λ _=> .ok (.str x)):=CW pe_str λ _ _=>CV x
theorem pX {x:Str} {i:Int} {t:Tok} {pos:Pos} (hg:Gl X x) (hm:X.mg x=some (.int i t)) (hd:(x ==("__debug__" :Str))=false:=by decide):DE X (.Name x pos) (λ _=> .ok (.int i)):=
 CW (pe_glob (v:= .int i) hg hm ⟨t,rfl⟩ hd) λ _ _=>bY i
def iY (X:Cx) (o:Value->Value->Sem Value) (k:D->D->R D):Prop:=∃r:R2,OpR X o r/\
 ∀(ρ:ao) (O:Addr->Prop) (σ:St) (H:Hp) (Q:VK) (x y:V) (dx dy:D),In X O H ρ σ->Rep X.K O H dx x->Rep X.K O H dy y->good X (rD X) O (k dx dy) σ H Q->r x y H Q
def bin (f g:ao->R D) (k:D->D->R D):ao->R D:=λ ρ=>(f ρ).bind λ x=>(g ρ).bind λ y=>k x y
theorem Av {r:R2} {k:D->D->R D} {Q:VK}
  (hr:∀(ρ:ao) (O:Addr->Prop) (σ:St) (H:Hp) (Q:VK) (x y:V) (dx dy:D),In X O H ρ σ->Rep X.K O H dx x->Rep X.K O H dy y->good X (rD X) O (k dx dy) σ H Q->r x y H Q)
  (h:tG X (rD X) (bin f g k) σ H Q):tOp r (tG X (rD X) f) (tG X (rD X) g) σ H Q:=by
 obtain⟨ρ,O,j,h⟩:=h;refine go j h λ dx x H1 e1 s1 r1 j1 h1=>?_;exact go j1 h1 λ dy y H2 e2 s2 r2 j2 h2=>hr ρ O σ H2 Q x y dx dy j2 (r1.same s2) r2 h2
theorem aN {op:Operator} {k:D->D->R D} (ho:iY X (binaryOp op) k) (ha:DE X a f) (hb:DE X b g):DE X (.BinOp a op b pos) (bin f g k):=by
 obtain⟨r,ho,hr⟩:=ho;exact PE.imp (pe_op ho ha hb) λ σ H Q h=>Av hr h
theorem Aw {op:CmpOp} {k:D->D->R D} (ho:iY X (compareOp op) k) (ha:DE X a f) (hb:DE X b g) (hm:behindInMarks op b=false:=by exact nomark _):DE X (.Compare a [op] [b] pos) (bin f g k):=by
 obtain⟨r,ho,hr⟩:=ho;exact PE.imp (pe_cmpR ho ha hb hm) λ σ H Q h=>Av hr h
def asB:D->R Bool
 | .bl b=> .ok b
 |_=> .bad
def cI (f:ao->R D):ao->R Bool:=λ ρ=>(f ρ).bind asB
theorem zG {t:TE} {k:ao->R D} {Q:Bool->Hp->Prop} (w:∀Q,tG X (rD X) k σ H Q->t σ H Q) (h:tG X rB (cI k) σ H Q):tTest t σ H Q:=by
 refine w _ ?_;obtain⟨ρ,O,j,h⟩:=h;refine go j h λ d x H1 e1 s1 r1 j1 h1=>?_;cases d with
 |bl b=>exact⟨b,r1.bl,fin h1 rfl⟩
 |_=>exact h1.elim
theorem dF {op:CmpOp} {k:D->D->R D} (ho:iY X (compareOp op) k) (ha:DE X a f) (hb:DE X b g) (hm:behindInMarks op b=false:=by exact nomark _):DT X (.Compare a [op] [b] pos) (cI (bin f g k)):=by
 obtain⟨r,ho,hr⟩:=ho;exact PT.imp (pt_cmpR ho ha hb hm) λ σ H Q h=>zG (λ Q h=>Av hr h) h
theorem iZ {e:Expr} (h:DE X e f) (he:∀whole,isTrue e X.env whole=(do let v <-whole;standAt e.pos;holding [v] (truthy v)):=by intro _;rfl):DT X e (cI f):=
 PT.imp (pt_val h he) λ σ H Q h=>zG (t:=tG X (rD X) f) (λ Q h=>h) h
def iD (k:Int->Int->R D):D->D->R D
 | .int i,.int j=>k i j
 |_,_=> .bad
theorem yp {o:Value->Value->Sem Value} {C:Int->Int->Prop} {g:Int->Int->V} {k:Int->Int->R D} (ho:OpR X o (rI C g)) (hk:∀i j,k i j= .bad\/∃d,k i j= .ok d/\C i j/\∀K O H,Rep K O H d (g i j)):iY X o (iD k):=by
 refine⟨_,ho,λ ρ O σ H Q x y dx dy j0 rx ry h=>?_⟩;cases dx <;> cases dy <;> first
  |exact h.elim
  |skip
 rename_i i j;rcases hk i j with e |⟨d,e,c,r⟩
 ·have h':good X (rD X) O (k i j) σ H Q:=h;rw[e] at h';exact h'.elim
 ·have h':good X (rD X) O (k i j) σ H Q:=h;rw[e] at h';exact⟨i,j,rx.int,ry.int,c,fin h' (r _ _ _)⟩
theorem qm {o:Value->Value->Sem Value} {g:Int->Int->V} {k:Int->Int->R D} (ho:OpR X o (rI0 g)) (hk:∀i j,∃d,k i j= .ok d/\∀K O H,Rep K O H d (g i j)):iY X o (iD k):=by
 refine⟨_,ho,λ ρ O σ H Q x y dx dy j0 rx ry h=>?_⟩;cases dx <;> cases dy <;> first
  |exact h.elim
  |skip
 rename_i i j;obtain⟨d,e,r⟩:=hk i j;have h':good X (rD X) O (k i j) σ H Q:=h;rw[e] at h';exact⟨i,j,rx.int,ry.int,fin h' (r _ _ _)⟩
def dU:D->D->R D:=iD λ i j=> .ok (.int (i - j))
def gj:D->D->R D:=iD λ i j=>if (-(2 ^ 64) < i/\i < 2 ^ 64)\/(-(2 ^ 64) < j/\j < 2 ^ 64) then .ok (.int (i*j)) else .bad
def fV:D->D->R D:=iD λ i j=>if 0 < j/\j < 2 ^ 64 then .ok (.int (i / j)) else .bad
def fJ:D->D->R D:=iD λ i j=>if 0 < j then .ok (.int (i % j)) else .bad
def sG:D->D->R D:=iD λ i j=>if 0<=j/\j<=1000000/\i.natAbs < 2 ^ 64 then .ok (.int (i ^ j.toNat)) else .bad
def ltI:D->D->R D:=iD λ i j=> .ok (.bl (decide (i < j)))
def yQ:D->D->R D:=iD λ i j=> .ok (.bl (decide (i<=j)))
def rH:D->D->R D:=iD λ i j=> .ok (.bl (decide (j < i)))
def Rv:D->D->R D:=iD λ i j=> .ok (.bl (decide (j<=i)))
theorem cV:iY X (binaryOp .Sub) dU:=qm op_sub λ i j=>⟨_,rfl,λ _ _ _=>bY _⟩
theorem yq:iY X (compareOp .Lt) ltI:=qm op_lt λ i j=>⟨_,rfl,λ _ _ _=>gb _⟩
theorem rJ:iY X (compareOp .LtE) yQ:=qm op_le λ i j=>⟨_,rfl,λ _ _ _=>gb _⟩
theorem Ia:iY X (compareOp .Gt) rH:=qm op_gt λ i j=>⟨_,rfl,λ _ _ _=>gb _⟩
theorem acf:iY X (compareOp .GtE) Rv:=qm op_ge λ i j=>⟨_,rfl,λ _ _ _=>gb _⟩
theorem yt {c:Prop} [Decidable c] (d:D) {P:D->Prop} (hP:c->P d):(if c then R.ok d else R.bad)=R.bad\/∃d',(if c then R.ok d else R.bad)=R.ok d'/\c/\P d':=by
 by_cases h:c
 ·exact .inr ⟨d,by rw[if_pos h],h,hP h⟩
 ·exact .inl (by rw[if_neg h])
theorem oG:iY X (binaryOp .Mult) gj:=yp op_mul λ i j=>yt (.int (i*j)) (P:=λ d=>∀K O H,Rep K O H d (.int (i*j))) λ _ _ _ _=>bY _
theorem Rw {j:Int} (h0:0 < j) (h:j < 2 ^ 64):j.natAbs.log2 < 9000:=by
 have h1:j.natAbs≠0:=by omega
 have h2:j.natAbs < 2 ^ 64:=by omega
 have h3:j.natAbs.log2 < 64:=(Nat.log2_lt h1).mpr h2;omega
theorem Vx:OpR X (binaryOp .FloorDiv) (rI (λ _ j=>0 < j/\j < 2 ^ 64) λ i j=> .int (i / j)):=opI λ i j _ _ _ _ _ hc q=>by
 refine floordiv_int (by have:=hc.1;omega) ?_ (.inl (PyProof.noPylong_of_log2 (Rw hc.1 hc.2)));rw[Int.fdiv_eq_ediv_of_nonneg _ (by have:=hc.1;omega)];exact q
theorem lR:iY X (binaryOp .FloorDiv) fV:=yp Vx λ i j=>yt (.int (i / j)) (P:=λ d=>∀K O H,Rep K O H d (.int (i / j))) λ _ _ _ _=>bY _
theorem oH:iY X (binaryOp .Mod) fJ:=yp op_mod λ i j=>yt (.int (i % j)) (P:=λ d=>∀K O H,Rep K O H d (.int (i % j))) λ _ _ _ _=>bY _
theorem Rx:iY X (binaryOp .Pow) sG:=yp op_pow λ i j=>yt (.int (i ^ j.toNat)) (P:=λ d=>∀K O H,Rep K O H d (.int (i ^ j.toNat))) λ _ _ _ _=>bY _
def Ax (f g h:ao->R D) (k l:D->D->R D):ao->R D:=λ ρ=>(f ρ).bind λ x=>(g ρ).bind λ y=>(k x y).bind λ z=>match z with
 | .bl true=>(h ρ).bind λ w=>l y w
 | .bl false=> .ok (.bl false)
 |_=> .bad
def sH (f g:ao->R D):ao->R D:=λ ρ=>(f ρ).bind λ x=>match x with
 | .bl true=>g ρ
 | .bl false=> .ok (.bl false)
 |_=> .bad
def aaG (f:ao->R D):ao->R D:=λ ρ=>(f ρ).bind λ x=>match x with
 | .bl b=> .ok (.bl (!b))
 |_=> .bad
variable {rest:List Expr}
theorem tM {op} (h:DE X a f):DE X (.BoolOp op [a] pos) f:=pe_one h
theorem tO (ha:DE X a f) (hb:DE X (.BoolOp .And (b::rest) pos) g):DE X (.BoolOp .And (a::b::rest) pos) (sH f g):=by
 refine PE.imp (pe_and ha hb) λ σ H Q h=>?_;obtain⟨ρ,O,j,h⟩:=h;refine go j h λ d x H1 e1 s1 r1 j1 h1=>?_;cases d with
 | bl k=>
  cases k with
  |true=>exact⟨true,r1.bl,by rw[if_pos rfl];exact⟨ρ,O,j1,h1⟩⟩
  |false=>exact⟨false,r1.bl,by rw[if_neg Bool.false_ne_true];exact fin h1 (gb _)⟩
 |_=>exact h1.elim
theorem aaH (ha:DE X a f):DE X (.UnaryOp .Not a pos) (aaG f):=by
 refine PE.imp (pe_not ha) λ σ H Q h=>?_;obtain⟨ρ,O,j,h⟩:=h;refine go j h λ d x H1 e1 s1 r1 j1 h1=>?_;cases d with
 |bl k=>exact⟨k,r1.bl,fin h1 (gb _)⟩
 |_=>exact h1.elim
def mX (f g:ao->R Bool):ao->R Bool:=λ ρ=>(f ρ).bind λ x=>if x=true then g ρ else .ok false
def yR (f g:ao->R Bool):ao->R Bool:=λ ρ=>(f ρ).bind λ x=>if x=true then .ok true else g ρ
def jw (f:ao->R Bool):ao->R Bool:=λ ρ=>(f ρ).bind λ x=> .ok (!x)
variable {p q:ao->R Bool}
theorem Nb (ha:DT X a p):DW X (.BoolOp .And [a] pos) p:=pw_and1 ha
theorem tQ (ha:DT X a p):DW X (.BoolOp .Or [a] pos) p:=pw_or1 ha
theorem Ry (ha:DT X a p) (hb:DW X (.BoolOp .And (b::rest) pos) q):DW X (.BoolOp .And (a::b::rest) pos) (mX p q):=by
 refine PW.imp (pw_and ha hb) λ σ H Q h=>?_;obtain⟨ρ,O,j,h⟩:=h;refine go j h λ d x H1 e1 s1 r1 j1 h1=>?_;subst r1;cases d with
 |true=>rw[if_pos rfl] at h1 |-;exact⟨ρ,O,j1,h1⟩
 |false=>rw[if_neg Bool.false_ne_true] at h1 |-;exact fin h1 rfl
theorem uH (ha:DT X a p) (hb:DW X (.BoolOp .Or (b::rest) pos) q):DW X (.BoolOp .Or (a::b::rest) pos) (yR p q):=by
 refine PW.imp (pw_or ha hb) λ σ H Q h=>?_;obtain⟨ρ,O,j,h⟩:=h;refine go j h λ d x H1 e1 s1 r1 j1 h1=>?_;subst r1;cases d with
 |true=>rw[if_pos rfl] at h1 |-;exact fin h1 rfl
 |false=>rw[if_neg Bool.false_ne_true] at h1 |-;exact⟨ρ,O,j1,h1⟩
theorem DW.dt {e:Expr} (h:DW X e p):DT X e p:=h _
theorem gk (ha:DT X a p):DT X (.UnaryOp .Not a pos) (jw p):=by
 refine PT.imp (pt_not ha) λ σ H Q h=>?_;obtain⟨ρ,O,j,h⟩:=h;refine go j h λ d x H1 e1 s1 r1 j1 h1=>?_;subst r1;exact fin h1 rfl
def Fp (c:ao->R Bool) (f g:ao->R D):ao->R D:=λ ρ=>(c ρ).bind λ x=>if x=true then f ρ else g ρ
theorem Xx (hc:DT X c p) (ha:DE X a f) (hb:DE X b g):DE X (.IfExp c a b pos) (Fp p f g):=by
 refine PE.imp (pe_ifExp hc ha hb) λ σ H Q h=>?_;obtain⟨ρ,O,j,h⟩:=h;refine go j h λ d x H1 e1 s1 r1 j1 h1=>?_;subst r1;cases d with
 |true=>rw[if_pos rfl] at h1 |-;exact⟨ρ,O,j1,h1⟩
 |false=>rw[if_neg Bool.false_ne_true] at h1 |-;exact⟨ρ,O,j1,h1⟩
def ak (f:ao->R D) (g:ao->R (List D)):ao->R (List D):=λ ρ=>(f ρ).bind λ x=>(g ρ).bind λ xs=> .ok (x::xs)
variable {es:List Expr} {fa:ao->R (List D)}
theorem aq:DA X [] (λ _=> .ok []):=PA.imp pa_nil λ σ H Q h=>by
 obtain⟨ρ,O,j,h⟩:=h;exact fin h .nil
theorem aj (ha:DE X a f) (hr:DA X es fa) (hs:starEach (a::es) X.env=(false,eval a X.env)::starEach es X.env:=by rfl):DA X (a::es) (ak f fa):=by
 refine PA.imp (pa_cons ha hr hs) λ σ H Q h=>?_;obtain⟨ρ,O,j,h⟩:=h;refine go j h λ d x H1 e1 s1 r1 j1 h1=>?_;exact go j1 h1 λ ds xs H2 e2 s2 r2 j2 h2=>fin h2 (.cons (r1.same s2) r2)
def cap (k:List D->D) (ds:List D):R D:=if ds.length<=1000000 then .ok (k ds) else .bad
theorem eO:1000000<=sizeLine:=by rw[sizeLine_eq];decide
def ig (fa:ao->R (List D)):ao->R D:=λ ρ=>(fa ρ).bind (cap .tup)
def qu (fa:ao->R (List D)):ao->R D:=λ ρ=>(fa ρ).bind (cap .lst)
theorem fL {x1} (h:DA X es fa):DE X (.Tuple es x1 pos) (ig fa):=by
 refine PE.imp (pe_tup h) λ σ H Q h=>?_;obtain⟨ρ,O,j,h⟩:=h;refine go j h λ ds xs H1 e1 s1 r1 j1 h1=>?_;unfold cap at h1;split at h1
 ·rename_i hl;exact⟨by rw[<-r1.length];exact z0b hl eO,λ p hp=>h1 _ _ (Same.upd hp) (Rep.pW hp r1)⟩
 ·exact h1.elim
theorem qw (h:DA X es fa):DE X (.List es pos) (qu fa):=by
 refine PE.imp (pe_lst h) λ σ H Q h=>?_;obtain⟨ρ,O,j,h⟩:=h;refine go j h λ ds xs H1 e1 s1 r1 j1 h1=>?_;unfold cap at h1;split at h1
 ·rename_i hl;exact⟨by rw[<-r1.length];exact z0b hl eO,λ p hp=>h1 _ _ (Same.upd hp) (Rep.jr hp (j1.lQ hp) r1)⟩
 ·exact h1.elim
def bZ:D->D->R D
 | .tup ds,.int i=>match atI ds i with |some d=> .ok d |none=> .bad
 | .lst ds,.int i=>match atI ds i with |some d=> .ok d |none=> .bad
 |_,_=> .bad
theorem aJ.atI {K:PySem.W.Frag} {O:Addr->Prop} {H:Hp} {ds:List D} {vs:List V} {i:Int} {d:D} (r:aJ K O H ds vs) (e:atI ds i=some d):∃v,atI vs i=some v/\Rep K O H d v:=by
 unfold L2.atI at e |-;rw[r.length] at e;cases q:ixN vs.length i with
 |none=>rw[q] at e;cases e
 | some k=>
  rw[q] at e;obtain⟨v,h1,h2⟩:=r.get (i:=k) (d:=d) e;exact⟨v,h1,h2⟩
theorem bR (ha:DE X a f) (hb:DE X b g) (hs:PlainIx b:=by exact λ _ _=>rfl):DE X (.Subscript a b pos) (bin f g bZ):=by
 refine PE.imp (pe_ix ix_seq ha hb hs) λ σ H Q h=>Av (λ ρ O σ H Q x y dx dy j0 rx ry h=>?_) h;cases dx <;> cases dy <;> first
  |exact h.elim
  |skip
 ·rename_i ds i;obtain⟨p,xs,rfl,hq,r⟩:=rx.tup;have h':good X (rD X) O (match L2.atI ds i with |some d=>R.ok d |none=>R.bad) σ H Q:=h;cases e:L2.atI ds i with
  |none=>rw[e] at h';exact h'.elim
  | some d=>
   rw[e] at h';obtain⟨v,e1,rv⟩:=r.atI e;exact .inr (.inl ⟨p,xs,i,v,rfl,ry.int,hq,e1,fin h' rv⟩)
 ·rename_i ds i;obtain⟨p,xs,rfl,hq,_,r⟩:=rx.lst;have h':good X (rD X) O (match L2.atI ds i with |some d=>R.ok d |none=>R.bad) σ H Q:=h;cases e:L2.atI ds i with
  |none=>rw[e] at h';exact h'.elim
  | some d=>
   rw[e] at h';obtain⟨v,e1,rv⟩:=r.atI e;exact .inl ⟨p,xs,i,v,rfl,ry.int,hq,e1,fin h' rv⟩
def CallD (X:Cx) (u:Value) (k:List D->R D):Prop:=∃r:List V->Hp->VK->Prop,CallR X u r/\
 ∀(ρ:ao) (O:Addr->Prop) (σ:St) (H:Hp) (Q:VK) (xs:List V) (ds:List D),In X O H ρ σ->aJ X.K O H ds xs->good X (rD X) O (k ds) σ H Q->r xs H Q
def aB (k:List D->R D) (fa:ao->R (List D)):ao->R D:=λ ρ=>(fa ρ).bind k
variable {x:Str} {pp:Pos} {k:List D->R D} {id T:String}
theorem aW (hc:CallD X (.builtin id) k) (hg:Gl X x) (hm:X.mg x=none) (hv:bootBuiltins x=some (.builtin id)) (ha:DA X (a::es) fa) (hn:x≠"__name__" :=by decide) (hdb:(x ==("__debug__" :Str))=false:=by decide)
  (he:starEach (a::es) X.env=(false,eval a X.env)::starEach es X.env:=by rfl) (hpl:(backTo pos (starEach es X.env)).any (·.1)=false:=by rfl):DE X (.Call (.Name x pp) (a::es) [] pos) (aB k fa):=by
 obtain⟨r,hc,hr⟩:=hc;refine PE.imp (pe_callB hc hg hm hv ha hn hdb he hpl) λ σ H Q h=>?_;obtain⟨ρ,O,j,h⟩:=h;exact go j h λ ds xs H1 e1 s1 r1 j1 h1=>hr ρ O σ H1 Q xs ds j1 r1 h1
theorem cW (hc:CallD X (.type T) k) (hg:Gl X x) (hm:X.mg x=none) (hv:bootBuiltins x=some (.type T)) (ha:DA X (a::es) fa) (hn:x≠"__name__" :=by decide) (hdb:(x ==("__debug__" :Str))=false:=by decide)
  (he:starEach (a::es) X.env=(false,eval a X.env)::starEach es X.env:=by rfl) (hpl:(backTo pos (starEach es X.env)).any (·.1)=false:=by rfl):DE X (.Call (.Name x pp) (a::es) [] pos) (aB k fa):=by
 obtain⟨r,hc,hr⟩:=hc;refine PE.imp (pe_callTy hc hg hm hv ha hn hdb he hpl) λ σ H Q h=>?_;obtain⟨ρ,O,j,h⟩:=h;exact go j h λ ds xs H1 e1 s1 r1 j1 h1=>hr ρ O σ H1 Q xs ds j1 r1 h1
end
section
variable {X:Cx} {a b c:Expr} {f g h:ao->R D} {pos:Pos}
theorem Fq {r r':R2} {k:D->D->R D} {Q:VK}
  (hr:∀(ρ:ao) (O:Addr->Prop) (σ:St) (H:Hp) (Q:VK) (x y:V) (dx dy:D),In X O H ρ σ->Rep X.K O H dx x->Rep X.K O H dy y->good X (rD X) O (k dx dy) σ H Q->r x y H Q)
  (hl:∀(ρ:ao) (O:Addr->Prop) (σ:St) (H:Hp) (Q:VK) (x y:V) (dx dy:D),In X O H ρ σ->Rep X.K O H dx x->Rep X.K O H dy y->good X (rD X) O (l dx dy) σ H Q->r' x y H Q)
  (q:tG X (rD X) (Ax f g h k l) σ H Q):tChain r r' (tG X (rD X) f) (tG X (rD X) g) (tG X (rD X) h) σ H Q:=by
 obtain⟨ρ,O,j,q⟩:=q;refine go j q λ dx x H1 e1 s1 r1 j1 h1=>?_;refine go j1 h1 λ dy y H2 e2 s2 r2 j2 h2=>?_;have r1':=r1.same s2;cases e3:k dx dy with
 |bad=>rw[e3] at h2;exact h2.elim
 |err n=>rw[e3] at h2;exact hr ρ O σ H2 _ x y dx dy j2 r1' r2 (by rw[e3];exact h2)
 | ok z=>
  rw[e3] at h2;refine hr ρ O σ H2 _ x y dx dy j2 r1' r2 ?_;rw[e3];intro v H3 s3 r3;have j3:=j2.same s3;cases z with
  | bl t=>
   refine⟨t,r3.bl,?_⟩;cases t with
   | true=>
    rw[if_pos rfl];exact go j3 (good.same h2 s3) λ dw w H4 e4 s4 r4 j4 h4=>hl ρ O σ H4 Q y w dy dw j4 (r2.same (s3.trans s4)) r4 h4
   | false=>
    rw[if_neg Bool.false_ne_true];exact fin (good.same h2 s3) (gb _)
  |_=>exact h2.elim
theorem zH {op op':CmpOp} {k:D->D->R D} (ho:iY X (compareOp op) k) (ho':iY X (compareOp op') l) (ha:DE X a f) (hb:DE X b g) (hc:DE X c h)
  (hm:lastMarks [op,op'] [b,c]=false:=by with_unfolding_all rfl):DE X (.Compare a [op,op'] [b,c] pos) (Ax f g h k l):=by
 obtain⟨r,ho,hr⟩:=ho;obtain⟨r',ho',hr'⟩:=ho';exact PE.imp (pe_chain ho ho' ha hb hc hm) λ σ H Q q=>Fq hr hr' q
theorem Vy {op op':CmpOp} {k:D->D->R D} (ho:iY X (compareOp op) k) (ho':iY X (compareOp op') l) (ha:DE X a f) (hb:DE X b g) (hc:DE X c h)
  (hm:lastMarks [op,op'] [b,c]=false:=by with_unfolding_all rfl):DT X (.Compare a [op,op'] [b,c] pos) (cI (Ax f g h k l)):=by
 obtain⟨r,ho,hr⟩:=ho;obtain⟨r',ho',hr'⟩:=ho';exact PT.imp (pt_chain ho ho' ha hb hc hm) λ σ H Q q=>zG (λ Q q=>Fq hr hr' q) q
end
def YAt (K:PySem.W.Frag) (O:Addr->Prop) (J:It) (xs:List D) (H:Hp):Prop:=
 ∀i:Nat,(∀d,xs[i]?=some d->J.go i H/\∀x H',J.yld i H x H'->Same H H'/\Rep K O H' d x)/\(xs.length<=i->J.stop i H)
def YR (K:PySem.W.Frag) (O:Addr->Prop) (H:Hp) (J:It) (xs:List D):Prop:=∀O' H',c7 K O H O' H'->YAt K O' J xs H'
abbrev rIt (X:Cx):(Addr->Prop)->Hp->List D->It->Prop:=λ O H xs J=>YR X.K O H J xs
def DI (X:Cx) (tg iter:Expr) (fi:ao->R (List D)):Prop:=PI X tg iter (tG X (rIt X) fi)
theorem PI.imp {tg e:Expr} {t t':TI} (h:PI X tg e t) (w:∀σ H Q,t' σ H Q->t σ H Q):PI X tg e t':=λ pins s σ H Q I q=>h pins s σ H Q I (w σ H Q q)
section
variable {X:Cx} {tg:Expr}
def ac5 (K:PySem.W.Frag) (tl:TE):TI:=λ σ H R=>tl σ H λ x H1=>∃a,x= .ref a/\(((∃xs,SqL K H1 a xs)/\R (Itl K a) H1)\/((∃xs,SqT K H1 a xs)/\R (Itt K a) H1))
theorem aaI {l:Expr} {tl:TE} (hl:PE X l tl):PI X tg l (ac5 X.K tl):=by
 intro pins s σ H R I h;refine thn (hl pins s σ H _ I h) λ v s1 bA=>?_;obtain⟨x,H1,I1,r1,q1⟩:=bA;obtain⟨a,e,q⟩:=q1;subst e;cases r1;have fp:∀b∈[s1.heap.objs.size],FpOk X pins H1 b:=λ b hb=>by
  have e:b=s1.heap.objs.size:=by simpa using hb
  subst e;exact I1.fpOk (z0g _) (I1.hok.fresh (z0g _))
 rcases q with⟨⟨xs,hq⟩,q⟩ |⟨⟨xs,hq⟩,q⟩
 ·obtain⟨its,rv,p,hz⟩:=I1.list hq;refine wpAny_pyIter_list p.isList ?_;exact⟨s1.heap.objs.size,[s1.heap.objs.size],_,_,H1,rfl,I1.kept (t':=s1.toks) λ b o e=>z1a _ e,turn_list a _,⟨_,z1f _ rfl,rfl,rfl⟩,fp,q⟩
 ·obtain⟨its,rv,p,hz⟩:=I1.tuple hq;refine wpAny_pyIter_tuple (show s1.heap.IsTuple a its.toArray from p) ?_;exact⟨s1.heap.objs.size,[s1.heap.objs.size],_,_,H1,rfl,I1.kept (t':=s1.toks) λ b o e=>z1a _ e,turn_tuple a _,⟨_,z1f _ rfl,rfl,rfl⟩,fp,q⟩
def dG:D->R (List D)
 | .tup ds=> .ok ds
 | .lst ds=> .ok ds
 |_=> .bad
theorem YR.lst {a:Addr} (h:SqL K H a xs) (n:¬O a) (r:aJ K O H ds xs):YR K O H (Itl K a) ds:=by
 intro O' H' q;have h':SqL K H' a xs:=SqL.ext q.ext n h;have r':=r.go q;intro i;refine⟨λ d e=>?_,λ e=>⟨xs,h',by rw[<-r.length];exact e⟩⟩;obtain⟨v,e1,rv⟩:=r'.get e;refine⟨⟨xs,v,h',e1⟩,λ x H2 y=>?_⟩;obtain⟨eH,y⟩:=y;subst eH;have:=y xs h';rw[e1] at this;cases this;exact⟨Same.refl _,rv⟩
theorem YR.tup {a:Addr} (h:SqT K H a xs) (r:aJ K O H ds xs):YR K O H (Itt K a) ds:=by
 intro O' H' q;have h':SqT K H' a xs:=SqT.ext q.ext h;have r':=r.go q;intro i;refine⟨λ d e=>?_,λ e=>⟨xs,h',by rw[<-r.length];exact e⟩⟩;obtain⟨v,e1,rv⟩:=r'.get e;refine⟨⟨xs,v,h',e1⟩,λ x H2 y=>?_⟩;obtain⟨eH,y⟩:=y;subst eH;have:=y xs h';rw[e1] at this;cases this;exact⟨Same.refl _,rv⟩
def d9 (f:ao->R D):ao->R (List D):=λ ρ=>(f ρ).bind dG
theorem dH {l:Expr} {f:ao->R D} (h:DE X l f):DI X tg l (d9 f):=by
 refine PI.imp (aaI h) λ σ H Q q=>?_;obtain⟨ρ,O,j,q⟩:=q;refine go j q λ d x H1 e1 s1 r1 j1 h1=>?_;cases d with
 | tup ds=>
  obtain⟨a,xs,rfl,hq,r⟩:=r1.tup;exact⟨a,rfl,.inr ⟨⟨xs,hq⟩,fin h1 (YR.tup hq r)⟩⟩
 | lst ds=>
  obtain⟨a,xs,rfl,hq,n,r⟩:=r1.lst;exact⟨a,rfl,.inl ⟨⟨xs,hq⟩,fin h1 (YR.lst hq n r)⟩⟩
 |_=>exact h1.elim
def upto (lo:Int) (n:Nat):List D:=(List.range n).map λ (i:Nat)=>D.int (lo+(i:Int))
theorem YR.rng (lo:Int) (n:Nat):YR K O H (Itr lo n) (upto lo n):=by
 intro O' H' q i;have hl:(upto lo n).length=n:=by simp[upto]
 refine⟨λ d e=>?_,λ e=>by rw[hl] at e;exact e⟩;have hi:i < n:=by rw[<-hl];exact (z1b e).1
 have e2:d=D.int (lo+(i:Int)):=by
  simp only[upto,z2b,List.getElem?_range hi] at e;exact (Option.some.inj e).symm
 subst e2;refine⟨hi,λ x H2 y=>?_⟩;obtain⟨eH,y⟩:=y;subst eH;subst y;exact⟨Same.refl _,bY _⟩
def gJ:List D->R (List D)
 |[.int j]=>if -(2 ^ 62)<=j/\j < 2 ^ 62 then .ok (upto 0 j.toNat) else .bad
 |_=> .bad
def CZ:List D->R (List D)
 |[.int i,.int j]=>if -(2 ^ 62)<=i/\i < 2 ^ 62/\-(2 ^ 62)<=j/\j < 2 ^ 62 then .ok (upto i (j - i).toNat) else .bad
 |_=> .bad
theorem aJ.one (r:aJ K O H [d] xs):∃x,xs=[x]/\Rep K O H d x:=by
 obtain⟨x,t,rfl,h1,h2⟩:=r.cons_inv;rw[h2.nil_inv];exact⟨x,rfl,h1⟩
theorem aJ.two {e:D} (r:aJ K O H [d,e] xs):∃x y,xs=[x,y]/\Rep K O H d x/\Rep K O H e y:=by
 obtain⟨x,t,rfl,h1,h2⟩:=r.cons_inv;obtain⟨y,rfl,h3⟩:=h2.one;exact⟨x,y,rfl,h1,h3⟩
variable {a b:Expr} {fa:ao->R (List D)} {p pos:Pos}
theorem dB (hg:Gl X "range") (hm:X.mg "range" =none) (ha:DA X [a] fa) (hs:starEach [a] X.env=[(false,eval a X.env)]:=by rfl):DI X tg (.Call (.Name "range" p) [a] [] pos) (λ ρ=>(fa ρ).bind gJ):=by
 refine PI.imp (pi_range1 hg hm ha hs) λ σ H Q q=>?_;obtain⟨ρ,O,j,q⟩:=q;refine go j q λ ds xs H1 e1 s1 r1 j1 h1=>?_;unfold gJ at h1;split at h1
 ·obtain⟨x,rfl,rx⟩:=r1.one;split at h1
  ·rename_i i hi;exact⟨i,by rw[rx.int],hi.1,hi.2,fin h1 (YR.rng 0 i.toNat)⟩
  ·exact h1.elim
 ·exact h1.elim
theorem Rz (hg:Gl X "range") (hm:X.mg "range" =none) (ha:DA X [a,b] fa) (hs:starEach [a,b] X.env=[(false,eval a X.env),(false,eval b X.env)]:=by rfl) (hs2:starEach [b] X.env=[(false,eval b X.env)]:=by rfl):
  DI X tg (.Call (.Name "range" p) [a,b] [] pos) (λ ρ=>(fa ρ).bind CZ):=by
 refine PI.imp (pi_range2 hg hm ha hs hs2) λ σ H Q q=>?_;obtain⟨ρ,O,j,q⟩:=q;refine go j q λ ds xs H1 e1 s1 r1 j1 h1=>?_;unfold CZ at h1;split at h1
 ·obtain⟨x,y,rfl,rx,ry⟩:=r1.two;split at h1
  ·rename_i i k hi;exact⟨i,k,by rw[rx.int,ry.int],hi,fin h1 (YR.rng i (k - i).toNat)⟩
  ·exact h1.elim
 ·exact h1.elim
end
inductive DGp (X:Cx) (gt:D->ao->R ao) (v:V) (σ:St) (H:Hp) (Q:St->Hp->Prop):Prop
 |mk (ρ:ao) (O:Addr->Prop) (d:D) (ρ':ao) (j:In X O H ρ σ) (r:Rep X.K O H d v) (e:gt d ρ= .ok ρ') (q:∀σ',In X O H ρ' σ'->Q σ' H):DGp X gt v σ H Q
def DG (X:Cx) (tg:Expr) (gt:D->ao->R ao):Prop:=PG X tg λ v σ H Q=>DGp X gt v σ H Q
inductive aaJ (X:Cx) (gt:List D->ao->R ao) (vs:List V) (σ:St) (H:Hp) (Q:St->Hp->Prop):Prop
 |mk (ρ:ao) (O:Addr->Prop) (ds:List D) (ρ':ao) (j:In X O H ρ σ) (r:aJ X.K O H ds vs) (e:gt ds ρ= .ok ρ') (q:∀σ',In X O H ρ' σ'->Q σ' H):aaJ X gt vs σ H Q
def Xy (X:Cx) (ts:List Expr) (gt:List D->ao->R ao):Prop:=PGs X ts λ vs σ H Q=>aaJ X gt vs σ H Q
section
variable {X:Cx} {pos:Pos}
theorem In.set (j:In X O H ρ σ) (hi:i < X.N.length) {v:V} (r:Rep X.K O H d v):In X O H (ρ.set i (some (.val d))) (σ.set i (some v)):=by
 have h1:i < ρ.length:=by rw[j.jU];exact hi
 have h2:i < σ.length:=by rw[j.len];exact hi
 refine⟨⟨λ k e q=>?_,λ k l e e' u hkl qk ql ok ol sk sl=>?_,λ k l rows a rs e u hkl qk sk ha ql ol sl=>?_⟩,j.al,by rw[List.length_set];exact j.len,by rw[List.length_set];exact j.jU⟩
 ·by_cases hk:k=i
  ·subst hk;rw[z2a h1] at q;cases q;exact⟨v,z2a h2,r⟩
  ·rw[z1e (Ne.symm hk)] at q;obtain⟨u,q1,q2⟩:=j.env.get k e q;exact⟨u,by rw[z1e (Ne.symm hk)];exact q1,q2⟩
 ·have hk:k≠i:=λ z=>by subst z;rw[z2a h1] at qk;cases qk;cases ok
  have hl:l≠i:=λ z=>by subst z;rw[z2a h1] at ql;cases ql;cases ol
  rw[z1e (Ne.symm hk)] at qk sk;rw[z1e (Ne.symm hl)] at ql sl;exact j.env.sep k l e e' u hkl qk ql ok ol sk sl
 ·have hk:k≠i:=λ z=>by subst z;rw[z2a h1] at qk;cases qk
  have hl:l≠i:=λ z=>by subst z;rw[z2a h1] at ql;cases ql;cases ol
  rw[z1e (Ne.symm hk)] at qk sk;rw[z1e (Ne.symm hl)] at ql sl;exact j.env.lg k l rows a rs e u hkl qk sk ha ql ol sl
def aF (i:Nat) (d:D) (ρ:ao):R ao:= .ok (ρ.set i (some (.val d)))
theorem aZ (i:Nat) {x:Str} (hN:X.N.Nodup) (hi:X.N[i]?=some x:=by rfl) (hx:Loc X.env.scope x:=by first |exact Or.inl rfl |exact Or.inr rfl) (hf:X.fn x=true\/X.env.scope.names.lookup x=some .local:=by first |exact .inl rfl |exact .inr rfl):DG X (.Name x pos) (aF i):=by
 intro pins s σ H v u Q I r h;obtain⟨ρ,O,d,ρ',j,rd,e,q⟩:=h;cases e;exact pg_name hN hi hx hf pins s σ H v u Q I r (q _ (j.set (z1b hi).1 rd))
def nilG:List D->ao->R ao
 |[],ρ=> .ok ρ
 |_,_=> .bad
def aQ (t:D->ao->R ao) (u:List D->ao->R ao):List D->ao->R ao
 |d::ds,ρ=>(t d ρ).bind λ ρ'=>u ds ρ'
 |_,_=> .bad
theorem jR:Xy X [] nilG:=by
 intro pins s σ H vs us Q I r h;obtain⟨ρ,O,ds,ρ',j,rd,e,q⟩:=h;cases ds with
 |nil=>cases e;exact pgs_nil pins s σ H vs us Q I r ⟨rd.nil_inv,q _ j⟩
 |cons d ds=>cases e
theorem cB {e:Expr} {es:List Expr} {t:D->ao->R ao} (h1:DG X e t) (h2:Xy X es u)
  (hs:(assignEach (e::es) X.env).map (·.2)=assign e X.env::(assignEach es X.env).map (·.2):=by rfl):Xy X (e::es) (aQ t u):=by
 intro pins s σ H vs us Q I r h;obtain⟨ρ,O,ds,ρ',j,rd,e,q⟩:=h;cases ds with
 |nil=>cases e
 | cons d ds=>
  obtain⟨x,xs,rfl,rx,rxs⟩:=rd.cons_inv;have e':(t d ρ).bind (λ ρ'=>u ds ρ')= .ok ρ':=e;cases q1:t d ρ with
  |bad=>rw[q1] at e';cases e'
  |err c=>rw[q1] at e';cases e'
  | ok ρ1=>
   rw[q1] at e';refine pgs_cons h1 h2 hs pins s σ H _ us Q I r ⟨x,xs,rfl,ρ,O,d,ρ1,j,rx,q1,λ σ1 j1=>?_⟩;exact⟨ρ1,O,ds,ρ',j1,rxs,e',q⟩
def cD (u:List D->ao->R ao):D->ao->R ao
 | .tup ds,ρ=>u ds ρ
 |_,_=> .bad
def cF (n:Nat) (u:List D->ao->R ao):List D->ao->R ao:=λ ds ρ=>if ds.length=n then u ds ρ else .bad
theorem lU {es:List Expr} {k:Nat} (hc:X.calm=true) (h:Xy X es u)
  (hn:(assignEach es X.env).length=n:=by rfl) (hst:(assignEach es X.env).findIdx? (·.1)=none:=by rfl):DG X (.Tuple es k pos) (cD (cF n u)):=by
 intro pins s σ H v w Q I r q;obtain⟨ρ,O,d,ρ',j,rd,e,q⟩:=q;cases d with
 | tup ds=>
  obtain⟨a,xs,rfl,hq,rs⟩:=rd.tup;have e':(if ds.length=n then u ds ρ else .bad)= .ok ρ':=e;by_cases hl:ds.length=n
  ·rw[if_pos hl] at e';exact pg_tup hc h hn hst pins s σ H _ w Q I r ⟨a,xs,rfl,hq,by rw[<-rs.length];exact hl,ρ,O,ds,ρ',j,rs,e',q⟩
  ·rw[if_neg hl] at e';cases e'
 |_=>cases e
end
def jx (x:Str):List Str->Nat
 |[]=>0
 |y::r=>if x=y then 0 else jx x r+1
theorem mY {x:Str}:∀{N:List Str},x∈N->N[jx x N]?=some x
 |[],h=>by simp at h
 | y ::r,h=>by
  unfold jx;by_cases e:x=y
  ·rw[if_pos e,e];rfl
  ·rw[if_neg e];rcases List.mem_cons.mp h with z |z
   ·exact absurd z e
   ·simpa using mY z
def pull {α:Type} (N caps:List Str) (n:Nat) (l:List (Option α)):List (Option α):=List.replicate n none++caps.map λ x=>(l[jx x N]?).join
theorem uI (N caps:List Str) (n:Nat) (l:List (Option α)):(pull N caps n l).length=n+caps.length:=by simp[pull]
theorem join_some {o:Option (Option α)} {a:α} (h:o.join=some a):o=some (some a):=by
 cases o with
 |none=>cases h
 |some o=>exact congrArg some h
theorem lq {l:List (Option α)} {a:α} (h:(pull N caps n l)[i]?=some (some a)):∃j x,i=n+j/\caps[j]?=some x/\l[jx x N]?=some (some a):=by
 unfold pull at h;by_cases hi:i < n
 ·rw[List.getElem?_append_left (by simpa using hi),List.getElem?_replicate,if_pos hi] at h;cases h
 ·rw[List.getElem?_append_right (by simpa using hi),List.length_replicate,z2b] at h;cases e:caps[i - n]? with
  |none=>rw[e] at h;cases h
  | some x=>
   rw[e] at h;exact⟨i - n,x,by omega,e,join_some (Option.some.inj h)⟩
theorem tR {l:List (Option α)} {j:Nat} {x:Str} (h:caps[j]?=some x):(pull N caps n l)[n+j]?=some (l[jx x N]?).join:=by
 unfold pull;rw[List.getElem?_append_right (by simp),List.length_replicate,z2b,show n+j - n=j by omega,h];rfl
def dI (sc:Scope):List Str:=(sc.names.filter λ x=>decide (x.2= .free)).map (·.1)
def wu (outer sc:Scope) (ts N:List Str):Bool:=
 decide (sc.kind= .function) && sc.names.all (λ x=>(!decide (x.2= .local)) || decide (sc.names.lookup x.1=some .local)) && sc.names.all (λ x=>(!decide (x.2= .cell)) || decide (sc.names.lookup x.1=some .cell)) &&
  (dI sc).all (λ x=>(decide (outer.names.lookup x=some .cell) || decide (outer.names.lookup x=some .free)) && decide (x∈N) && decide (sc.names.lookup x=some .free)) && decide (ts++dI sc).Nodup
structure yu (outer sc:Scope) (ts N:List Str):Prop where
 kind:sc.kind= .function
 loc:∀x∈sc.names,x.2= .local->sc.names.lookup x.1=some .local
 Xz:∀x∈sc.names,x.2= .cell->sc.names.lookup x.1=some .cell
 out:∀x∈dI sc,outer.names.lookup x=some .cell\/outer.names.lookup x=some .free
 mem:∀x∈dI sc,x∈N
 Ft:∀x∈dI sc,sc.names.lookup x=some .free
 nd:(ts++dI sc).Nodup
theorem acg {outer:Scope} (h:wu outer sc ts N=true):yu outer sc ts N:=by
 unfold wu at h;simp only[Bool.and_eq_true,List.all_eq_true,decide_eq_true_eq,Bool.or_eq_true,Bool.not_eq_true',decide_eq_false_iff_not] at h;obtain⟨⟨⟨⟨h1,h2⟩,h3⟩,h4⟩,h5⟩:=h;exact⟨h1,λ x hx e=>(h2 x hx).resolve_left λ n=>n e,λ x hx e=>(h3 x hx).resolve_left λ n=>n e,λ x hx=>(h4 x hx).1.1,λ x hx=>(h4 x hx).1.2,λ x hx=>(h4 x hx).2,h5⟩
def gq (cs:List (Str×Addr)):List (Str×NameKind)->List (Str×Addr)->List (Str×Addr)
 |[],acc=>acc
 |(n,k)::r,acc=>if k= .free then gq cs r ((n,(cs.lookup n).getD 0)::acc) else gq cs r acc
theorem Qc {env:PySem.Env} (h:∀x∈scope.names,x.2= .free->∃c,env.cells.lookup x.1=some c):closureFor scope env=pure (gq env.cells scope.names []):=by
 unfold closureFor;have all:∀(l:List (Str×NameKind)) (acc:List (Str×Addr)),(∀x∈l,x.2= .free->∃c,env.cells.lookup x.1=some c)->
   (forIn l acc λ x r=>match x with |(name,kind)=>if (kind ==NameKind.free)=true then do let a <-cellOf env name;pure (ForInStep.yield ((name,a)::r)) else pure (ForInStep.yield r):Sem (List (Str×Addr)))=pure (gq env.cells l acc):=by
  intro l
  induction l with
  |nil=>intro acc _;rfl
  | cons x r ih=>
   intro acc hx;obtain⟨n,k⟩:=x;rw[List.forIn_cons];unfold gq;by_cases hk:k= .free
   ·obtain⟨c,hc⟩:=hx (n,k) List.mem_cons_self hk;have hc:env.cells.lookup n=some c:=hc;have e1:cellOf env n=pure c:=by unfold cellOf;rw[hc]
    subst hk;simp only[e1,hc,Option.getD_some,beq_self_eq_true,if_true,pure_bind];exact ih _ λ y hy=>hx y (z2f _ hy)
   ·have e2:(k ==NameKind.free)=false:=by simpa using hk
    simp only[e2,Bool.false_eq_true,if_false,pure_bind,hk];exact ih _ λ y hy=>hx y (z2f _ hy)
 simpa using all scope.names [] h
theorem jW (cs:List (Str×Addr)):∀(l:List (Str×NameKind)) (acc:List (Str×Addr)),gq cs l acc=gq cs l []++acc
 |[],acc=>rfl
 | (n,k)::r,acc=>by
  unfold gq;split
  ·rw[jW cs r (_::acc),jW cs r [_]];simp
  ·exact jW cs r acc
theorem qy (cs:List (Str×Addr)):∀(l:List (Str×NameKind)) {n:Str} {c:Addr},(n,c)∈gq cs l []->(n,NameKind.free)∈l/\c=(cs.lookup n).getD 0
 |[],_,_,h=>by simp[gq] at h
 | (m, k)::r,n,c,h=>by
  unfold gq at h;split at h
  ·rename_i hk;rw[jW] at h;rcases List.mem_append.mp h with h |h
   ·obtain⟨h1,h2⟩:=qy cs r h;exact⟨z2f _ h1,h2⟩
   ·have e:=List.mem_singleton.mp h;cases e;subst hk;exact⟨List.mem_cons_self,rfl⟩
  ·obtain⟨h1,h2⟩:=qy cs r h;exact⟨z2f _ h1,h2⟩
theorem zJ (cs:List (Str×Addr)):∀(l:List (Str×NameKind)) {n:Str},(n,NameKind.free)∈l->((gq cs l []).lookup n).isSome=true
 |[],_,h=>by simp at h
 | (m, k)::r,n,h=>by
  unfold gq;split
  ·rename_i hk;rw[jW,List.lookup_append];rcases List.mem_cons.mp h with e |h
   ·cases e;simp[List.lookup_cons]
   ·simp[zJ cs r h]
  ·rename_i hk;rcases List.mem_cons.mp h with e |h
   ·cases e;exact absurd rfl hk
   ·exact zJ cs r h
theorem dM:∀(l:List (Str×NameKind)) (n:Nat) (acc:List (Str×Addr)),cellsFrom n l acc=cellsFrom n l []++acc
 |[],_,_=>rfl
 | (m,k)::r,n,acc=>by
  unfold cellsFrom;split
  ·rw[dM r _ (_::acc),dM r _ [_]];simp
  ·exact dM r n acc
theorem jc:∀(l:List (Str×NameKind)) (n:Nat) {x:Str} {c:Addr},(x,c)∈cellsFrom n l []->(x,NameKind.cell)∈l/\n<=c
 |[],_,_,_,h=>by simp[cellsFrom] at h
 | (m, k)::r,n,x,c,h=>by
  unfold cellsFrom at h;split at h
  ·rename_i hk;rw[dM] at h;rcases List.mem_append.mp h with h |h
   ·obtain⟨h1,h2⟩:=jc r _ h;exact⟨z2f _ h1,by omega⟩
   ·have e:=List.mem_singleton.mp h;cases e;have:k= .cell:=by simpa using hk
    subst this;exact⟨List.mem_cons_self,z0g _⟩
  ·obtain⟨h1,h2⟩:=jc r _ h;exact⟨z2f _ h1,h2⟩
section
variable {M:Model} {A:Around} {E:Value->Shared->Prop} {s:Shared}
theorem RB {globals:Addr} {cl:List (Str×Addr)} {qual:Str} {env:PySem.Env} {Q:PySem.Env->Shared->Prop}
  (hQ:Q (newEnv scope s.heap.objs.size globals (cellsFrom (s.heap.objs.size+1) scope.names cl) qual none .none (some env) builtinsNs) {s with heap:=pushCells (s.heap.push {cls:= .type "dict",data:= .dict #[]}) scope.names}):
  wpAny M A (newFunctionEnv scope globals cl [] qual none .none (some env)) Q E s:=by
 simp only[newFunctionEnv,Option.isSome_some,if_true];refine wpAny_bind (wpAny_alloc ?_);refine wpAny_bind (wpAny_layCells _ (λ name kind cells=>by cases hkc:kind ==NameKind.cell <;> simp[hkc]) _ _ _ _ ?_);rw[show ({s with heap:=s.heap.push {cls:= .type "dict",data:= .dict #[]}}:Shared).heap.objs.size=s.heap.objs.size+1 from Heap.size_push ..];exact wpAny_bind (wpAny_pure (wpAny_pure hQ))
end
def fM (scope:Scope) (env:PySem.Env) (C:Addr):PySem.Env:=
 {scope:=relabel scope env,locals:=C,globals:=env.globals,cells:=cellsFrom (C+1) scope.names (gq env.cells scope.names []),qual:=env.qual,func:=none,code:=env.code,frame:=env.frame,builtins:=env.builtins}
def cg (X:Cx) (scope:Scope) (ts:List Str) (C:Addr) (s:Shared) (H:Hp) (ex:List Addr):Cx where
 prog:=X.prog
 w:=X.w
 K:=X.K
 mg:=X.mg
 base:=X.base
 A:=X.A
 N:=ts++dI scope
 s₀:=s
 H₀:=H
 env:=fM scope X.env C
 outer:=X.stack
 stack:=X.stack
 ex:=ex
 fn:=λ x=>decide (scope.names.lookup x=some .cell)
 calm:=X.calm
 pn:=[]
 xe:=λ _ _=>False
theorem mZ {scope:Scope} {env:PySem.Env} {x:Str}:∀{names:List (Str×NameKind)},
  (names.map λ (n,k)=>if (k ==NameKind.free && env.scope.kind == .function && env.kindOf n ==some .cell) then (n,NameKind.cell) else (n,k)).lookup x =
   (names.lookup x).map λ k=>if (k ==NameKind.free && env.scope.kind == .function && env.kindOf x ==some .cell) then .cell else k
 |[]=>rfl
 | (n, k)::r=>by
  have ih:= @mZ scope env x r;rw[z1h];show List.lookup x ((if (k ==NameKind.free && env.scope.kind == .function && env.kindOf n ==some .cell)=true then (n,NameKind.cell) else (n,k))::_)=_;cases hx:x ==n with
  | true=>
   have e:x=n:=by simpa using hx
   subst e;by_cases hc:(k ==NameKind.free && env.scope.kind == .function && env.kindOf x ==some .cell)=true
   ·rw[if_pos hc];simp only[List.lookup_cons,beq_self_eq_true,Option.map_some,hc,if_true]
   ·rw[if_neg hc];simp only[List.lookup_cons,beq_self_eq_true,Option.map_some,hc,if_false] <;> rfl
  | false=>
   by_cases hc:(k ==NameKind.free && env.scope.kind == .function && env.kindOf n ==some .cell)=true
   ·rw[if_pos hc];simp only[List.lookup_cons,hx];exact ih
   ·rw[if_neg hc];simp only[List.lookup_cons,hx];exact ih
theorem qz {x:Str} (h:(x,NameKind.free)∈sc.names):x∈dI sc:=List.mem_map.mpr ⟨(x,.free),List.mem_filter.mpr ⟨h,by simp⟩,rfl⟩
theorem Yx {x:Str} (h:x∈dI sc):(x,NameKind.free)∈sc.names:=by
 obtain⟨⟨n,k⟩,h1,h2⟩:=List.mem_map.mp h;obtain⟨h3,h4⟩:=List.mem_filter.mp h1;have h4:k=NameKind.free:=by simpa using h4
 subst h4;have h2:n=x:=h2;subst h2;exact h3
section
variable {X:Cx} {scope:Scope} {ts:List Str} {C:Addr}
theorem jA (B:yu X.env.scope scope ts X.N) (has:∀x,(X.env.kindOf x=some .cell\/X.env.kindOf x=some .free)->∃c,X.env.cells.lookup x=some c) {x:Str} {c:Addr} (h:(fM scope X.env C).cells.lookup x=some c):
  (scope.names.lookup x=some .cell/\@LE.le Nat _ (C+1) c)\/(x∈dI scope/\X.env.cells.lookup x=some c):=by
 have h:(cellsFrom (C+1) scope.names (gq X.env.cells scope.names [])).lookup x=some c:=h;rw[dM,List.lookup_append] at h;cases e:(cellsFrom (C+1) scope.names []).lookup x with
 | some c'=>
  rw[e] at h;have e2:c'=c:=by simpa using h
  subst e2;obtain⟨h1,h2⟩:=jc _ _ (PySem.mem_of_lookup e);exact .inl ⟨B.Xz _ h1 rfl,h2⟩
 | none=>
  rw[e] at h;have h:(gq X.env.cells scope.names []).lookup x=some c:=by simpa using h
  obtain⟨h1,h2⟩:=qy _ _ (PySem.mem_of_lookup h);have hx:=qz h1;obtain⟨c',hc'⟩:=has x (B.out x hx);rw[hc'] at h2;have h2:c=c':=h2;subst h2;exact .inr ⟨hx,hc'⟩
theorem Io (B:yu X.env.scope scope ts X.N) {x:Str} {c:Addr} (hx:x∈dI scope) (hc:X.env.cells.lookup x=some c) (has:∀x,(X.env.kindOf x=some .cell\/X.env.kindOf x=some .free)->∃c,X.env.cells.lookup x=some c):(fM scope X.env C).cells.lookup x=some c:=by
 have hs:=zJ X.env.cells scope.names (Yx hx);obtain⟨c',e⟩:=Option.isSome_iff_exists.mp hs;have hl:∃d,(fM scope X.env C).cells.lookup x=some d:=by
  show ∃d,(cellsFrom (C+1) scope.names (gq X.env.cells scope.names [])).lookup x=some d;rw[dM,List.lookup_append,e];cases (cellsFrom (C+1) scope.names []).lookup x with
  |none=>exact⟨c',rfl⟩
  |some d=>exact⟨d,rfl⟩
 obtain⟨d,hd⟩:=hl;rcases jA B has hd with⟨h1,_⟩ |⟨_,h2⟩
 ·rw[B.Ft x hx] at h1;cases h1
 ·rw[hc] at h2;cases h2;exact hd
theorem Vz (B:yu X.env.scope scope ts X.N) {x:Str} (hx:x∈dI scope):(fM scope X.env C).kindOf x=some .cell\/(fM scope X.env C).kindOf x=some .free:=by
 show (relabel scope X.env).names.lookup x=some .cell\/(relabel scope X.env).names.lookup x=some .free;have e:(relabel scope X.env).names.lookup x=(scope.names.lookup x).map λ k=>if (k ==NameKind.free && X.env.scope.kind == .function && X.env.kindOf x ==some .cell) then .cell else k:=mZ (scope:=scope);rw[e,B.Ft x hx];simp only[Option.map_some];split
 ·exact .inl rfl
 ·exact .inr rfl
end
def wz {α:Type}:R α->R α
 | .err _=> .bad
 | .ok a=> .ok a
 | .bad=> .bad
@[simp] theorem tU {α:Type} (a:α):wz (R.ok a)= .ok a:=rfl
def jz (k:D->R (Option D)):List D->R (List D)
 |[]=> .ok []
 |x::xs=>(wz (k x)).bind λ o=>(jz k xs).bind λ ds=> .ok (o.toList++ds)
def m6 (gt:D->ao->R ao) (ft:ao->R Bool) (fe:ao->R D) (ρ:ao) (x:D):R (Option D):=
 (gt x ρ).bind λ ρ1=>(ft ρ1).bind λ b=>if b=true then (fe ρ1).bind λ d=> .ok (some d) else .ok none
def uJ:Option Ent->Option Ent
 |some (.val d)=>some (.val d)
 |_=>none
def yw (n:Nat) (caps:List Nat) (ρ:ao):ao:=List.replicate n none++caps.map λ k=>((ρ.map uJ)[k]?).join
def bF (n:Nat) (caps:List Nat) (fi:ao->R (List D)) (gt:D->ao->R ao) (ft:ao->R Bool) (fe:ao->R D):ao->R D:=
 λ ρ=>(fi ρ).bind λ xs=>(jz (m6 gt ft fe (yw n caps ρ)) xs).bind (cap .lst)
def lV (n:Nat) (gt:D->ao->R ao):Prop:=∀d ρ ρ',gt d ρ= .ok ρ'->∀i,n<=i->ρ'[i]?=ρ[i]?
def yx (n:Nat) (gt:List D->ao->R ao):Prop:=∀d ρ ρ',gt d ρ= .ok ρ'->∀i,n<=i->ρ'[i]?=ρ[i]?
theorem aU (h:i < n):lV n (aF i):=λ d ρ ρ' e j hj=>by
 cases e;rw[z1e (by omega)]
theorem gO:yx n nilG:=λ d ρ ρ' e j hj=>by
 cases d with
 |nil=>cases e;rfl
 |cons _ _=>cases e
theorem bN {t:D->ao->R ao} (h1:lV n t) (h2:yx n u):yx n (aQ t u):=λ d ρ ρ' e j hj=>by
 cases d with
 |nil=>cases e
 | cons d ds=>
  have e':(t d ρ).bind (λ ρ'=>u ds ρ')= .ok ρ':=e;cases q:t d ρ with
  |ok ρ1=>rw[q] at e';rw[h2 ds ρ1 ρ' e' j hj,h1 d ρ ρ1 q j hj]
  |err c=>rw[q] at e';cases e'
  |bad=>rw[q] at e';cases e'
theorem gP {m:Nat} (h:yx n u):lV n (cD (cF m u)):=λ d ρ ρ' e j hj=>by
 cases d with
 | tup ds=>
  have e':(if ds.length=m then u ds ρ else .bad)= .ok ρ':=e;by_cases hl:ds.length=m
  ·rw[if_pos hl] at e';exact h ds ρ ρ' e' j hj
  ·rw[if_neg hl] at e';cases e'
 |_=>cases e
def Fv (Y:Cx) (ifs:List Expr) (ft:ao->R Bool):Prop:=∀(pins:List (Addr×Obj)) (s:Shared) (σ:St) (H:Hp) (Q:Bool->Hp->Prop),Inv Y pins σ H s->tG Y rB ft σ H Q->
 wpAny (model Y.prog Y.w) Y.A (forIn ifs true λ c r=>if r=true then do let ok <-isTrue c Y.env (eval c Y.env);pure (ForInStep.yield ok) else pure (ForInStep.yield r)) (TP Y pins σ Q) Y.xe s
theorem bK:Fv Y [] (λ _=> .ok true):=λ pins s σ H Q I h=>by
 obtain⟨ρ,O,j,h⟩:=h;exact wpAny_tests_nil ⟨H,I,fin h rfl⟩
theorem Yy {c:Expr} {p:ao->R Bool} (hc:DT Y c p):Fv Y [c] p:=λ pins s σ H Q I h=>wpAny_tests_one (hc pins s σ H Q I h)
theorem RD {k:D->R (Option D)} {x:D} {xs:List D} {all:List D} (h:jz k (x::xs)= .ok all):∃o rest,k x= .ok o/\jz k xs= .ok rest/\all=o.toList++rest:=by
 have h:(wz (k x)).bind (λ o=>(jz k xs).bind λ ds=> .ok (o.toList++ds))= .ok all:=h;cases e:k x with
 |bad=>rw[e] at h;cases h
 |err c=>rw[e] at h;cases h
 | ok o=>
  rw[e] at h;cases e2:jz k xs with
  |bad=>rw[e2] at h;cases h
  |err c=>rw[e2] at h;cases h
  | ok rest=>
   rw[e2] at h;cases h;exact⟨o,rest,rfl,rfl,rfl⟩
theorem Ay {k:D->R (Option D)}:∀{xs:List D} {c:Str},jz k xs≠.err c
 |[],c=>λ h=>by cases h
 | x ::xs,c=>λ h=>by
  have h:(wz (k x)).bind (λ o=>(jz k xs).bind λ ds=> .ok (o.toList++ds))= .err c:=h;cases e:k x with
  |bad=>rw[e] at h;cases h
  |err c=>rw[e] at h;cases h
  | ok o=>
   rw[e] at h;cases e2:jz k xs with
   |bad=>rw[e2] at h;cases h
   |err c'=>exact Ay e2
   |ok rest=>rw[e2] at h;cases h
section
variable {X:Cx}
theorem Qd {o:Option Ent} {e:Ent} (h:uJ o=some e):o=some e/\e.M8=true:=by
 cases o with
 |none=>cases h
 | some e'=>
  cases e' with
  |val d=>cases h;exact⟨rfl,rfl⟩
  |lst _=>cases h
  |qj _=>cases h
  |rws _=>cases h
  |obj _=>cases h
theorem qC {e:Ent} (h:(ρ.map uJ)[i]?=some (some e)):ρ[i]?=some (some e)/\e.M8=true:=by
 rw[z2b] at h;cases q:ρ[i]? with
 |none=>rw[q] at h;cases h
 | some o=>
  rw[q] at h;obtain⟨h1,h2⟩:=Qd (Option.some.inj h);rw[h1];exact⟨rfl,h2⟩
theorem In.vals (j:In X O H ρ σ):In X O H (ρ.map uJ) σ:=
 ⟨⟨λ i e h=>j.env.get i e (qC h).1,λ i k e e' v hik hi hk=>j.env.sep i k e e' v hik (qC hi).1 (qC hk).1,λ i k rows a rs e v hik hi=>by cases (qC hi).2⟩,j.al,j.len,by rw[z1g];exact j.jU⟩
theorem Qe {ks:List Nat} (h:caps.map (λ x=>jx x N)=ks):pull N caps n (ρ.map uJ)=yw n ks ρ:=by
 unfold pull yw;rw[<-h,List.map_map];rfl
theorem Yz {pins:List (Addr×Obj)} {s:Shared} {fp:List Addr} (I:Inv X pins σ H s) (B:yu X.env.scope scope ts X.N)
  (hf:∀b∈fp,FpOk X pins H b) (ho:∀b∈fp,b < s.heap.objs.size) {h4:Heap} {C:Nat} (hC:C=s.heap.objs.size+1)
  (e4:h4=pushCells ((s.heap.push {cls:= .type "list",dict:=none,data:= .seq ([]:List Value).toArray}).push {cls:= .type "dict",data:= .dict #[]}) scope.names):
  Inv (cg X scope ts C s H fp) [] (pull X.N (dI scope) ts.length σ) (upd H s.heap.objs.size (.lst [])) {s with heap:=h4}:=by
 have hD:H s.heap.objs.size=none:=I.hok.fresh (z0g _);have XC:∀b o,(s.heap.push {cls:= .type "list",dict:=none,data:= .seq ([]:List Value).toArray}).get? b=some o->h4.get? b=some o:=λ b o e=>by
  rw[e4];exact pushCells_keeps _ _ b o (z1a _ e)
 have keep:∀b o,s.heap.get? b=some o->h4.get? b=some o:=λ b o e=>XC b o (z1a _ e);have sz3:(s.heap.push {cls:= .type "list",dict:=none,data:= .seq ([]:List Value).toArray}).objs.size=s.heap.objs.size+1:=Heap.size_push ..;have hns:h4.Ns C λ _=>none:=by
  rw[e4,hC,<-sz3];exact (Heap.Ns.new _ (.type "dict")).keeps (pushCells_keeps _ _)
 have ok:=cellsFrom_ok scope.names ((s.heap.push {cls:= .type "list",dict:=none,data:= .seq ([]:List Value).toArray}).push {cls:= .type "dict",data:= .dict #[]}) (C+1) [] ⟨λ _ _ hm=>(nomatch hm),List.Pairwise.nil⟩ (by rw[Heap.size_push,sz3,hC];exact z0g _);rw[Heap.size_push,sz3,<-hC,<-e4] at ok;have YB:∀x c,(fM scope X.env C).cells.lookup x=some c->scope.names.lookup x=some .cell->h4.IsCell c none:=λ x c h hk=>by
  have h:(cellsFrom (C+1) scope.names (gq X.env.cells scope.names [])).lookup x=some c:=h;rw[dM,List.lookup_append] at h;cases e:(cellsFrom (C+1) scope.names []).lookup x with
  | some c'=>
   rw[e] at h;have e2:c'=c:=by simpa using h
   subst e2;exact (ok.empty x c' (PySem.mem_of_lookup e)).1
  | none=>
   rw[e] at h;have h:(gq X.env.cells scope.names []).lookup x=some c:=by simpa using h
   have:=B.Ft x (qz (qy _ _ (PySem.mem_of_lookup h)).1);rw[hk] at this;cases this
 have Qf:∀x (c:Nat),X.env.cells.lookup x=some c->c < s.heap.objs.size:=λ x c e=>by
  obtain⟨v,q⟩:=I.cell x c e;exact q.lt
 have aaK:∀x c,(fM scope X.env C).cells.lookup x=some c->∃v,h4.IsCell c v:=λ x c h=>by
  rcases jA B I.ok.has h with⟨h1,_⟩ |⟨_,h2⟩
  ·exact⟨_,YB x c h h1⟩
  ·obtain⟨v,q⟩:=I.cell x c h2;exact⟨v,q.keeps keep⟩
 refine⟨⟨I.ok.mod,B.kind,I.ok.glob,I.ok.blt,by show @LE.le Nat _ s.heap.objs.size C;omega,?inj,?has,?cab,I.ok.hd,I.ok.frames,.inl rfl,?exf,I.bs,z0b I.ok.bsz I.sz,?noex,?exfs,I.stack,I.stkFree⟩,
  rfl,I.bare,Un.laid keep (z0g _) hD,⟨_,hns,?loc⟩,aaK,?free,?freeC,λ p hp=>absurd (show p∈([]:List (Addr×Obj)) from hp) (by simp),I.hok.laid keep (z0g _) ?new,?len⟩
 case inj=>
  intro x y c h1 h2;have h1:(fM scope X.env C).cells.lookup x=some c:=h1;have h2:(fM scope X.env C).cells.lookup y=some c:=h2;rcases jA B I.ok.has h1 with⟨a1,a2⟩ |⟨a1,a2⟩ <;> rcases jA B I.ok.has h2 with⟨b1,b2⟩ |⟨b1,b2⟩
  ·-- both its own
   have look:∀z,(fM scope X.env C).cells.lookup z=some c->scope.names.lookup z=some .cell->(z,c)∈cellsFrom (C+1) scope.names []:=λ z h hk=>by
    have h:(cellsFrom (C+1) scope.names (gq X.env.cells scope.names [])).lookup z=some c:=h;rw[dM,List.lookup_append] at h;cases e:(cellsFrom (C+1) scope.names []).lookup z with
    | some c'=>
     rw[e] at h;have e2:c'=c:=by simpa using h
     subst e2;exact PySem.mem_of_lookup e
    | none=>
     rw[e] at h;have h:(gq X.env.cells scope.names []).lookup z=some c:=by simpa using h
     have:=B.Ft z (qz (qy _ _ (PySem.mem_of_lookup h)).1);rw[hk] at this;cases this
   exact name_of_addr ok.apart (look x h1 a1) (look y h2 b1)
  ·have:=Qf y c b2;omega
  ·have:=Qf x c a2;omega
  ·exact I.ok.inj x y c a2 b2
 case has=>
  intro x hx;have hx:(relabel scope X.env).names.lookup x=some .cell\/(relabel scope X.env).names.lookup x=some .free:=hx;have hx:(scope.names.map λ (n,k)=>if (k ==NameKind.free && X.env.scope.kind == .function && X.env.kindOf n ==some .cell) then (n,NameKind.cell) else (n,k)).lookup x=some .cell\/(scope.names.map λ (n,k)=>if (k ==NameKind.free && X.env.scope.kind == .function && X.env.kindOf n ==some .cell) then (n,NameKind.cell) else (n,k)).lookup x=some .free:=hx;rw[mZ (scope:=scope)] at hx;cases e:scope.names.lookup x with
  |none=>rw[e] at hx;rcases hx with z |z <;> cases z
  | some k=>
   rw[e] at hx;by_cases hk:k= .free
   ·subst hk;have hm:=qz (PySem.mem_of_lookup e);obtain⟨c,hc⟩:=I.ok.has x (B.out x hm);exact⟨c,Io B hm hc I.ok.has⟩
   ·have hk':(k ==NameKind.free)=false:=by simpa using hk
    simp only[Option.map_some,hk',Bool.false_and,Bool.false_eq_true,if_false] at hx;have hc:k= .cell:=by
     rcases hx with z |z
     ·exact Option.some.inj z
     ·exact absurd (Option.some.inj z) hk
    subst hc;have q:=PySem.W.cellsFrom_some scope.names (C+1) (gq X.env.cells scope.names []) (.inl e);exact Option.isSome_iff_exists.mp q
 case cab=>
  intro x c hfn h;have h:(fM scope X.env C).cells.lookup x=some c:=h;have hfn:scope.names.lookup x=some .cell:=of_decide_eq_true hfn;rcases jA B I.ok.has h with⟨_,a2⟩ |⟨a1,_⟩
  ·show @LE.le Nat _ s.heap.objs.size c;omega
  ·rw[B.Ft x a1] at hfn;cases hfn
 case exf=>
  intro b hb;have hb:b∈fp:=hb;have hl: @LT.lt Nat _ b s.heap.objs.size:=ho b hb;refine⟨by show @Ne Nat b C;omega,λ x c h=>?_⟩;rcases jA B I.ok.has h with⟨_,a2⟩ |⟨_,a2⟩
  ·show @Ne Nat c b;omega
  ·exact (hf b hb).2.2.2.2.1 x c a2
 case noex=>
  intro b o e hb;have hb:b∈fp:=hb;rcases (hf b hb).2.2.2.1 with z |z
  ·exact I.ok.noex b o e z
  ·exact absurd (z0d (z2c e) (z0b I.ok.bsz z)) (Nat.lt_irrefl _)
 case exfs=>
  intro b hb hz;have hb:b∈fp:=hb;have hz:b∈frs X.stack:=hz;rcases List.mem_cons.mp (I.stkSub b hz) with z |z
  ·exact (hf b hb).2.1 z
  ·exact (hf b hb).2.2.1 z
 case loc=>
  intro i x v h1 h2 h3;have h1:(ts++dI scope)[i]?=some x:=h1;obtain⟨k,y,e1,e2,e3⟩:=lq h2;have hy:x=y:=by
   rw[e1,List.getElem?_append_right (by omega),show ts.length+k - ts.length=k by omega,e2] at h1;exact (Option.some.inj h1).symm
  subst hy;have hm:x∈dI scope:=List.mem_of_getElem? e2;obtain⟨m,_,hl⟩:=I.loc;have vis:Vis X.env.scope x:=by
   rcases B.out x hm with z |z
   ·exact .inr (.inl z)
   ·exact .inr (.inr z)
  obtain⟨u,ru,lk⟩:=hl (jx x X.N) x v (mY (B.mem x hm)) e3 vis;refine⟨u,ru,.inr ⟨Vz B hm,?_⟩⟩;rcases lk with⟨z,_⟩ |⟨_,c,hc,q⟩
  ·have z:X.env.scope.names.lookup x=some .local:=z;rcases B.out x hm with z' |z' <;> rw[z] at z' <;> cases z'
  ·exact⟨c,Io B hm hc I.ok.has,q.keeps keep⟩
 case free=>
  show upd H s.heap.objs.size (.lst []) C=none;rw[upd_ne (show @Ne Nat C s.heap.objs.size by omega)];exact I.hok.fresh (show @LE.le Nat _ s.heap.objs.size C by omega)
 case freeC=>
  intro x c h;rcases jA B I.ok.has h with⟨_,a2⟩ |⟨_,a2⟩
  ·rw[upd_ne (show @Ne Nat c s.heap.objs.size by omega)];exact I.hok.fresh (show @LE.le Nat _ s.heap.objs.size c by omega)
  ·have:=Qf x c a2;rw[upd_ne (show @Ne Nat c s.heap.objs.size by omega)];exact I.freeC x c a2
 case new=>
  exact⟨Nat.zero_le _,[],0,.nil,XC _ _ (z1f _ rfl)⟩
 case len=>
  show (pull X.N (dI scope) ts.length σ).length=(ts++dI scope).length;rw[uI,z1d]
theorem aaL {s:Shared} {fp:List Addr} {C:Addr} (B:yu X.env.scope scope ts X.N) (j:In X O H ρ σ):In (cg X scope ts C s H fp) O H (pull X.N (dI scope) ts.length ρ) (pull X.N (dI scope) ts.length σ):=by
 refine⟨⟨λ i e h=>?_,λ i k e e' v hik hi hk oi ok si sk=>?_,λ i k rows a rs e v hik hi si ha hk ok sk=>?_⟩,j.al,?_,?_⟩
 ·obtain⟨m,x,rfl,e1,e2⟩:=lq h;obtain⟨v,e3,r⟩:=j.env.get _ e e2;exact⟨v,by rw[tR e1,e3];rfl,r⟩
 ·obtain⟨m,x,rfl,e1,e2⟩:=lq hi;obtain⟨m',x',rfl,e1',e2'⟩:=lq hk;have hx:x≠x':=λ z=>by
   subst z;have nd:=(List.nodup_append.mp B.nd).2.1;exact hik (by rw[nodup_ix nd e1 e1'])
  have hm:=B.mem x (List.mem_of_getElem? e1);have hm':=B.mem x' (List.mem_of_getElem? e1');have hne:jx x X.N≠jx x' X.N:=λ z=>by
   have q1:=mY hm;have q2:=mY hm';rw[z,q2] at q1;exact hx (Option.some.inj q1).symm
  rw[tR e1] at si;rw[tR e1'] at sk;exact j.env.sep _ _ e e' v hne e2 e2' oi ok (join_some (Option.some.inj si)) (join_some (Option.some.inj sk))
 ·obtain⟨m,x,rfl,e1,e2⟩:=lq hi;obtain⟨m',x',rfl,e1',e2'⟩:=lq hk;have hx:x≠x':=λ z=>by
   subst z;have nd:=(List.nodup_append.mp B.nd).2.1;exact hik (by rw[nodup_ix nd e1 e1'])
  have hm:=B.mem x (List.mem_of_getElem? e1);have hm':=B.mem x' (List.mem_of_getElem? e1');have hne:jx x X.N≠jx x' X.N:=λ z=>by
   have q1:=mY hm;have q2:=mY hm';rw[z,q2] at q1;exact hx (Option.some.inj q1).symm
  rw[tR e1] at si;rw[tR e1'] at sk;exact j.env.lg _ _ rows a rs e v hne e2 (join_some (Option.some.inj si)) ha e2' ok (join_some (Option.some.inj sk))
 ·show (pull X.N (dI scope) ts.length σ).length=(ts++dI scope).length;rw[uI,z1d]
 ·show (pull X.N (dI scope) ts.length ρ).length=(ts++dI scope).length;rw[uI,z1d]
end
theorem dX:1000000 < sizeLine:=by rw[sizeLine_eq];decide
section
variable {X:Cx}
theorem In.back {ρ1:ao} (j:In Y O H ρ1 σ) (h0:∀i,i < n->ρ[i]?=some none) (h1:∀i,n<=i->ρ1[i]?=ρ[i]?) (hl:ρ.length=Y.N.length):In Y O H ρ σ:=by
 have sub:∀(i:Nat) e,ρ[i]?=some (some e)->ρ1[i]?=some (some e):=λ i e h=>by
  by_cases hi:i < n
  ·rw[h0 i hi] at h;cases h
  ·rw[h1 i (by omega)];exact h
 exact⟨⟨λ i e h=>j.env.get i e (sub i e h),λ i k e e' v hik hi hk=>j.env.sep i k e e' v hik (sub i e hi) (sub k e' hk),λ i k rows a rs e v hik hi si ha hk=>j.env.lg i k rows a rs e v hik (sub i _ hi) si ha (sub k e hk)⟩,j.al,j.len,hl⟩
theorem RG {l:List (Option α)} (h:i < n):(pull N caps n l)[i]?=some none:=by
 unfold pull;rw[List.getElem?_append_left (by simpa using h),List.getElem?_replicate,if_pos h]
theorem In.go {O':Addr->Prop} {H':Hp} (j:In Y O H ρ σ) (hv:∀(i:Nat) e,ρ[i]?=some (some e)->e.M8=true) (r:c7 Y.K O H O' H') (al:∀a,O' a->∃o,H' a=some o):In Y O' H' ρ σ:=by
 refine⟨⟨λ i e h=>?_,λ i k e e' v _ hi _ oi=>?_,λ i k rows a rs e v _ hi=>by cases hv i _ hi⟩,al,j.len,j.jU⟩
 ·obtain⟨v,h1,h2⟩:=j.env.get i e h;refine⟨v,h1,?_⟩;cases e with
  |val d=>exact Rep.go r h2
  |lst _=>cases hv i _ h
  |qj _=>cases hv i _ h
  |rws _=>cases hv i _ h
  |obj _=>cases hv i _ h
 ·rw[Yw (hv i e hi)] at oi;cases oi
theorem Fw:∀(i:Nat) e,(pull N caps n (ρ.map uJ))[i]?=some (some e)->e.M8=true:=λ i e h=>by
 obtain⟨_,_,_,_,q⟩:=lq h;exact (qC q).2
end
inductive So where
 |bad |nx (ρ:ao) |rt (d:D) |bk (ρ:ao) |ct (ρ:ao) |ex (c:Str) (ρ:ao)
def Ib (H0:Hp) (O0:Addr->Prop) (H:Hp) (ρ:ao) (σ:St):Prop:=∀(i:Nat) (rows:List (List D)) (a:Addr) (rs:List Addr),ρ[i]?=some (some (.rws rows))->σ[i]?=some (some (.ref a))->H a=some (.lst (rs.map V.ref))->∀r∈rs,H0 r=none/\¬O0 r
structure At (X:Cx) (H0:Hp) (O0 O:Addr->Prop) (H:Hp) (ρ:ao) (σ:St):Prop where
 same:Same H0 H
 dg:c7 X.K O0 H0 O H
 sub:∀a,O0 a->O a
 inn:In X O H ρ σ
 mine:∀(i:Nat) e a,ρ[i]?=some (some e)->e.own=true->σ[i]?=some (some (.ref a))->H0 a=none/\¬O0 a
 rK:Ib H0 O0 H ρ σ
def qD (X:Cx) (H0:Hp) (O0 O:Addr->Prop) (H:Hp) (E:Ends) (o:So):Prop:=match o with
 | .nx ρ'=>∀σ' H' O',At X H0 O0 O' H' ρ' σ'->c7 X.K O H O' H'->E.nx σ' H'
 | .bk ρ'=>∀σ' H' O',At X H0 O0 O' H' ρ' σ'->c7 X.K O H O' H'->E.bk σ' H'
 | .ct ρ'=>∀σ' H' O',At X H0 O0 O' H' ρ' σ'->c7 X.K O H O' H'->E.ct σ' H'
 | .rt d=>∀v H',Same H0 H'->Rep X.K O0 H' d v->E.rt v H'
 | .ex c ρ'=>∀σ' H' O',At X H0 O0 O' H' ρ' σ'->Ar X c σ' H'
 | .bad=>False
theorem qD.go {H1:Hp} {O1:Addr->Prop} {E:Ends} {o:So} (h:qD X H0 O0 O H E o) (r:c7 X.K O H O1 H1):qD X H0 O0 O1 H1 E o:=by
 cases o with
 |bad=>exact h
 |rt d=>exact h
 |bk ρ2=>exact λ σ2 H2 O2 j2 r2=>h σ2 H2 O2 j2 (r.trans r2)
 |ct ρ2=>exact λ σ2 H2 O2 j2 r2=>h σ2 H2 O2 j2 (r.trans r2)
 |nx ρ2=>exact λ σ2 H2 O2 j2 r2=>h σ2 H2 O2 j2 (r.trans r2)
 |ex c ρ2=>exact h
def tS (X:Cx) (g:ao->So):TS:=λ E σ H=>∃H0 O0 O ρ,At X H0 O0 O H ρ σ/\qD X H0 O0 O H E (g ρ)
def DS (X:Cx) (st:Stmt) (g:ao->So):Prop:=PS X st (tS X g)
def lW (X:Cx) (st:List Stmt) (g:ao->So):Prop:=PSs X st (tS X g)
theorem PS.imp {e:Stmt} {t t':TS} (h:PS X e t) (w:∀σ H Q,t' Q σ H->t Q σ H):PS X e t':=λ pins s σ H Q I q=>h pins s σ H Q I (w σ H Q q)
theorem PSs.imp {e:List Stmt} {t t':TS} (h:PSs X e t) (w:∀σ H Q,t' Q σ H->t Q σ H):PSs X e t':=λ pins s σ H Q I q=>h pins s σ H Q I (w σ H Q q)
section
variable {X:Cx} {H0 H H1:Hp} {O0 O:Addr->Prop} {ρ:ao} {σ:St}
theorem Ib.of (h:Ib H0 O0 H ρ σ) (w:∀(i:Nat) (rows:List (List D)) (a:Addr) (rs:List Addr),ρ[i]?=some (some (.rws rows))->σ[i]?=some (some (.ref a))->H1 a=some (.lst (rs.map V.ref))->H a=some (.lst (rs.map V.ref))):Ib H0 O0 H1 ρ σ:=λ i rows a rs hi hs ha=>h i rows a rs hi hs (w i rows a rs hi hs ha)
theorem At.grow (j:At X H0 O0 O H ρ σ) (s:Same H H1):At X H0 O0 O H1 ρ σ:=⟨j.same.trans s,j.dg.trans (Same.dg s),j.sub,j.inn.same s,j.mine,j.rK.of λ i rows a rs hi hs ha=>j.inn.env.back s hi hs ha⟩
theorem At.set (j:At X H0 O0 O H ρ σ) (hi:i < X.N.length) {v:V} (r:Rep X.K O H d v):At X H0 O0 O H (ρ.set i (some (.val d))) (σ.set i (some v)):=by
 have h1:i < ρ.length:=by rw[j.inn.jU];exact hi
 refine⟨j.same,j.dg,j.sub,j.inn.set hi r,λ k e a h ho hs=>?_,λ k rows a rs h hs=>?_⟩
 ·by_cases hk:k=i
  ·subst hk;rw[z2a h1] at h;cases h;cases ho
  ·rw[z1e (Ne.symm hk)] at h hs;exact j.mine k e a h ho hs
 ·by_cases hk:k=i
  ·subst hk;rw[z2a h1] at h;cases h
  ·rw[z1e (Ne.symm hk)] at h hs;exact j.rK k rows a rs h hs
def Qg:Option Ent->Option Ent
 |some (.lst ds)=>some (.val (.lst ds))
 |some (.rws rows)=>some (.val (.lst (rows.map D.lst)))
 |o=>o
def cG (ρ:ao):ao:=ρ.map Qg
def Fx (H:Hp) (ρ:ao) (σ:St) (O:Addr->Prop):Addr->Prop:=λ a=>O a/\(∀(i:Nat) ds,ρ[i]?=some (some (.lst ds))->σ[i]?≠some (some (.ref a)))/\∀(i:Nat) (rows:List (List D)) (b:Addr) (rs:List Addr),ρ[i]?=some (some (.rws rows))->σ[i]?=some (some (.ref b))->H b=some (.lst (rs.map V.ref))->a∉b::rs
theorem qF {e:Ent} (h:(cG ρ)[i]?=some (some e)):(ρ[i]?=some (some e)/\(∀ds,e≠.lst ds)/\∀rows,e≠.rws rows)\/(∃ds,ρ[i]?=some (some (.lst ds))/\e= .val (.lst ds))\/∃rows,ρ[i]?=some (some (.rws rows))/\e= .val (.lst (rows.map D.lst)):=by
 unfold cG at h;rw[z2b] at h;cases q:ρ[i]? with
 |none=>rw[q] at h;cases h
 | some o=>
  rw[q] at h;have h:Qg o=some e:=Option.some.inj h;cases o with
  |none=>cases h
  | some e'=>
   cases e' with
   |val d=>cases h;exact .inl ⟨rfl,(λ _ z=>by cases z),(λ _ z=>by cases z)⟩
   |lst ds=>cases h;exact .inr (.inl ⟨ds,rfl,rfl⟩)
   |qj kvs=>cases h;exact .inl ⟨rfl,(λ _ z=>by cases z),(λ _ z=>by cases z)⟩
   |obj t=>cases h;exact .inl ⟨rfl,(λ _ z=>by cases z),(λ _ z=>by cases z)⟩
   |rws rows=>cases h;exact .inr (.inr ⟨rows,rfl,rfl⟩)
theorem Fy {K:PySem.W.Frag} {O':Addr->Prop}:∀{rs:List Addr} {rows:List (List D)},rs.length=rows.length->(∀(i:Nat) r row,rs[i]?=some r->rows[i]?=some row->Rep K O' H (.lst row) (.ref r))->aJ K O' H (rows.map D.lst) (rs.map V.ref)
 |[],[],_,_=> .nil
 |[],_::_,h,_=>by cases h
 |_::_,[],h,_=>by cases h
 |r::rs,row::rows,h,n=> .cons (n 0 r row rfl rfl) (Fy (Nat.succ.inj h) λ i r row e1 e2=>n (i+1) r row e1 e2)
theorem In.cG (j:In X O H ρ σ):In X (Fx H ρ σ O) H (Pu.cG ρ) σ:=by
 refine⟨⟨λ i e h=>?_,λ i k e e' v hik hi hk oi ok si sk=>?_,λ i k rows a rs e v hik hi=>?_⟩,λ a z=>j.al a z.1,j.len,by unfold Pu.cG;rw[z1g];exact j.jU⟩
 ·rcases qF h with⟨h1,h2,h2'⟩ |⟨ds,h1,rfl⟩ |⟨rows,h1,rfl⟩
  ·obtain⟨v,h3,h4⟩:=j.env.get i e h1;refine⟨v,h3,?_⟩;cases e with
   |val d=>exact Rep.fewer (λ a z=>z.1) h4
   |lst ds=>exact absurd rfl (h2 ds)
   |rws rows=>exact absurd rfl (h2' rows)
   |obj t=>exact h4
   | qj kvs=>
    obtain⟨a,ys,e1,o1,e2,k1,r1⟩:=h4;refine⟨a,ys,e1,⟨o1,λ k ds hk hs=>?_,λ k rows b rs hk hs hb hm=>?_⟩,e2,k1,r1.fewer λ a z=>z.1⟩
    ·by_cases hik:i=k
     ·subst hik;rw[h1] at hk;cases hk
     ·exact j.env.sep i k _ _ v hik h1 hk rfl rfl h3 (by rw[e1];exact hs)
    ·by_cases hik:i=k
     ·subst hik;rw[h1] at hk;cases hk
     ·rcases List.mem_cons.mp hm with z |z
      ·exact j.env.sep i k _ _ v hik h1 hk rfl rfl h3 (by rw[e1,z];exact hs)
      ·exact (j.env.lg k i rows b rs _ v (Ne.symm hik) hk hs hb h1 rfl h3).1 a z e1
  ·obtain⟨v,h3,a,xs,e1,o1,e2,r1⟩:=j.env.get i _ h1;exact⟨v,h3,by rw[e1];exact lD (SqL.of e2) (λ z=>z.2.1 i ds h1 (by rw[<-e1];exact h3)) (r1.fewer λ a z=>z.1)⟩
  ·obtain⟨v,h3,a,rs,e1,R⟩:=j.env.get i _ h1;refine⟨v,h3,?_⟩;have hs:σ[i]?=some (some (.ref a)):=by rw[<-e1];exact h3
   rw[e1];refine lD (SqL.of R.at_) (λ z=>z.2.2 i rows a rs h1 hs R.at_ (List.mem_cons_self ..)) (Fy R.len λ k r row q1 q2=>?_);obtain⟨_,xs,q3,q4⟩:=R.row k r row q1 q2;exact lD (SqL.of q3) (λ z=>z.2.2 i rows a rs h1 hs R.at_ (z2f _ (List.mem_of_getElem? q1))) (q4.fewer λ a z=>z.1)
 ·have un:∀{m:Nat} {e:Ent},(Pu.cG ρ)[m]?=some (some e)->e.own=true->ρ[m]?=some (some e):=λ {m e} h ho=>by
   rcases qF h with⟨h1,_⟩ |⟨ds,_,rfl⟩ |⟨rows,_,rfl⟩
   ·exact h1
   ·cases ho
   ·cases ho
  exact j.env.sep i k e e' v hik (un hi oi) (un hk ok) oi ok si sk
 ·rcases qF hi with⟨_,_,h2⟩ |⟨ds,_,z⟩ |⟨_,_,z⟩
  ·exact absurd rfl (h2 rows)
  ·cases z
  ·cases z
theorem At.aaM (j:At X H0 O0 O H ρ σ):∀a,O0 a->Fx H ρ σ O a:=λ a z=>⟨j.sub a z,λ i ds h hs=>(j.mine i _ a h rfl hs).2 z,λ i rows b rs h hs hb hm=>by
 rcases List.mem_cons.mp hm with q |q
 ·subst q;exact (j.mine i _ _ h rfl hs).2 z
 ·exact (j.rK i rows b rs h hs hb a q).2 z⟩
end
section
variable {X:Cx} {st:Stmt} {rest:List Stmt} {g k:ao->So} {f:ao->R D} {p:ao->R Bool} {e:Expr} {pos:Pos}
def aP (g k:ao->So):ao->So:=λ ρ=>match g ρ with
 | .nx ρ'=>k ρ'
 |o=>o
theorem cU:lW X [] .nx:=PSs.imp pss_nil λ σ H E h=>by
 obtain⟨H0,O0,O,ρ,j,h⟩:=h;exact h σ H O j .refl
theorem aM (h:DS X st g):lW X [st] g:=pss_one h
theorem aH (h1:DS X st g) (h2:lW X rest k):lW X (st::rest) (aP g k):=by
 refine PSs.imp (pss_cons h1 h2) λ σ H E h=>?_;obtain⟨H0,O0,O,ρ,j,h⟩:=h;unfold aP at h;refine⟨H0,O0,O,ρ,j,?_⟩;cases e1:g ρ with
 |bad=>rw[e1] at h;exact h
 |rt d=>rw[e1] at h;exact h
 |bk ρ'=>rw[e1] at h;exact h
 |ct ρ'=>rw[e1] at h;exact h
 |ex c ρ'=>rw[e1] at h;exact h
 | nx ρ'=>
  rw[e1] at h;have h:qD X H0 O0 O H E (k ρ'):=h;exact λ σ' H' O' j' r'=>⟨H0,O0,O',ρ',j',h.go r'⟩
def fQ (r:R D) (ρ:ao) (k:D->So):So:=match r with
 | .ok d=>k d
 | .err c=> .ex c ρ
 | .bad=> .bad
def retS (f:ao->R D):ao->So:=λ ρ=>fQ (f (cG ρ)) ρ .rt
theorem bh (he:DE X e f):DS X (.Return (some e) pos) (retS f):=by
 refine PS.imp (ps_ret he) λ σ H E h=>?_;obtain⟨H0,O0,O,ρ,j,h⟩:=h;refine⟨cG ρ,Fx H ρ σ O,j.inn.cG,?_⟩;unfold retS fQ at h;cases e1:f (cG ρ) with
 |bad=>rw[e1] at h;exact h
 |err c=>rw[e1] at h;exact h σ H O j
 |ok d=>rw[e1] at h;exact λ v H' s r=>h v H' (j.same.trans s) (Rep.fewer j.aaM r)
def rM (f:ao->R D):ao->So:=λ ρ=>fQ (f (cG ρ)) ρ λ _=> .nx ρ
theorem yC (he:DE X e f) (hs:swapsWith e none pos.line X.env=pure false:=by rfl):DS X (.Expr e pos) (rM f):=by
 refine PS.imp (ps_expr he hs) λ σ H E h=>?_;obtain⟨H0,O0,O,ρ,j,h⟩:=h;refine⟨cG ρ,Fx H ρ σ O,j.inn.cG,?_⟩;unfold rM fQ at h;cases e1:f (cG ρ) with
 |bad=>rw[e1] at h;exact h
 |err c=>rw[e1] at h;exact h σ H O j
 |ok d=>rw[e1] at h;exact λ v H' s r=>h σ H' O (j.grow s) (Same.dg s)
def bB (f:ao->R D) (gt:D->ao->R ao):ao->So:=λ ρ=>fQ (f ρ) ρ λ d=>match gt d ρ with
 | .ok ρ'=> .nx ρ'
 |_=> .bad
theorem bV (i:Nat) {x:Str} {pos':Pos} (hN:X.N.Nodup) (he:DE X e f) (hi:X.N[i]?=some x:=by rfl) (hx:Loc X.env.scope x:=by first |exact Or.inl rfl |exact Or.inr rfl) (hs:swapsWith e (some (.Name x pos')) pos.line X.env=pure false:=by rfl)
  (hf:X.fn x=true\/X.env.scope.names.lookup x=some .local:=by first |exact .inl rfl |exact .inr rfl):DS X (.Assign [.Name x pos'] e pos) (bB f (aF i)):=by
 refine PS.imp (ps_set hN hi hx he hs hf) λ σ H E h=>?_;obtain⟨H0,O0,O,ρ,j,h⟩:=h;refine⟨ρ,O,j.inn,?_⟩;unfold bB fQ at h;cases e1:f ρ with
 |bad=>rw[e1] at h;exact h
 |err c=>rw[e1] at h;exact h σ H O j
 |ok d=>rw[e1] at h;exact λ v H' s r=>h _ H' O ((j.grow s).set (z1b hi).1 r) (Same.dg s)
theorem pY (i k:Nat) {x y:Str} {py pt:Pos} {kt} (hc:X.calm=true) (hN:X.N.Nodup) (he:DE X e f) (hi:X.N[i]?=some x:=by rfl) (hk:X.N[k]?=some y:=by rfl)
  (hx:Loc X.env.scope x:=by first |exact Or.inl rfl |exact Or.inr rfl) (hy:Loc X.env.scope y:=by first |exact Or.inl rfl |exact Or.inr rfl)
  (hfx:X.fn x=true\/X.env.scope.names.lookup x=some .local:=by first |exact .inl rfl |exact .inr rfl) (Az:X.fn y=true\/X.env.scope.names.lookup y=some .local:=by first |exact .inl rfl |exact .inr rfl)
  (hs:swapsWithSole [.Tuple [.Name x px,.Name y py] kt pt] e pos.line X.env=pure false:=by rfl) (hw:swappedStores [.Tuple [.Name x px,.Name y py] kt pt] e X.env=pure none:=by rfl):
  DS X (.Assign [.Tuple [.Name x px,.Name y py] kt pt] e pos) (bB f (cD (cF 2 (aQ (aF i) (aQ (aF k) nilG))))):=by
 refine PS.imp (ps_asg he (pg_tup hc (pgs_cons (pg_name hN hi hx hfx) (pgs_cons (pg_name hN hk hy Az) pgs_nil))) hs hw) λ σ H E h=>?_;obtain⟨H0,O0,O,ρ,j,h⟩:=h;refine⟨ρ,O,j.inn,?_⟩;unfold bB fQ at h;cases e1:f ρ with
 |bad=>rw[e1] at h;exact h
 |err c=>rw[e1] at h;exact h σ H O j
 | ok d=>
  rw[e1] at h;intro v H' s r;cases d with
  | tup ds=>
   match ds,h,r with
   |[],h,_=>exact h.elim
   |[_],h,_=>exact h.elim
   |_::_::_::_,h,_=>exact (show False by simpa[cD,cF,qD] using h).elim
   | [d1,d2],h,r=>
    obtain⟨a,xs,rfl,hq,rs⟩:=r.tup;obtain⟨v1,v2,rfl,r1,r2⟩:=rs.two;refine⟨a,[v1,v2],rfl,hq,rfl,v1,[v2],rfl,v2,[],rfl,rfl,?_⟩;exact h _ H' O (((j.grow s).set (z1b hi).1 r1).set (z1b hk).1 r2) (Same.dg s)
  |_=>exact h.elim
def fU (p:ao->R Bool) (g k:ao->So):ao->So:=λ ρ=>match p (cG ρ) with
 | .ok true=>g ρ
 | .ok false=>k ρ
 | .err c=> .ex c ρ
 | .bad=> .bad
theorem Nf {g:ao->So} {E:Ends} {H1:Hp} (j:At X H0 O0 O H ρ σ) (s:Same H H1) (h:qD X H0 O0 O H E (g ρ)):tS X g E σ H1:=
 ⟨H0,O0,O,ρ,j.grow s,h.go (Same.dg s)⟩
theorem eF {c:Expr} {a b:List Stmt} (hc:DT X c p) (ha:lW X a g) (hb:lW X b k):DS X (.If c a b pos) (fU p g k):=by
 refine PS.imp (ps_if hc ha hb) λ σ H E h=>?_;obtain⟨H0,O0,O,ρ,j,h⟩:=h;refine⟨cG ρ,Fx H ρ σ O,j.inn.cG,?_⟩;unfold fU at h;cases e1:p (cG ρ) with
 |bad=>rw[e1] at h;exact h
 |err c=>rw[e1] at h;exact h σ H O j
 | ok t=>
  rw[e1] at h;intro b' H' s e;subst e;cases t with
  |true=>rw[if_pos rfl];exact Nf j s h
  |false=>rw[if_neg Bool.false_ne_true];exact Nf j s h
theorem uK:DS X st (λ _=> .bad):=λ pins s σ H E I h=>by
 obtain⟨_,_,_,_,_,h⟩:=h;exact h.elim
def forL (gt:D->ao->R ao) (b:ao->So):List D->ao->So
 |[],ρ=> .nx ρ
 | x ::xs,ρ=>match gt x ρ with
  | .ok ρ1=>match b ρ1 with
   | .nx ρ2=>forL gt b xs ρ2
   | .ct ρ2=>forL gt b xs ρ2
   | .bk ρ2=> .nx ρ2
   |o=>o
  |_=> .bad
def iQ (fi:ao->R (List D)) (gt:D->ao->R ao) (b:ao->So):ao->So:=λ ρ=>match fi ρ with
 | .ok xs=>forL gt b xs ρ
 | .err c=> .ex c ρ
 | .bad=> .bad
inductive aaN (X:Cx) (gt:D->ao->R ao) (v:V) (σ:St) (H:Hp) (Q:St->Hp->Prop):Prop
 |mk (H0:Hp) (O0 O:Addr->Prop) (ρ:ao) (d:D) (ρ':ao) (j:At X H0 O0 O H ρ σ) (r:Rep X.K O H d v) (e:gt d ρ= .ok ρ') (q:∀σ',At X H0 O0 O H ρ' σ'->Q σ' H):aaN X gt v σ H Q
def XD (X:Cx) (tg:Expr) (gt:D->ao->R ao):Prop:=PG X tg λ v σ H Q=>aaN X gt v σ H Q
theorem lu (i:Nat) {x:Str} (hN:X.N.Nodup) (hi:X.N[i]?=some x:=by rfl) (hx:Loc X.env.scope x:=by first |exact Or.inl rfl |exact Or.inr rfl) (hf:X.fn x=true\/X.env.scope.names.lookup x=some .local:=by first |exact .inl rfl |exact .inr rfl):XD X (.Name x pos) (aF i):=by
 intro pins s σ H v u Q I r h;obtain⟨H0,O0,O,ρ,d,ρ',j,rd,e,q⟩:=h;cases e;exact pg_name hN hi hx hf pins s σ H v u Q I r (q _ (j.set (z1b hi).1 rd))
theorem pZ (i k:Nat) {x y:Str} {py:Pos} {kt} (hc:X.calm=true) (hN:X.N.Nodup) (hi:X.N[i]?=some x:=by rfl) (hk:X.N[k]?=some y:=by rfl)
  (hx:Loc X.env.scope x:=by first |exact Or.inl rfl |exact Or.inr rfl) (hy:Loc X.env.scope y:=by first |exact Or.inl rfl |exact Or.inr rfl)
  (hfx:X.fn x=true\/X.env.scope.names.lookup x=some .local:=by first |exact .inl rfl |exact .inr rfl) (Az:X.fn y=true\/X.env.scope.names.lookup y=some .local:=by first |exact .inl rfl |exact .inr rfl):
  XD X (.Tuple [.Name x px,.Name y py] kt pos) (cD (cF 2 (aQ (aF i) (aQ (aF k) nilG)))):=by
 intro pins s σ H v u Q I r h;obtain⟨H0,O0,O,ρ,d,ρ',j,rd,e,q⟩:=h;cases d with
 | tup ds=>
  match ds,e,rd with
  |[],e,_=>cases e
  |[_],e,_=>cases e
  |_::_::_::_,e,_=>simp[cD,cF] at e
  | [d1,d2],e,rd=>
   obtain⟨a,xs,rfl,hq,rs⟩:=rd.tup;obtain⟨v1,v2,rfl,r1,r2⟩:=rs.two;cases e;refine pg_tup hc (pgs_cons (pg_name hN hi hx hfx) (pgs_cons (pg_name hN hk hy Az) pgs_nil)) rfl rfl pins s σ H _ u Q I r ⟨a,[v1,v2],rfl,hq,rfl,v1,[v2],rfl,v2,[],rfl,rfl,?_⟩;exact q _ ((j.set (z1b hi).1 r1).set (z1b hk).1 r2)
 |_=>cases e
theorem gQ {tg iter:Expr} {body:List Stmt} {fi:ao->R (List D)} {gt:D->ao->R ao} {b:ao->So} (hp:PassesOwn (model X.prog X.w) X.A X.env X.xe) (hc:X.calm=true) (hi:DI X tg iter fi) (hg:XD X tg gt) (hb:lW X body b)
  (hs:∀x,foldedSetIterable iter X.env x=pure x:=by intro _;rfl):DS X (.For tg iter body [] pos) (iQ fi gt b):=by
 refine PS.imp (ps_for hp hc hi hg hb hs) λ σ H E h=>?_;obtain⟨H0,O0,O,ρ,j,h⟩:=h;refine⟨ρ,O,j.inn,?_⟩;unfold iQ at h;cases e1:fi ρ with
 |bad=>rw[e1] at h;exact h
 |err c=>rw[e1] at h;exact h σ H O j
 | ok xs =>
  rw[e1] at h;have h:qD X H0 O0 O H E (forL gt b xs ρ):=h;intro J H1 s1 yr;have j1:=j.grow s1;have q1:c7 X.K O H O H1:=Same.dg s1;refine⟨λ i m σ' H'=>∃O' ρ',At X H0 O0 O' H' ρ' σ'/\c7 X.K O H1 O' H'/\i<=xs.length/\m=xs.length - i/\forL gt b (xs.drop i) ρ'=forL gt b xs ρ,⟨_,O,ρ,j1,.refl,Nat.zero_le _,rfl,by simp⟩,?_⟩
  rintro i m σ' H' ⟨O',ρ',j',r',hil,rfl,hf⟩
  have RJ:=yr O' H' r' i;by_cases hlt:i < xs.length
  ·have ed:xs.drop i=xs[i]::xs.drop (i+1):=List.drop_eq_getElem_cons hlt;obtain⟨jgo,jy⟩:=RJ.1 xs[i] (by simp[hlt]);refine .inr ⟨jgo,λ σ2 H2=>∃O2 ρ2,At X H0 O0 O2 H2 ρ2 σ2/\c7 X.K O H1 O2 H2/\forL gt b (xs.drop (i+1)) ρ2=forL gt b xs ρ,?_,λ x H2 y=>?_⟩
   ·rintro σ2 H2 ⟨O2,ρ2,j2,r2,hf2⟩
    exact⟨xs.length - (i+1),by omega,O2,ρ2,j2,r2,by omega,rfl,hf2⟩
   ·obtain⟨sm,rep⟩:=jy x H2 y;rw[ed] at hf;have hf:(match gt xs[i] ρ' with
     | .ok ρ1=>match b ρ1 with
      | .nx ρ2=>forL gt b (xs.drop (i+1)) ρ2
      | .ct ρ2=>forL gt b (xs.drop (i+1)) ρ2
      | .bk ρ2=> .nx ρ2
      |o=>o
     |_=> .bad)=forL gt b xs ρ:=hf
    cases e2:gt xs[i] ρ' with
    |bad=>rw[e2] at hf;rw[<-hf] at h;exact h.elim
    |err c=>rw[e2] at hf;rw[<-hf] at h;exact h.elim
    | ok ρ1=>
     rw[e2] at hf;refine⟨H0,O0,O',ρ',xs[i],ρ1,j'.grow sm,rep,e2,λ σ3 j3=>?_⟩;refine⟨H0,O0,O',ρ1,j3,?_⟩;have r3:c7 X.K O H1 O' H2:=r'.trans (Same.dg sm);have hf:(match b ρ1 with
      | .nx ρ2=>forL gt b (xs.drop (i+1)) ρ2
      | .ct ρ2=>forL gt b (xs.drop (i+1)) ρ2
      | .bk ρ2=> .nx ρ2
      |o=>o)=forL gt b xs ρ:=hf
     cases e3:b ρ1 with
     |bad=>rw[e3] at hf;rw[<-hf] at h;exact h
     |rt d=>rw[e3] at hf;rw[<-hf] at h;exact h
     |ex c ρ2=>rw[e3] at hf;rw[<-hf] at h;exact h
     |bk ρ2=>rw[e3] at hf;rw[<-hf] at h;exact λ σ4 H4 O4 j4 r4=>h σ4 H4 O4 j4 (q1.trans (r3.trans r4))
     |nx ρ2=>rw[e3] at hf;exact λ σ4 H4 O4 j4 r4=>⟨O4,ρ2,j4,r3.trans r4,hf⟩
     |ct ρ2=>rw[e3] at hf;exact λ σ4 H4 O4 j4 r4=>⟨O4,ρ2,j4,r3.trans r4,hf⟩
  ·have ei:i=xs.length:=by omega
   subst ei;have hf:forL gt b (xs.drop xs.length) ρ'=forL gt b xs ρ:=hf;rw[List.drop_length] at hf;rw[<-hf] at h;exact .inl ⟨RJ.2 (z0g _),h σ' H' O' j' (q1.trans r')⟩
def gR (p:ao->R Bool) (b:ao->So):Nat->ao->So
 |0,_=> .bad
 | n +1,ρ=>match p (cG ρ) with
  | .ok true=>match b ρ with
   | .nx ρ'=>gR p b n ρ'
   | .ct ρ'=>gR p b n ρ'
   | .bk ρ'=> .nx ρ'
   |o=>o
  | .ok false=> .nx ρ
  | .err c=> .ex c ρ
  | .bad=> .bad
theorem Ip (n:Nat) {c:Expr} {body:List Stmt} {b:ao->So} (hp:PassesOwn (model X.prog X.w) X.A X.env X.xe) (hc:DT X c p) (hb:lW X body b):DS X (.While c body [] pos) (gR p b n):=by
 refine PS.imp (ps_while hp hc hb) λ σ H E h=>?_;obtain⟨H0,O0,O,ρ,j,h⟩:=h;have h:qD X H0 O0 O H E (gR p b n ρ):=h;refine⟨λ m σ' H'=>∃O' ρ',At X H0 O0 O' H' ρ' σ'/\c7 X.K O H O' H'/\gR p b m ρ'=gR p b n ρ,⟨n,O,ρ,j,.refl,rfl⟩,?_⟩
 rintro m σ' H' ⟨O',ρ',j',r',hf⟩
 refine⟨cG ρ',Fx H' ρ' σ' O',j'.inn.cG,?_⟩;cases m with
 |zero=>rw[<-hf] at h;exact h.elim
 | succ m =>
  have hf:(match p (cG ρ') with
   | .ok true=>match b ρ' with
    | .nx ρ'=>gR p b m ρ'
    | .ct ρ'=>gR p b m ρ'
    | .bk ρ'=> .nx ρ'
    |o=>o
   | .ok false=> .nx ρ'
   | .err c=> .ex c ρ'
   | .bad=> .bad)=gR p b n ρ:=hf
  cases e1:p (cG ρ') with
  |bad=>rw[e1] at hf;rw[<-hf] at h;exact h
  |err c=>rw[e1] at hf;rw[<-hf] at h;exact h σ' H' O' j'
  | ok t =>
   rw[e1] at hf;intro t' H1 s1 e;subst e;have j1:=j'.grow s1;have r1:c7 X.K O H O' H1:=r'.trans (Same.dg s1);cases t with
   | false=>
    rw[if_neg Bool.false_ne_true];rw[<-hf] at h;exact h σ' H1 O' j1 r1
   | true=>
    rw[if_pos rfl];refine⟨λ σ2 H2=>∃O2 ρ2,At X H0 O0 O2 H2 ρ2 σ2/\c7 X.K O H O2 H2/\gR p b m ρ2=gR p b n ρ,?_,H0,O0,O',ρ',j1,?_⟩
    ·rintro σ2 H2 ⟨O2,ρ2,j2,r2,hf2⟩
     exact⟨m,by omega,O2,ρ2,j2,r2,hf2⟩
    ·have hf:(match b ρ' with
      | .nx ρ'=>gR p b m ρ'
      | .ct ρ'=>gR p b m ρ'
      | .bk ρ'=> .nx ρ'
      |o=>o)=gR p b n ρ:=hf
     cases e3:b ρ' with
     |bad=>rw[e3] at hf;rw[<-hf] at h;exact h
     |rt d=>rw[e3] at hf;rw[<-hf] at h;exact h
     |ex c ρ2=>rw[e3] at hf;rw[<-hf] at h;exact h
     |bk ρ2=>rw[e3] at hf;rw[<-hf] at h;exact λ σ4 H4 O4 j4 r4=>h σ4 H4 O4 j4 (r1.trans r4)
     |nx ρ2=>rw[e3] at hf;exact λ σ4 H4 O4 j4 r4=>⟨O4,ρ2,j4,r1.trans r4,hf⟩
     |ct ρ2=>rw[e3] at hf;exact λ σ4 H4 O4 j4 r4=>⟨O4,ρ2,j4,r1.trans r4,hf⟩
end
section
variable {X:Cx} {a b e:Expr} {es:List Expr} {f g:ao->R D} {fa:ao->R (List D)} {pos:Pos}
def ach (K:PySem.W.Frag) (t:TA):TE:=λ σ H Q=>t σ H λ xs H1=>xs.length<=sizeLine/\∀p,H1 p=none->K.lookup p=none->Q (.ref p) (upd H1 p (.lst xs))
theorem Inv.VB {pins:List (Addr×Obj)} {s:Shared} (I:Inv X pins σ H s):X.K.lookup s.heap.objs.size=none:=by
 cases q:X.K.lookup s.heap.objs.size with
 |none=>rfl
 |some o=>exact absurd (z2c (I.kIn _ _ q)) (Nat.lt_irrefl _)
theorem Ng {t:TA} (h:PA X es t):PE X (.List es pos) (ach X.K t):=by
 intro pins s σ H Q I hq;refine wpAny_List_spliced (thn (h pos pins s σ H _ I hq) λ us s1 ⟨xs,H1,I1,r,z,q⟩=>⟨by rw[<-r.length];exact z,?_⟩);have hf:H1 s1.heap.objs.size=none:=I1.hok.fresh (z0g _);refine⟨.ref s1.heap.objs.size,upd H1 s1.heap.objs.size (.lst xs),I1.laid (t':=s1.toks) (λ b u e=>z1a _ e) (z0g _) ?_,rfl,q _ hf (Inv.VB I1)⟩;exact⟨z,us,0,r,z1f _ rfl⟩
def newL (fa:ao->R (List D)) (i:Nat):ao->So:=λ ρ=>match fa ρ with
 | .ok ds=>if ds.length<=1000000 then .nx (ρ.set i (some (.lst ds))) else .bad
 | .err c=> .ex c ρ
 | .bad=> .bad
theorem At.own (j:At X H0 O0 O H ρ σ) (hi:i < X.N.length) {o:HO} {en:Ent} (hp:H p=none) (hk:X.K.lookup p=none) (ho:en.own=true)
  (hr:mW X.K (λ a=>O a\/a=p) (upd H p o) en (.ref p)) (hnr:∀rows,en≠.rws rows:=by intro _ z;cases z):
  At X H0 O0 (λ a=>O a\/a=p) (upd H p o) (ρ.set i (some en)) (σ.set i (some (.ref p)))/\c7 X.K O H (λ a=>O a\/a=p) (upd H p o):=by
 have s1:Same H (upd H p o):=Same.upd hp;have r1:c7 X.K O H (λ a=>O a\/a=p) (upd H p o):=⟨(Same.dg (K:=X.K) (O:=O) s1).ext,λ a z=>z.elim .inl λ e=> .inr (by rw[e];exact⟨hp,hk⟩),(Same.dg (K:=X.K) (O:=O) s1).dom⟩;have h1:i < ρ.length:=by rw[j.inn.jU];exact hi
 have h2:i < σ.length:=by rw[j.inn.len];exact hi
 have RK:¬O p:=j.inn.lQ hp;have old:∀{e:Ent} {v:V},mW X.K O H e v->mW X.K (λ a=>O a\/a=p) (upd H p o) e v/\(e.own=true->v≠.ref p):=λ {e v} h=>by
  cases e with
  |val d=>exact⟨Rep.go r1 h,λ z=>by cases z⟩
  | lst ds=>
   obtain⟨a,xs,e1,o1,e2,r⟩:=h;exact⟨⟨a,xs,e1,.inl o1,s1 _ _ e2,r.go r1⟩,λ _ z=>by rw[e1] at z;cases z;exact RK o1⟩
  |obj t=>exact⟨lO.same s1 h,λ z=>by cases z⟩
  | qj kvs=>
   obtain⟨a,xs,e1,o1,e2,k,r⟩:=h;exact⟨⟨a,xs,e1,.inl o1,s1 _ _ e2,k,r.go r1⟩,λ _ z=>by rw[e1] at z;cases z;exact RK o1⟩
  | rws rows=>
   obtain⟨a,rs,e1,R⟩:=h;exact⟨⟨a,rs,e1,s1 _ _ R.at_,.inl R.oa,R.nd,R.len,λ i r row q1 q2=>let ⟨o1,xs,q3,q4⟩:=R.row i r row q1 q2;⟨.inl o1,xs,s1 _ _ q3,q4.go r1⟩⟩,λ _ z=>by rw[e1] at z;cases z;exact RK R.oa⟩
 have bk:∀{k:Nat} {rows:List (List D)} {a:Addr} {rs:List Addr},ρ[k]?=some (some (.rws rows))->σ[k]?=some (some (.ref a))->upd H p o a=some (.lst (rs.map V.ref))->H a=some (.lst (rs.map V.ref))/\∀r∈rs,O r:=λ {k rows a rs} q1 q2 q3=>by
  have q4:=j.inn.env.back s1 q1 q2 q3;refine⟨q4,λ r hr=>?_⟩;obtain⟨rs',R⟩:=j.inn.env.rws q1 q2;have e:=R.at_;rw[q4] at e;rw[jq (HO.lst.inj (Option.some.inj e))] at hr;obtain⟨n,hn⟩:=List.mem_iff_getElem?.mp hr;have hl:=R.len;have hn':=(z1b hn).1;exact (R.row n r _ hn (List.getElem?_eq_getElem (by omega))).1
 refine⟨⟨j.same.trans s1,j.dg.trans r1,λ a z=> .inl (j.sub a z),⟨⟨λ k e h=>?_,λ k l e e' v hkl hk' hl ok ol sk sl=>?_,λ k l rows a rs e v hkl hk' sk ha hl ol sl=>?_⟩,λ a z=>?_,by rw[List.length_set];exact j.inn.len,by rw[List.length_set];exact j.inn.jU⟩,λ k e a h hoo hs=>?_,λ k rows a rs h hs ha=>?_⟩,r1⟩
 ·by_cases hki:k=i
  ·subst hki;rw[z2a h1] at h;cases h;exact⟨.ref p,z2a h2,hr⟩
  ·rw[z1e (Ne.symm hki)] at h;obtain⟨v,q1,q2⟩:=j.inn.env.get k e h;exact⟨v,by rw[z1e (Ne.symm hki)];exact q1,(old q2).1⟩
 ·by_cases hki:k=i
  ·subst hki;rw[z2a h2] at sk;cases sk;rw[z1e hkl] at hl sl;obtain⟨v,q1,q2⟩:=j.inn.env.get l e' hl;rw[q1] at sl;cases sl;exact (old q2).2 ol rfl
  ·rw[z1e (Ne.symm hki)] at hk' sk;by_cases hli:l=i
   ·subst hli;rw[z2a h2] at sl;cases sl;obtain⟨v,q1,q2⟩:=j.inn.env.get k e hk';rw[q1] at sk;cases sk;exact (old q2).2 ok rfl
   ·rw[z1e (Ne.symm hli)] at hl sl;exact j.inn.env.sep k l e e' v hkl hk' hl ok ol sk sl
 ·by_cases hki:k=i
  ·subst hki;rw[z2a h1] at hk';cases hk';exact absurd rfl (hnr rows)
  ·rw[z1e (Ne.symm hki)] at hk' sk;obtain⟨ha',hO'⟩:=bk hk' sk ha;by_cases hli:l=i
   ·subst hli;rw[z2a h2] at sl;rw[z2a h1] at hl;cases sl;cases hl;exact⟨λ r hr z=>by cases z;exact RK (hO' _ hr),hnr⟩
   ·rw[z1e (Ne.symm hli)] at hl sl;exact j.inn.env.lg k l rows a rs e v hkl hk' sk ha' hl ol sl
 ·rcases z with z |z
  ·obtain⟨u,q⟩:=j.inn.al a z;exact⟨u,s1 _ _ q⟩
  ·rw[z];exact⟨o,upd_same⟩
 ·by_cases hki:k=i
  ·subst hki;rw[z2a h2] at hs;cases hs;exact⟨j.same.free hp,λ z=>RK (j.sub _ z)⟩
  ·rw[z1e (Ne.symm hki)] at h hs;exact j.mine k e a h hoo hs
 ·by_cases hki:k=i
  ·subst hki;rw[z2a h1] at h;cases h;exact absurd rfl (hnr rows)
  ·rw[z1e (Ne.symm hki)] at h hs;exact j.rK k rows a rs h hs (bk h hs ha).1
theorem jT (i:Nat) {x:Str} {pos' p2:Pos} (hN:X.N.Nodup) (ha:DA X es fa) (hi:X.N[i]?=some x:=by rfl) (hx:Loc X.env.scope x:=by first |exact Or.inl rfl |exact Or.inr rfl) (hs:swapsWith (.List es p2) (some (.Name x pos')) pos.line X.env=pure false:=by rfl)
  (hf:X.fn x=true\/X.env.scope.names.lookup x=some .local:=by first |exact .inl rfl |exact .inr rfl):DS X (.Assign [.Name x pos'] (.List es p2) pos) (newL fa i):=by
 refine PS.imp (ps_set hN hi hx (Ng ha) hs hf) λ σ H E h=>?_;obtain⟨H0,O0,O,ρ,j,h⟩:=h;refine⟨ρ,O,j.inn,?_⟩;unfold newL at h;cases e1:fa ρ with
 |bad=>rw[e1] at h;exact h
 |err c=>rw[e1] at h;exact h σ H O j
 | ok ds=>
  rw[e1] at h;intro vs H1 s1 r1;by_cases hl:ds.length<=1000000
  ·simp only[if_pos hl] at h;refine⟨by rw[<-r1.length];exact z0b hl eO,λ p hp hk=>?_⟩;obtain⟨j2,r2⟩:=(j.grow s1).own (z1b hi).1 (o:= .lst vs) (en:= .lst ds) hp hk rfl ⟨p,vs,rfl,.inr rfl,upd_same,r1.go ⟨(Same.dg (K:=X.K) (O:=O) (Same.upd hp)).ext,λ a z=>z.elim .inl λ e=> .inr (by rw[e];exact⟨hp,hk⟩),(Same.dg (K:=X.K) (O:=O) (Same.upd hp)).dom⟩⟩;exact h _ _ _ j2 ((Same.dg s1).trans r2)
  ·simp only[if_neg hl] at h;exact h.elim
theorem At.chg (j:At X H0 O0 O H ρ σ) {e0 en:Ent} {u o:HO} (hi:ρ[i]?=some (some e0)) (h0:e0.own=true) (hp:σ[i]?=some (some (.ref p))) (hO:O p) (hu:H p=some u) (hm:Mut (some u)) (ho:en.own=true)
  (hr:c7 X.K O H O (upd H p o)->mW X.K O (upd H p o) en (.ref p)) (hnr:∀rows,en≠.rws rows:=by intro _ z;cases z):At X H0 O0 O (upd H p o) (ρ.set i (some en)) σ/\c7 X.K O H O (upd H p o):=by
 have nt:∀b xs,Rd H b (.tup xs)->b≠p:=λ b xs h z=>by
  subst z;rcases h with h |⟨_,h⟩ <;> rw[hu] at h <;> cases h <;> exact hm
 have r1:c7 X.K O H O (upd H p o):=by
  refine⟨⟨λ b xs h=>?_,λ b xs n h=>?_⟩,λ a z=> .inl z,λ a z=>?_⟩
  ·have nb:=nt b xs h;rcases h with h |⟨q,h⟩
   ·exact .inl (by rw[upd_ne nb];exact h)
   ·exact .inr ⟨q,by rw[upd_ne nb];exact h⟩
  ·have nb:b≠p:=λ z=>n (by rw[z];exact hO);rcases h with h |⟨q,h⟩
   ·exact .inl (by rw[upd_ne nb];exact h)
   ·exact .inr ⟨q,by rw[upd_ne nb];exact h⟩
  ·by_cases ea:a=p
   ·rw[ea,upd_same] at z;cases z
   ·rw[upd_ne ea] at z;exact z
 have h1:i < ρ.length:=(z1b hi).1;obtain⟨RL,XF⟩:=j.mine i e0 p hi h0 hp;have bk:∀{k:Nat} {rows:List (List D)} {a:Addr} {rs:List Addr},k≠i->ρ[k]?=some (some (.rws rows))->σ[k]?=some (some (.ref a))->upd H p o a=some (.lst (rs.map V.ref))->H a=some (.lst (rs.map V.ref)):=λ {k rows a rs} hki q1 q2 q3=>by
  have na:a≠p:=λ z=>j.inn.env.sep k i _ e0 _ hki q1 hi rfl h0 q2 (by rw[z];exact hp);rw[upd_ne na] at q3;exact q3
 refine⟨⟨λ b q z=>?_,j.dg.trans r1,j.sub,⟨⟨λ k e h=>?_,λ k l e e' v hkl hk' hl ok ol sk sl=>?_,λ k l rows a rs e v hkl hk' sk ha hl ol sl=>?_⟩,λ a z=>?_,j.inn.len,by rw[List.length_set];exact j.inn.jU⟩,λ k e a h hoo hs=>?_,λ k rows a rs h hs ha=>?_⟩,r1⟩
 ·rw[upd_ne (ne_of_none z RL)];exact j.same _ _ z
 ·by_cases hki:k=i
  ·subst hki;rw[z2a h1] at h;cases h;exact⟨_,hp,hr r1⟩
  ·rw [z1e (Ne.symm hki)] at h;obtain⟨v,q1,q2⟩:=j.inn.env.get k e h;refine⟨v,q1,?_⟩;have nv:e.own=true->v≠.ref p:=λ z w=>by
    subst w;exact j.inn.env.sep k i e e0 _ hki h hi z h0 q1 hp
   cases e with
   |val d=>exact Rep.go r1 q2
   | obj t=>exact lO.fz (λ b o' u hb=>by
     have nb:b≠p:=λ z=>by rw[z,hu] at hb;cases hb;exact hm
     rw[upd_ne nb];exact hb) q2
   | lst ds=>
    obtain⟨a,xs,e1,o1,e2,r⟩:=q2;have na:a≠p:=λ z=>nv rfl (by rw[e1,z]);exact⟨a,xs,e1,o1,by rw[upd_ne na];exact e2,r.go r1⟩
   | qj kvs=>
    obtain⟨a,xs,e1,o1,e2,kk,r⟩:=q2;have na:a≠p:=λ z=>nv rfl (by rw[e1,z]);exact⟨a,xs,e1,o1,by rw[upd_ne na];exact e2,kk,r.go r1⟩
   | rws rows=>
    obtain⟨a,rs,e1,R⟩:=q2;have na:a≠p:=λ z=>nv rfl (by rw[e1,z]);have RM:σ[k]?=some (some (.ref a)):=by rw[<-e1];exact q1
    refine⟨a,rs,e1,by rw[upd_ne na];exact R.at_,R.oa,R.nd,R.len,λ n r row z1 z2=>?_⟩;obtain⟨o1,xs,z3,z4⟩:=R.row n r row z1 z2;have nr:r≠p:=λ z=>(j.inn.env.lg k i rows a rs e0 (.ref p) hki h RM R.at_ hi h0 hp).1 r (List.mem_of_getElem? z1) (by rw[z]);exact⟨o1,xs,by rw[upd_ne nr];exact z3,z4.go r1⟩
 ·have un:∀{m:Nat} {x:Ent},(ρ.set i (some en))[m]?=some (some x)->x.own=true->∃y,ρ[m]?=some (some y)/\y.own=true:=λ {m x} h ho'=>by
   by_cases hmi:m=i
   ·rw[hmi];exact⟨e0,hi,h0⟩
   ·rw[z1e (Ne.symm hmi)] at h;exact⟨x,h,ho'⟩
  obtain⟨y,hy,oy⟩:=un hk' ok;obtain⟨y',hy',oy'⟩:=un hl ol;exact j.inn.env.sep k l y y' v hkl hy hy' oy oy' sk sl
 ·by_cases hki:k=i
  ·subst hki;rw[z2a h1] at hk';cases hk';exact absurd rfl (hnr rows)
  ·rw[z1e (Ne.symm hki)] at hk';have ha':=bk hki hk' sk ha;by_cases hli:l=i
   ·subst hli;rw[hp] at sl;rw[z2a h1] at hl;cases sl;cases hl;exact⟨(j.inn.env.lg k l rows a rs e0 _ hkl hk' sk ha' hi h0 hp).1,hnr⟩
   ·rw[z1e (Ne.symm hli)] at hl;exact j.inn.env.lg k l rows a rs e v hkl hk' sk ha' hl ol sl
 ·by_cases ea:a=p
  ·rw[ea];exact⟨o,upd_same⟩
  ·obtain⟨w,q⟩:=j.inn.al a z;exact⟨w,by rw[upd_ne ea];exact q⟩
 ·by_cases hki:k=i
  ·subst hki;rw[hp] at hs;cases hs;exact⟨RL,XF⟩
  ·rw[z1e (Ne.symm hki)] at h;exact j.mine k e a h hoo hs
 ·by_cases hki:k=i
  ·subst hki;rw[z2a h1] at h;cases h;exact absurd rfl (hnr rows)
  ·rw[z1e (Ne.symm hki)] at h;exact j.rK k rows a rs h hs (bk hki h hs ha)
def jV (i:Nat) (f:ao->R D):ao->So:=λ ρ=>fQ (wz (f ρ)) ρ λ d=>match ρ[i]? with
 |some (some (.lst ds))=>if ds.length < 1000000 then .nx (ρ.set i (some (.lst (ds++[d])))) else .bad
 |_=> .bad
theorem lX (i:Nat) {x:Str} {apos cpos:Pos} (he:DE X e f) (hN:X.N[i]?=some x:=by rfl) (hv:Vis X.env.scope x:=by first |exact Or.inl rfl |exact Or.inr (Or.inl rfl) |exact Or.inr (Or.inr rfl))
  (hd:(x ==("__debug__" :Str))=false:=by decide) (hcd:(x ==("__classdict__" :Str))=false:=by decide)
  (hbase:attributeBase (.Name x px) "append" X.env (eval (.Name x px) X.env)=eval (.Name x px) X.env:=by rfl)
  (hfew:((backTo cpos (starEach [e] X.env)).all (λ x=> !x.1) && (backToKw cpos (keywordEach [] X.env)).all (λ x=>x.1.isSome)
   && decide ([e].length+([]:List Keyword).length+(if ([]:List Keyword).isEmpty then 0 else 1) < 30))=true:=by rfl)
  (hline:(apos.endLine ==cpos.line)=true:=by rfl) (hs1:starEach [e] X.env=(false,eval e X.env)::starEach [] X.env:=by rfl) (hplain:(backTo cpos (starEach [] X.env)).any (·.1)=false:=by rfl)
  (hs:swapsWith (.Call (.Attribute (.Name x px) "append" apos) [e] [] cpos) none pos.line X.env=pure false:=by rfl):
  DS X (.Expr (.Call (.Attribute (.Name x px) "append" apos) [e] [] cpos) pos) (jV i f):=by
 refine PS.imp (ps_expr (pe_bm PySem.F.plainAttrs_list PySem.F.slot_list_append PySem.F.type_list_append mt_append (pe_var hN hv hd hcd) (pa_cons he pa_nil hs1) hbase hfew hline hs1 hplain) hs) λ σ H E h=>?_;obtain⟨H0,O0,O,ρ,j,h⟩:=h;unfold jV fQ at h;cases e1:f ρ with
 |bad=>rw[e1] at h;exact h.elim
 |err c=>rw[e1] at h;exact h.elim
 | ok d =>
  rw[e1] at h;cases e2:ρ[i]? with
  |none=>simp only[e2] at h;exact h.elim
  | some oe=>
   cases oe with
   |none=>simp only[e2] at h;exact h.elim
   | some en=>
    cases en with
    |val _=>simp only[e2] at h;exact h.elim
    |qj _=>simp only[e2] at h;exact h.elim
    |rws _=>simp only[e2] at h;exact h.elim
    |obj _=>simp only[e2] at h;exact h.elim
    | lst ds=>
     simp only[e2] at h;by_cases hl:ds.length < 1000000
     ·simp only[if_pos hl] at h;obtain⟨v,hv1,a,xs,rfl,hO,hH,rs⟩:=j.inn.env.get i _ e2;refine⟨.ref a,hv1,.inl ⟨rfl,xs,SqL.of hH⟩,?_⟩;refine⟨ρ,O,j.inn,?_⟩;rw[e1];intro w H1 s1 rw1;have j1:=j.grow s1;obtain⟨_,hv2,a2,xs2,e3,hO2,hH2,vG⟩:=j1.inn.env.get i _ e2;rw[hv1] at hv2;cases hv2;cases e3;have hlen:=vG.length;refine⟨a,xs2,w,rfl,rfl,hH2,by have:=dX;omega,?_⟩;obtain⟨j2,r2⟩:=j1.chg (o:= .lst (xs2++[w])) (en:= .lst (ds++[d])) e2 rfl hv1 hO2 hH2 trivial rfl λ r=>⟨a,xs2++[w],rfl,hO2,upd_same,(vG.append (.cons rw1 .nil)).go r⟩;exact h _ _ _ j2 ((Same.dg s1).trans r2)
     ·simp only[if_neg hl] at h;exact h.elim
end
inductive SpD (K:PySem.W.Frag) (n:Nat) (F:List D->R D) (vs:List V) (H:Hp) (Q:VK):Prop
 | mk (O:Addr->Prop) (ds:List D) (r:aJ K O H ds vs) (hl:ds.length=n) (al:∀a,O a->∃o,H a=some o) (h:match F ds with
  | .ok d=>∀v H',Same H H'->Rep K O H' d v->Q v H'
  |_=>False):SpD K n F vs H Q
def Ir (K:PySem.W.Frag) (n:Nat) (F:List D->R D):Sp:=λ vs H Q _=>SpD K n F vs H Q
def cA (n:Nat) (g:ao->So) (ds:List D):R D:=match g (ds.map (λ d=>some (.val d))++List.replicate n none) with
 | .rt d=> .ok d
 | .nx _=> .ok .non
 | .ex c _=> .err c
 |_=> .bad
section
variable {P:Program} {w:World} {K:PySem.W.Frag} {mg:Str->Option Value} {base:Heap}
theorem tV {K:PySem.W.Frag} {vs:List V} (r:aJ K O H ds vs) (m:Nat) (i:Nat) (e:Ent) (h:(ds.map (λ d=>some (Ent.val d))++List.replicate m none)[i]?=some (some e)):∃v,(vs.map some++List.replicate m none)[i]?=some (some v)/\mW K O H e v/\e.own=false:=by
 by_cases hi:i < ds.length
 ·rw[List.getElem?_append_left (by simpa using hi),z2b] at h;cases q:ds[i]? with
  |none=>rw[q] at h;cases h
  | some d=>
   rw[q] at h;cases h;obtain⟨v,e1,rv⟩:=r.get q;exact⟨v,by rw[List.getElem?_append_left (by rw[z1g,<-r.length];exact hi),z2b,e1];rfl,rv,rfl⟩
 ·rw[List.getElem?_append_right (by simpa using hi),List.getElem?_replicate] at h;split at h <;> cases h
theorem fnD {x qual:Str} {st:Stmt} {f:Addr} {fd:FuncData} {ps:List Str} {k m:Nat} {g:ao->So} {F:List D->R D} (Fn:Fun K x qual st f fd) (S:FnScope N ps (defScope st)) (hn:ps.length=n) (hm:N.length=n+m)
  (hb:∀(cdv:Value) (A:Around) (outer:List PySem.Env) (s:Shared) (H:Hp) (E:XK),Room k (A.deeper (envOfC qual (defScope st) s.heap.objs.size f cdv))->lW (cxOf CX0 P w K mg base N qual (defScope st) f cdv A outer s H E).nox (defBody st) g)
  (hF:∀ds d,ds.length=n->F ds= .ok d->cA m g ds= .ok d):FnOk P w K mg base CX0 (k+1) f fd ps (Ir K n F):=by
 refine Fn.ok S (λ vs H Q E h=>?_) (λ cdv A outer s H vs Q E hr h=>?_)
 ·obtain⟨O,ds,r,hl,_⟩:=h;rw[hn,<-hl,r.length]
 ·obtain⟨O,ds,r,hl,al,h⟩:=h;refine⟨_,hb cdv A outer s H E hr,H,O,O,ds.map (λ d=>some (.val d))++List.replicate m none,?_,?_⟩
  ·have hst:L2.start N vs=vs.map some++List.replicate m none:=by
    unfold L2.start;rw[show N.length - vs.length=m by rw[<-r.length];omega]
   refine⟨Same.refl _,.refl,λ _ z=>z,⟨⟨λ i e q=>?_,λ i k e e' v _ hi _ oi=>?_,λ i k rows a rs e v _ hi=>by obtain⟨_,_,_,h3⟩:=tV r m i _ hi;cases h3⟩,al,?_,?_⟩,λ i e a q ho=>?_,λ i rows a rs q=>by obtain⟨_,_,_,h3⟩:=tV r m i _ q;cases h3⟩
   ·obtain⟨v,h1,h2,_⟩:=tV r m i e q;exact⟨v,by rw[hst];exact h1,h2⟩
   ·obtain⟨_,_,_,h3⟩:=tV r m i e hi;rw[h3] at oi;cases oi
   ·show (L2.start N vs).length=N.length;rw[hst,z1d,z1g,List.length_replicate,<-r.length];omega
   ·show (ds.map (λ d=>some (Ent.val d))++List.replicate m none).length=N.length;rw[z1d,z1g,List.length_replicate];omega
   ·obtain⟨_,_,_,h3⟩:=tV r m i e q;rw[h3] at ho;cases ho
  ·cases e:F ds with
   |bad=>rw[e] at h;exact h.elim
   |err c=>rw[e] at h;exact h.elim
   | ok d=>
    rw[e] at h;have q:=hF ds d hl e;unfold cA at q;cases e2:g (ds.map (λ d=>some (.val d))++List.replicate m none) with
    | rt d'=>
     rw[e2] at q;cases q;exact λ v H' s' r'=>h v H' s' r'
    | nx ρ'=>
     rw[e2] at q;cases q;exact λ σ' H' O' j' _=>h .non H' j'.same mV
    |bk _=>rw[e2] at q;cases q
    |ct _=>rw[e2] at q;cases q
    |ex _ _=>rw[e2] at q;cases q
    |bad=>rw[e2] at q;cases q
end
section
variable {X:Cx} {k n:Nat} {f:Addr} {fd:FuncData} {ps:List Str} {F:List D->R D} {x:Str} {p pos:Pos} {e:Expr} {es:List Expr} {fa:ao->R (List D)}
def aV (F:List D->R D) (n:Nat) (ds:List D):R D:=if ds.length=n then wz (F ds) else .bad
theorem YC (G:FnOk X.prog X.w X.K X.mg X.base CX0 k f fd ps (Ir X.K n F)) (hr:Room k X.A) (hg:Gl X x) (hm:X.mg x=some (.ref f)) (hk:PySem.W.keepIn X.K (.ref f)=true) (hb:Binds X.K fd ps [])
  (ha:DA X (e::es) fa) (hdb:(x ==("__debug__" :Str))=false:=by decide) (he:starEach (e::es) X.env=(false,eval e X.env)::starEach es X.env:=by rfl) (hpl:(backTo pos (starEach es X.env)).any (·.1)=false:=by rfl):
  DE X (.Call (.Name x p) (e::es) [] pos) (aB (aV F n) fa):=by
 refine PE.imp (pe_call (dvs:=[]) G hr hg hm hk hb .nil pass0 ha hdb he hpl) λ σ H Q h=>?_;obtain⟨ρ,O,j,h⟩:=h;refine go j h λ ds vs H1 e1 s1 r1 j1 h1=>?_;unfold aV at h1;by_cases hl:ds.length=n
 ·rw[if_pos hl] at h1;rw[List.append_nil];refine⟨O,ds,r1,hl,j1.al,?_⟩;cases q:F ds with
  |ok d=>rw[q] at h1;exact h1
  |err c=>rw[q] at h1;exact h1
  |bad=>rw[q] at h1;exact h1
 ·rw[if_neg hl] at h1;exact h1.elim
end
section
variable {X:Cx}
def cJ:List D->R D
 |[.tup ds]=> .ok (.int ds.length)
 |[.lst ds]=> .ok (.int ds.length)
 |_=> .bad
theorem cX:CallD X (.builtin "len") cJ:=by
 refine⟨_,call_len_seq,λ ρ O σ H Q xs ds j r h=>?_⟩;unfold cJ at h;split at h
 ·obtain⟨x,rfl,rx⟩:=r.one;obtain⟨a,ys,rfl,hq,rs⟩:=rx.tup;exact⟨a,ys,rfl,.inr hq,by rw[<-rs.length];exact fin h (bY _)⟩
 ·obtain⟨x,rfl,rx⟩:=r.one;obtain⟨a,ys,rfl,hq,_,rs⟩:=rx.lst;exact⟨a,ys,rfl,.inl hq,by rw[<-rs.length];exact fin h (bY _)⟩
 ·exact h.elim
def gK:List D->R D
 |[.tup ds]=> .ok (.tup ds)
 |[.lst ds]=> .ok (.tup ds)
 |_=> .bad
theorem dj:CallD X (.type "tuple") gK:=by
 refine⟨_,call_tuple_of,λ ρ O σ H Q xs ds j r h=>?_⟩;unfold gK at h;split at h
 ·obtain⟨x,rfl,rx⟩:=r.one;obtain⟨a,ys,rfl,hq,rs⟩:=rx.tup;exact⟨a,ys,rfl,.inr ⟨hq,fin h (f9 hq rs)⟩⟩
 ·obtain⟨x,rfl,rx⟩:=r.one;obtain⟨a,ys,rfl,hq,_,rs⟩:=rx.lst;exact⟨a,ys,rfl,.inl ⟨hq,λ l hl=>h _ _ (Same.upd hl) (Rep.pW hl rs)⟩⟩
 ·exact h.elim
def VD:List D->R D
 |[.tup ds]=> .ok (.lst ds)
 |[.lst ds]=> .ok (.lst ds)
 |_=> .bad
theorem YD:CallD X (.type "list") VD:=by
 refine⟨_,call_list_of,λ ρ O σ H Q xs ds j r h=>?_⟩;unfold VD at h;split at h
 ·obtain⟨x,rfl,rx⟩:=r.one;obtain⟨a,ys,rfl,hq,rs⟩:=rx.tup;exact⟨a,ys,rfl,.inr hq,λ l hl=>h _ _ (Same.upd hl) (Rep.jr hl (j.lQ hl) rs)⟩
 ·obtain⟨x,rfl,rx⟩:=r.one;obtain⟨a,ys,rfl,hq,_,rs⟩:=rx.lst;exact⟨a,ys,rfl,.inl hq,λ l hl=>h _ _ (Same.upd hl) (Rep.jr hl (j.lQ hl) rs)⟩
 ·exact h.elim
def boolsOf:List D->Option (List Bool)
 |[]=>some []
 | .bl b::r=>(boolsOf r).map (b:: ·)
 |_=>none
def intsOf:List D->Option (List Int)
 |[]=>some []
 | .int i::r=>(intsOf r).map (i:: ·)
 |_=>none
theorem Nh {K:PySem.W.Frag} {O:Addr->Prop} {H:Hp}:∀{ds:List D} {bs:List Bool} {vs:List V},boolsOf ds=some bs->aJ K O H ds vs->vs=bs.map V.bl
 |[],bs,vs,e,r=>by cases e;exact r.nil_inv
 | d ::ds,bs,vs,e,r=>by
  cases d with
  | bl b=>
   have e:(boolsOf ds).map (b:: ·)=some bs:=e;cases q:boolsOf ds with
   |none=>rw[q] at e;cases e
   | some l=>
    rw[q] at e;cases e;obtain⟨x,t,rfl,rx,rt⟩:=r.cons_inv;rw[rx.bl,Nh q rt];rfl
  |_=>cases e
theorem Iu:∀{bs:List Bool} {us:List Value},Vals (bs.map V.bl) us->LSm.BoolsAre us bs
 |[],_,.nil=> .nil
 |b::bs,_,.cons r t=>by cases r;exact .cons b (Iu t)
theorem RN (hc:X.calm=true):CallR X (.builtin "all") (λ xs H Q=>∃p,∃bs:List Bool,xs=[.ref p]/\SqL X.K H p (bs.map V.bl)/\Q (.bl (bs.all id)) H):=by
 intro pins s σ H xs us Q I r h;obtain⟨p,bs,rfl,hq,q⟩:=h;obtain⟨u,rfl,rx⟩:=vals1 r;cases rx;obtain⟨its,r',pl,hz⟩:=I.list hq;have hb:=Iu r';have hl:=pl.isList;have hlt:p < s.heap.objs.size:=by obtain⟨_,e,_⟩:=hl;exact z2c e
 refine call_all_walk (wpAny_pyIter_list hl ?_);refine⟨s.heap.objs.size,[s.heap.objs.size,p],[s.heap.objs.size],its.toArray.size,_,_,λ i=>(bs[i]?).getD true,rfl,Walks.list (A:=X.A.in1) (I.ok.hd hc) _ p (Nat.ne_of_lt hlt) its.toArray,
  ⟨⟨_,z1f _ rfl,rfl,rfl⟩,hl.push _⟩,λ i v s' Q' E' hP hQ=>?_,λ h' tk hk=>?_⟩
 ·obtain⟨b,e,rfl⟩:=hb.get i v (by simpa using hP);simp only[e,Option.getD_some] at hQ;exact wpAny_truthy_bool hQ
 ·have e:((List.range its.toArray.size).all λ i=>(bs[i]?).getD true)=bs.all id:=by
   rw[z1c,hb.length];exact LSm.range_all bs
  rw[e];exact⟨.bl _,H,I.kept (LSm.kept_iter hk),rfl,q⟩
def oZ:List D->R D
 | [.lst ds]=>match boolsOf ds with
  |some bs=> .ok (.bl (bs.all id))
  |none=> .bad
 |_=> .bad
theorem oJ (hc:X.calm=true):CallD X (.builtin "all") oZ:=by
 refine⟨_,RN hc,λ ρ O σ H Q xs ds j r h=>?_⟩;unfold oZ at h;split at h
 ·rename_i ds;obtain⟨x,rfl,rx⟩:=r.one;obtain⟨a,ys,rfl,hq,_,rs⟩:=rx.lst;cases e:boolsOf ds with
  |none=>rw[e] at h;exact h.elim
  | some bs=>
   rw[e] at h;have ey:=Nh e rs;subst ey;exact⟨a,bs,rfl,hq,fin h (gb _)⟩
 ·exact h.elim
def jB:D->String
 | .non=> "NoneType"
 | .bl _=> "bool"
 | .int _=> "int"
 | .str _=> "str"
 | .tup _=> "tuple"
 | .lst _=> "list"
theorem RP (T:String) (ans:String->Bool) (hk:∀d:D,PySem.W.kitOne X.K (.type (jB d)) (.type T)=some (ans (jB d))):
  CallR X (.builtin "isinstance") (λ xs H Q=>∃x O d,xs=[x,.ty T]/\Rep X.K O H d x/\Q (.bl (ans (jB d))) H):=by
 intro pins s σ H xs us Q I r h;obtain⟨x,O,d,rfl,rd,q⟩:=h;obtain⟨u,u2,rfl,rx,r2⟩:=vals2 r;cases r2;have e:=hk d;have fin':∀tk,EP X pins σ Q (.bool (ans (jB d))) {s with toks:=tk}:=λ tk=>⟨.bl _,H,I.tok _,rfl,q⟩;cases d with
 | non=>
  cases rd.non;cases (show u=Value.none from rx);exact PySem.W.kia_one PySem.W.kitx_none I.kIn True.intro e (λ z=>nomatch z) fin'
 | bl b=>
  cases rd.bl;cases (show u=Value.bool b from rx);exact PySem.W.kia_one PySem.W.kitx_bool I.kIn True.intro e (λ z=>nomatch z) fin'
 | int i=>
  cases rd.int;obtain⟨t,z⟩:=(show ∃t,u=Value.int i t from rx);cases z;exact PySem.W.kia_one PySem.W.kitx_int I.kIn True.intro e (λ z=>nomatch z) fin'
 | str y=>
  cases rd.str;obtain⟨t,z⟩:=(show ∃t,u=Value.str y t from rx);cases z;exact PySem.W.kia_one PySem.W.kitx_str I.kIn True.intro e (λ z=>nomatch z) fin'
 | tup ds=>
  obtain⟨a,ys,rfl,hq,_⟩:=rd.tup;cases (show u=Value.ref a from rx);obtain⟨its,_,pl,_⟩:=I.tuple hq;obtain⟨o,h1,h2,_⟩:=pl;exact PySem.W.kia_one PySem.W.kitx_tuple I.kIn ⟨o,h1,h2⟩ e (λ z=>nomatch z) fin'
 | lst ds=>
  obtain⟨a,ys,rfl,hq,_,_⟩:=rd.lst;cases (show u=Value.ref a from rx);obtain⟨its,_,pl,_⟩:=I.list hq;obtain⟨o,n,h1,h2,_⟩:=pl;exact PySem.W.kia_one PySem.W.kitx_list I.kIn ⟨o,h1,h2⟩ e (λ z=>nomatch z) fin'
def uL (ans:String->Bool) (f:ao->R D):ao->R D:=λ ρ=>(f ρ).bind λ d=> .ok (.bl (ans (jB d)))
theorem p7 {T:String} {ans:String->Bool} {x y:Str} {e:Expr} {f:ao->R D} {p p2 pos:Pos} (hk:∀d:D,PySem.W.kitOne X.K (.type (jB d)) (.type T)=some (ans (jB d))) (he:DE X e f)
  (hg:Gl X x) (hm:X.mg x=none) (hv:bootBuiltins x=some (.builtin "isinstance")) (hgy:Gl X y) (hmy:X.mg y=none) (hvy:bootBuiltins y=some (.type T)) (hn:x≠"__name__" :=by decide) (hdb:(x ==("__debug__" :Str))=false:=by decide)
  (hny:y≠"__name__" :=by decide) (RQ:(y ==("__debug__" :Str))=false:=by decide)
  (hs:starEach [e,.Name y p2] X.env=(false,eval e X.env)::starEach [.Name y p2] X.env:=by rfl) (hs2:starEach [.Name y p2] X.env=(false,eval (.Name y p2) X.env)::starEach [] X.env:=by rfl) (hpl:(backTo pos (starEach [.Name y p2] X.env)).any (·.1)=false:=by rfl):
  DE X (.Call (.Name x p) [e,.Name y p2] [] pos) (uL ans f):=by
 refine PE.imp (pe_callB (RP T ans hk) hg hm hv (pa_cons he (pa_cons (pe_bltn (v:= .ty T) hgy hmy hvy rfl hny RQ) pa_nil hs2) hs) hn hdb hs hpl) λ σ H Q h=>?_;obtain⟨ρ,O,j,h⟩:=h;refine go j h λ d v H1 e1 s1 r1 j1 h1=>?_;exact⟨v,O,d,rfl,r1,fin h1 (gb _)⟩
end
mutual
def cP:D->D->Bool
 | .non,.non=>true
 | .bl a,.bl b=>a ==b
 | .bl a,.int b=>(if a then 1 else 0) ==b
 | .int a,.bl b=>a ==(if b then 1 else 0)
 | .int a,.int b=>a ==b
 | .str a,.str b=>a ==b
 | .tup a,.tup b=>o7 a b
 | .lst a,.lst b=>o7 a b
 |_,_=>false
def o7:List D->List D->Bool
 |[],[]=>true
 |x::xs,y::ys=>cP x y && o7 xs ys
 |_,_=>false
end
mutual
def dep:D->Nat
 | .tup a=>deps a+1
 | .lst a=>deps a+1
 |_=>0
def deps:List D->Nat
 |[]=>0
 |x::xs=>max (dep x) (deps xs)
end
theorem m7:∀{ds:List D} {d:D},d∈ds->dep d<=deps ds
 |[],_,h=>by simp at h
 | x::xs,d,h=>by
  rw[deps];rcases List.mem_cons.mp h with e |h
  ·subst e;exact Nat.le_max_left _ _
  ·exact z0b (m7 h) (Nat.le_max_right _ _)
theorem jX (a b:Bool):cP (.bl a) (.bl b)=(a ==b):=rfl
theorem jY (a:Bool) (b:Int):cP (.bl a) (.int b)=((if a then 1 else 0) ==b):=rfl
theorem jZ (a:Int) (b:Bool):cP (.int a) (.bl b)=(a ==(if b then 1 else 0)):=rfl
theorem j5 (a b:Int):cP (.int a) (.int b)=(a ==b):=rfl
theorem j7 (a b:Str):cP (.str a) (.str b)=(a ==b):=rfl
theorem gw (a b:List D):cP (.tup a) (.tup b)=o7 a b:=rfl
theorem dY (a b:List D):cP (.lst a) (.lst b)=o7 a b:=rfl
mutual
theorem zK:∀d:D,cP d d=true
 | .non=>rfl
 | .bl a=>by simp[jX,jY,jZ,j5,j7,gw,dY]
 | .int a=>by simp[jX,jY,jZ,j5,j7,gw,dY]
 | .str a=>by simp[jX,jY,jZ,j5,j7,gw,dY]
 | .tup a=>by rw[gw];exact oK a
 | .lst a=>by rw[dY];exact oK a
theorem oK:∀d:List D,o7 d d=true
 |[]=>rfl
 |x::xs=>by rw[o7,zK x,oK xs];rfl
end
theorem qG:∀{xs ys:List D},xs.length≠ys.length->o7 xs ys=false
 |[],[],h=>absurd rfl h
 |[],_::_,_=>rfl
 |_::_,[],_=>rfl
 | x::xs,y::ys,h=>by
  rw[o7,qG (xs:=xs) (ys:=ys) (λ e=>h (by simp[e])),Bool.and_false]
theorem qH:∀{xs ys:List D},xs.length=ys.length->o7 xs ys=(List.range xs.length).all λ i=>cP (xs.getD i .non) (ys.getD i .non)
 |[],[],_=>rfl
 |[],_::_,h=>by simp at h
 |_::_,[],h=>by simp at h
 | x::xs,y::ys,h=>by
  rw[o7,qH (xs:=xs) (ys:=ys) (by simpa using h),List.length_cons,List.range_succ_eq_map,List.all_cons,List.all_map];rfl
end Pu
namespace Pu
open PySem PySem.Spec L2
open PyProof.Rows hiding St
open PySem.SeqAt
variable {A:Around} {d:D} {u u':Value}
inductive LkT (X:Cx) (O:Addr->Prop) (H:Hp) (s:Shared) (ds:List D) (u:Value):Prop
 |mk (a:Addr) (xs:List V) (its:List Value) (e:u=Value.ref a) (q:SqT X.K H a xs) (v:Vals xs its) (p:s.heap.IsTuple a its.toArray) (r:aJ X.K O H ds xs):LkT X O H s ds u
inductive LkL (X:Cx) (O:Addr->Prop) (H:Hp) (s:Shared) (ds:List D) (u:Value):Prop
 |mk (a:Addr) (xs:List V) (its:List Value) (e:u=Value.ref a) (q:SqL X.K H a xs) (v:Vals xs its) (p:s.heap.IsList a its.toArray) (r:aJ X.K O H ds xs):LkL X O H s ds u
def Lk (X:Cx) (O:Addr->Prop) (H:Hp) (s:Shared):D->Value->Prop
 | .non,u=>u=Value.none
 | .bl b,u=>u=Value.bool b
 | .int i,u=>∃t,u=Value.int i t
 | .str x,u=>∃t,u=Value.str x t
 | .tup ds,u=>LkT X O H s ds u
 | .lst ds,u=>LkL X O H s ds u
section
variable {X:Cx} {pins:List (Addr×Obj)} {σ:St} {H:Hp} {s:Shared} {O O':Addr->Prop}
theorem rN (I:Inv X pins σ H s) {v:V} (r:Rep X.K O H d v) (q:RelV v u):Lk X O H s d u:=by
 cases d with
 |non=>cases r.non;exact q
 |bl b=>cases r.bl;exact q
 |int i=>cases r.int;exact q
 |str x=>cases r.str;exact q
 | tup ds=>
  obtain⟨a,xs,rfl,hq,rs⟩:=r.tup;cases (show u=Value.ref a from q);obtain⟨its,rv,p,_⟩:=I.tuple hq;exact⟨a,xs,its,rfl,hq,rv,p,rs⟩
 | lst ds=>
  obtain⟨a,xs,rfl,hq,_,rs⟩:=r.lst;cases (show u=Value.ref a from q);obtain⟨its,rv,p,_⟩:=I.list hq;exact⟨a,xs,its,rfl,hq,rv,p.isList,rs⟩
theorem isTuple_list {a:Addr} {p q:Array Value} (h1:s.heap.IsTuple a p) (h2:s.heap.IsList a q):False:=ne_of_list_tuple h2 h1 rfl
mutual
theorem Rep.inj (I:Inv X pins σ H s):∀(d e:D) (v:V),Rep X.K O H d v->Rep X.K O' H e v->d=e
 | .non,e,v,r,q=>by
  cases r.non;cases e with
  |non=>rfl
  |bl _=>cases q.bl
  |int _=>cases q.int
  |str _=>cases q.str
  |tup _=>obtain⟨_,_,z,_⟩:=q.tup;cases z
  |lst _=>obtain⟨_,_,z,_⟩:=q.lst;cases z
 | .bl b,e,v,r,q=>by
  cases r.bl;cases e with
  |non=>cases q.non
  |bl _=>cases q.bl;rfl
  |int _=>cases q.int
  |str _=>cases q.str
  |tup _=>obtain⟨_,_,z,_⟩:=q.tup;cases z
  |lst _=>obtain⟨_,_,z,_⟩:=q.lst;cases z
 | .int b,e,v,r,q=>by
  cases r.int;cases e with
  |non=>cases q.non
  |bl _=>cases q.bl
  |int _=>cases q.int;rfl
  |str _=>cases q.str
  |tup _=>obtain⟨_,_,z,_⟩:=q.tup;cases z
  |lst _=>obtain⟨_,_,z,_⟩:=q.lst;cases z
 | .str b,e,v,r,q=>by
  cases r.str;cases e with
  |non=>cases q.non
  |bl _=>cases q.bl
  |int _=>cases q.int
  |str _=>cases q.str;rfl
  |tup _=>obtain⟨_,_,z,_⟩:=q.tup;cases z
  |lst _=>obtain⟨_,_,z,_⟩:=q.lst;cases z
 | .tup ds,e,v,r,q=>by
  obtain⟨a,xs,rfl,hq,rs⟩:=r.tup;cases e with
  |non=>cases q.non
  |bl _=>cases q.bl
  |int _=>cases q.int
  |str _=>cases q.str
  | tup es=>
   obtain⟨b,ys,z,hq',rs'⟩:=q.tup;cases z;cases I.tuple_inj hq hq';rw[aJ.inj I ds es xs rs rs']
  | lst es=>
   obtain⟨b,ys,z,hq',_,rs'⟩:=q.lst;cases z;obtain⟨_,_,p1,_⟩:=I.tuple hq;obtain⟨_,_,p2,_⟩:=I.list hq';exact (isTuple_list p1 p2.isList).elim
 | .lst ds,e,v,r,q=>by
  obtain⟨a,xs,rfl,hq,_,rs⟩:=r.lst;cases e with
  |non=>cases q.non
  |bl _=>cases q.bl
  |int _=>cases q.int
  |str _=>cases q.str
  | tup es=>
   obtain⟨b,ys,z,hq',rs'⟩:=q.tup;cases z;obtain⟨_,_,p1,_⟩:=I.tuple hq';obtain⟨_,_,p2,_⟩:=I.list hq;exact (isTuple_list p1 p2.isList).elim
  | lst es=>
   obtain⟨b,ys,z,hq',_,rs'⟩:=q.lst;cases z;cases I.list_inj hq hq';rw[aJ.inj I ds es xs rs rs']
theorem aJ.inj (I:Inv X pins σ H s):∀(ds es:List D) (vs:List V),aJ X.K O H ds vs->aJ X.K O' H es vs->ds=es
 | [],es,vs,r,q=>by
  rw[r.nil_inv] at q;cases es with
  |nil=>rfl
  |cons e es=>obtain⟨_,_,z,_⟩:=q.cons_inv;cases z
 | d ::ds,es,vs,r,q=>by
  obtain⟨x,t,rfl,rx,rt⟩:=r.cons_inv;cases es with
  |nil=>cases q.nil_inv
  | cons e es=>
   obtain⟨_,_,z,qx,qt⟩:=q.cons_inv;cases z;rw[Rep.inj I d e x rx qx,aJ.inj I ds es t rt qt]
end
theorem m8 {ds es:List D} {xs ys:List V} {its jts:List Value} (r1:aJ X.K O H ds xs) (r2:aJ X.K O' H es ys) (v1:Vals xs its) (v2:Vals ys jts)
  (ih:∀d∈ds,∀(e:D) (v w:V) (u u':Value),Rep X.K O H d v->Rep X.K O' H e w->RelV v u->RelV w u'->EqAt A s u u' (cP d e)):
  ∀j (h1:j < its.toArray.size) (h2:j < jts.toArray.size),EqAt A s its.toArray[j] jts.toArray[j] (cP (ds.getD j .non) (es.getD j .non)):=by
 intro j h1 h2;have e1:its[j]?=some its.toArray[j]:=by simp
 have e2:jts[j]?=some jts.toArray[j]:=by simp
 have l1:=v1.length;have l2:=v2.length;have k1:=r1.length;have k2:=r2.length;simp only[z1c] at h1 h2;obtain⟨v,ev,rv⟩:∃v,xs[j]?=some v/\RelV v its.toArray[j]:=by
  have hj:j < xs.length:=by omega
  obtain⟨u,eu,ru⟩:=v1.get (i:=j) (x:=xs[j]) (by simp[hj]);rw[e1] at eu;cases eu;exact⟨_,by simp[hj],ru⟩
 obtain⟨w,ew,rw'⟩:∃v,ys[j]?=some v/\RelV v jts.toArray[j]:=by
  have hj:j < ys.length:=by omega
  obtain⟨u,eu,ru⟩:=v2.get (i:=j) (x:=ys[j]) (by simp[hj]);rw[e2] at eu;cases eu;exact⟨_,by simp[hj],ru⟩
 obtain⟨d,ed,rd⟩:=r1.bD ev;obtain⟨e,ee,re⟩:=r2.bD ew;have g1:ds.getD j .non=d:=by simp[List.getD,ed]
 have g2:es.getD j .non=e:=by simp[List.getD,ee]
 rw[g1,g2];exact ih d (List.mem_of_getElem? ed) e v w _ _ rd re rv rw'
theorem zL {ds es:List D} {n m:Nat} (hn:ds.length=n) (hm:es.length=m):((List.range (min n m)).all (λ j=>cP (ds.getD j .non) (es.getD j .non)) && n ==m)=o7 ds es:=by
 by_cases h:n=m
 ·subst h;rw[Nat.min_self,beq_self_eq_true,Bool.and_true,qH (by rw[hn,hm]),hn]
 ·rw[qG (by rw[hn,hm];exact h),show (n ==m)=false by simpa using h,Bool.and_false]
theorem Iv (I:Inv X pins σ H s) (hu:A.units < cLine) {e:D} (h1:Lk X O H s d u) (h2:Lk X O' H s e u')
  (ih:∀c∈(match d with | .tup ds=>ds | .lst ds=>ds |_=>[]),∀(e:D) (v w:V) (u u':Value),Rep X.K O H c v->Rep X.K O' H e w->RelV v u->RelV w u'->EqAt A.in1 s u u' (cP c e)):EqAt A s u u' (cP d e):=by
 cases d with
 | non=>
  cases h1;cases e with
  | non=>
   cases h2;exact EqAt.same _
  | bl b=>
   cases h2;exact EqAt.none_bool _
  | int b=>
   obtain⟨t2,rfl⟩:=h2;exact EqAt.none_int _ _
  | str b=>
   obtain⟨t2,rfl⟩:=h2;exact EqAt.none_str _ _
  | tup es=>
   obtain⟨p2,ys,jts,rfl,hq2,v2,hp2,r2⟩:=h2;exact EqAt.none_tuple hp2 hu
  | lst es=>
   obtain⟨p2,ys,jts,rfl,hq2,v2,hp2,r2⟩:=h2;exact EqAt.none_list hp2 hu
 | bl a=>
  cases h1;cases e with
  | non=>
   cases h2;exact EqAt.bool_none _
  | bl b=>
   cases h2;exact EqAt.bool_bool _ _
  | int b=>
   obtain⟨t2,rfl⟩:=h2;exact EqAt.bool_int _ _ _
  | str b=>
   obtain⟨t2,rfl⟩:=h2;exact EqAt.bool_str _ _ _
  | tup es=>
   obtain⟨p2,ys,jts,rfl,hq2,v2,hp2,r2⟩:=h2;exact EqAt.bool_tuple _ hp2 hu
  | lst es=>
   obtain⟨p2,ys,jts,rfl,hq2,v2,hp2,r2⟩:=h2;exact EqAt.bool_list _ hp2 hu
 | int a=>
  obtain⟨t1,rfl⟩:=h1;cases e with
  | non=>
   cases h2;exact EqAt.int_none _ _
  | bl b=>
   cases h2;exact EqAt.int_bool _ _ _
  | int b=>
   obtain⟨t2,rfl⟩:=h2;exact EqAt.int_int _ _ _ _
  | str b=>
   obtain⟨t2,rfl⟩:=h2;exact EqAt.int_str _ _ _ _
  | tup es=>
   obtain⟨p2,ys,jts,rfl,hq2,v2,hp2,r2⟩:=h2;exact EqAt.int_tuple _ _ hp2 hu
  | lst es=>
   obtain⟨p2,ys,jts,rfl,hq2,v2,hp2,r2⟩:=h2;exact EqAt.int_list _ _ hp2 hu
 | str a=>
  obtain⟨t1,rfl⟩:=h1;cases e with
  | non=>
   cases h2;exact EqAt.str_none _ _
  | bl b=>
   cases h2;exact EqAt.str_bool _ _ _
  | int b=>
   obtain⟨t2,rfl⟩:=h2;exact EqAt.str_int _ _ _ _
  | str b=>
   obtain⟨t2,rfl⟩:=h2;exact EqAt.str_str _ _ _ _
  | tup es=>
   obtain⟨p2,ys,jts,rfl,hq2,v2,hp2,r2⟩:=h2;exact EqAt.str_tuple _ _ hp2 hu
  | lst es=>
   obtain⟨p2,ys,jts,rfl,hq2,v2,hp2,r2⟩:=h2;exact EqAt.str_list _ _ hp2 hu
 | tup ds=>
  obtain⟨p1,xs,its,rfl,hq1,v1,hp1,r1⟩:=h1;cases e with
  | non=>
   cases h2;exact EqAt.tuple_none hp1 hu
  | bl b=>
   cases h2;exact EqAt.tuple_bool _ hp1 hu
  | int b=>
   obtain⟨t2,rfl⟩:=h2;exact EqAt.tuple_int _ _ hp1 hu
  | str b=>
   obtain⟨t2,rfl⟩:=h2;exact EqAt.tuple_str _ _ hp1 hu
  | tup es=>
   obtain⟨p2,ys,jts,rfl,hq2,v2,hp2,r2⟩:=h2;by_cases hne:p1=p2
   ·subst hne;cases I.tuple_inj hq1 hq2;rw[gw,aJ.inj I ds es xs r1 r2,oK];exact EqAt.same _
   ·have q:=EqAt.of_refs hne (RcAt.tuples hp1 hp2 hu (m8 r1 r2 v1 v2 ih));simp only[z1c] at q;rw[zL (r1.length.trans v1.length) (r2.length.trans v2.length)] at q;rw[gw];exact q
  | lst es=>
   obtain⟨p2,ys,jts,rfl,hq2,v2,hp2,r2⟩:=h2;exact EqAt.tuple_list hp1 hp2 hu
 | lst ds=>
  obtain⟨p1,xs,its,rfl,hq1,v1,hp1,r1⟩:=h1;cases e with
  | non=>
   cases h2;exact EqAt.list_none hp1 hu
  | bl b=>
   cases h2;exact EqAt.list_bool _ hp1 hu
  | int b=>
   obtain⟨t2,rfl⟩:=h2;exact EqAt.list_int _ _ hp1 hu
  | str b=>
   obtain⟨t2,rfl⟩:=h2;exact EqAt.list_str _ _ hp1 hu
  | tup es=>
   obtain⟨p2,ys,jts,rfl,hq2,v2,hp2,r2⟩:=h2;exact EqAt.list_tuple hp1 hp2 hu
  | lst es=>
   obtain⟨p2,ys,jts,rfl,hq2,v2,hp2,r2⟩:=h2;by_cases hne:p1=p2
   ·subst hne;cases I.list_inj hq1 hq2;rw[dY,aJ.inj I ds es xs r1 r2,oK];exact EqAt.same _
   ·by_cases hz:ds.length=es.length
    ·have q:=EqAt.of_refs hne (RcAt.lists hp1 hp2 (by simp only[z1c];rw[<-v1.length,<-v2.length,<-r1.length,<-r2.length];exact hz) hu (m8 r1 r2 v1 v2 ih));rw[z1c,<-v1.length,<-r1.length,<-qH hz] at q;rw[dY];exact q
    ·rw[dY,qG hz];exact EqAt.of_refs hne (RcAt.lists_lengths hp1 hp2 (by simp only[z1c];rw[<-v1.length,<-v2.length,<-r1.length,<-r2.length];simpa using hz) hu)
theorem VF (I:Inv X pins σ H s) (hu:A.units < cLine) {e:D} (h1:Lk X O H s d u) (h2:Lk X O' H s e u')
  (ih:∀c∈(match d with | .tup ds=>ds | .lst ds=>ds |_=>[]),∀(e:D) (v w:V) (u u':Value),Rep X.K O H c v->Rep X.K O' H e w->RelV v u->RelV w u'->EqAt A.in1 s u u' (cP c e)):RcAt A s u u' (cP d e):=by
 cases d with
 | non=>
  cases h1;cases e with
  | non=>
   cases h2;exact RcAt.none_none
  | bl b=>
   cases h2;exact RcAt.none_bool _
  | int b=>
   obtain⟨t2,rfl⟩:=h2;exact RcAt.none_int _ _
  | str b=>
   obtain⟨t2,rfl⟩:=h2;exact RcAt.none_str _ _
  | tup es=>
   obtain⟨p2,ys,jts,rfl,hq2,v2,hp2,r2⟩:=h2;exact RcAt.none_tuple hp2 hu
  | lst es=>
   obtain⟨p2,ys,jts,rfl,hq2,v2,hp2,r2⟩:=h2;exact RcAt.none_list hp2 hu
 | bl a=>
  cases h1;cases e with
  | non=>
   cases h2;exact RcAt.bool_none _
  | bl b=>
   cases h2;exact RcAt.bool_bool _ _
  | int b=>
   obtain⟨t2,rfl⟩:=h2;exact RcAt.bool_int _ _ _
  | str b=>
   obtain⟨t2,rfl⟩:=h2;exact RcAt.bool_str _ _ _
  | tup es=>
   obtain⟨p2,ys,jts,rfl,hq2,v2,hp2,r2⟩:=h2;exact RcAt.bool_tuple _ hp2 hu
  | lst es=>
   obtain⟨p2,ys,jts,rfl,hq2,v2,hp2,r2⟩:=h2;exact RcAt.bool_list _ hp2 hu
 | int a=>
  obtain⟨t1,rfl⟩:=h1;cases e with
  | non=>
   cases h2;exact RcAt.int_none _ _
  | bl b=>
   cases h2;exact RcAt.int_bool _ _ _
  | int b=>
   obtain⟨t2,rfl⟩:=h2;exact RcAt.int_int _ _ _ _
  | str b=>
   obtain⟨t2,rfl⟩:=h2;exact RcAt.int_str _ _ _ _
  | tup es=>
   obtain⟨p2,ys,jts,rfl,hq2,v2,hp2,r2⟩:=h2;exact RcAt.int_tuple _ _ hp2 hu
  | lst es=>
   obtain⟨p2,ys,jts,rfl,hq2,v2,hp2,r2⟩:=h2;exact RcAt.int_list _ _ hp2 hu
 | str a=>
  obtain⟨t1,rfl⟩:=h1;cases e with
  | non=>
   cases h2;exact RcAt.str_none _ _
  | bl b=>
   cases h2;exact RcAt.str_bool _ _ _
  | int b=>
   obtain⟨t2,rfl⟩:=h2;exact RcAt.str_int _ _ _ _
  | str b=>
   obtain⟨t2,rfl⟩:=h2;exact RcAt.str_str _ _ _ _
  | tup es=>
   obtain⟨p2,ys,jts,rfl,hq2,v2,hp2,r2⟩:=h2;exact RcAt.str_tuple _ _ hp2 hu
  | lst es=>
   obtain⟨p2,ys,jts,rfl,hq2,v2,hp2,r2⟩:=h2;exact RcAt.str_list _ _ hp2 hu
 | tup ds=>
  obtain⟨p1,xs,its,rfl,hq1,v1,hp1,r1⟩:=h1;cases e with
  | non=>
   cases h2;exact RcAt.tuple_none hp1 hu
  | bl b=>
   cases h2;exact RcAt.tuple_bool _ hp1 hu
  | int b=>
   obtain⟨t2,rfl⟩:=h2;exact RcAt.tuple_int _ _ hp1 hu
  | str b=>
   obtain⟨t2,rfl⟩:=h2;exact RcAt.tuple_str _ _ hp1 hu
  | tup es=>
   obtain⟨p2,ys,jts,rfl,hq2,v2,hp2,r2⟩:=h2;have q:=RcAt.tuples hp1 hp2 hu (m8 r1 r2 v1 v2 ih);simp only[z1c] at q;rw[zL (r1.length.trans v1.length) (r2.length.trans v2.length)] at q;rw[gw];exact q
  | lst es=>
   obtain⟨p2,ys,jts,rfl,hq2,v2,hp2,r2⟩:=h2;exact RcAt.tuple_list hp1 hp2 hu
 | lst ds=>
  obtain⟨p1,xs,its,rfl,hq1,v1,hp1,r1⟩:=h1;cases e with
  | non=>
   cases h2;exact RcAt.list_none hp1 hu
  | bl b=>
   cases h2;exact RcAt.list_bool _ hp1 hu
  | int b=>
   obtain⟨t2,rfl⟩:=h2;exact RcAt.list_int _ _ hp1 hu
  | str b=>
   obtain⟨t2,rfl⟩:=h2;exact RcAt.list_str _ _ hp1 hu
  | tup es=>
   obtain⟨p2,ys,jts,rfl,hq2,v2,hp2,r2⟩:=h2;exact RcAt.list_tuple hp1 hp2 hu
  | lst es=>
   obtain⟨p2,ys,jts,rfl,hq2,v2,hp2,r2⟩:=h2;by_cases hz:ds.length=es.length
   ·have q:=RcAt.lists hp1 hp2 (by simp only[z1c];rw[<-v1.length,<-v2.length,<-r1.length,<-r2.length];exact hz) hu (m8 r1 r2 v1 v2 ih);rw[z1c,<-v1.length,<-r1.length,<-qH hz] at q;rw[dY];exact q
   ·rw[dY,qG hz];exact RcAt.lists_lengths hp1 hp2 (by simp only[z1c];rw[<-v1.length,<-v2.length,<-r1.length,<-r2.length];simpa using hz) hu
theorem VG (I:Inv X pins σ H s) (hu:A.units < cLine) {e:D} (h1:Lk X O H s d u) (h2:Lk X O' H s e u')
  (ih:∀c∈(match d with | .tup ds=>ds | .lst ds=>ds |_=>[]),∀(e:D) (v w:V) (u u':Value),Rep X.K O H c v->Rep X.K O' H e w->RelV v u->RelV w u'->EqAt A.in1 s u u' (cP c e)):RcNeAt A s u u' (!cP d e):=by
 cases d with
 | non=>
  cases h1;cases e with
  | non=>
   cases h2;exact RcNeAt.none_none
  | bl b=>
   cases h2;exact RcNeAt.none_bool _
  | int b=>
   obtain⟨t2,rfl⟩:=h2;exact RcNeAt.none_int _ _
  | str b=>
   obtain⟨t2,rfl⟩:=h2;exact RcNeAt.none_str _ _
  | tup es=>
   obtain⟨p2,ys,jts,rfl,hq2,v2,hp2,r2⟩:=h2;exact RcNeAt.none_tuple hp2 hu
  | lst es=>
   obtain⟨p2,ys,jts,rfl,hq2,v2,hp2,r2⟩:=h2;exact RcNeAt.none_list hp2 hu
 | bl a=>
  cases h1;cases e with
  | non=>
   cases h2;exact RcNeAt.bool_none _
  | bl b=>
   cases h2;exact RcNeAt.bool_bool _ _
  | int b=>
   obtain⟨t2,rfl⟩:=h2;exact RcNeAt.bool_int _ _ _
  | str b=>
   obtain⟨t2,rfl⟩:=h2;exact RcNeAt.bool_str _ _ _
  | tup es=>
   obtain⟨p2,ys,jts,rfl,hq2,v2,hp2,r2⟩:=h2;exact RcNeAt.bool_tuple _ hp2 hu
  | lst es=>
   obtain⟨p2,ys,jts,rfl,hq2,v2,hp2,r2⟩:=h2;exact RcNeAt.bool_list _ hp2 hu
 | int a=>
  obtain⟨t1,rfl⟩:=h1;cases e with
  | non=>
   cases h2;exact RcNeAt.int_none _ _
  | bl b=>
   cases h2;exact RcNeAt.int_bool _ _ _
  | int b=>
   obtain⟨t2,rfl⟩:=h2;exact RcNeAt.int_int _ _ _ _
  | str b=>
   obtain⟨t2,rfl⟩:=h2;exact RcNeAt.int_str _ _ _ _
  | tup es=>
   obtain⟨p2,ys,jts,rfl,hq2,v2,hp2,r2⟩:=h2;exact RcNeAt.int_tuple _ _ hp2 hu
  | lst es=>
   obtain⟨p2,ys,jts,rfl,hq2,v2,hp2,r2⟩:=h2;exact RcNeAt.int_list _ _ hp2 hu
 | str a=>
  obtain⟨t1,rfl⟩:=h1;cases e with
  | non=>
   cases h2;exact RcNeAt.str_none _ _
  | bl b=>
   cases h2;exact RcNeAt.str_bool _ _ _
  | int b=>
   obtain⟨t2,rfl⟩:=h2;exact RcNeAt.str_int _ _ _ _
  | str b=>
   obtain⟨t2,rfl⟩:=h2;exact RcNeAt.str_str _ _ _ _
  | tup es=>
   obtain⟨p2,ys,jts,rfl,hq2,v2,hp2,r2⟩:=h2;exact RcNeAt.str_tuple _ _ hp2 hu
  | lst es=>
   obtain⟨p2,ys,jts,rfl,hq2,v2,hp2,r2⟩:=h2;exact RcNeAt.str_list _ _ hp2 hu
 | tup ds=>
  obtain⟨p1,xs,its,rfl,hq1,v1,hp1,r1⟩:=h1;cases e with
  | non=>
   cases h2;exact RcNeAt.tuple_none hp1 hu
  | bl b=>
   cases h2;exact RcNeAt.tuple_bool _ hp1 hu
  | int b=>
   obtain⟨t2,rfl⟩:=h2;exact RcNeAt.tuple_int _ _ hp1 hu
  | str b=>
   obtain⟨t2,rfl⟩:=h2;exact RcNeAt.tuple_str _ _ hp1 hu
  | tup es=>
   obtain⟨p2,ys,jts,rfl,hq2,v2,hp2,r2⟩:=h2;have q:=RcNeAt.tuples hp1 hp2 hu (m8 r1 r2 v1 v2 ih);simp only[z1c] at q;rw[zL (r1.length.trans v1.length) (r2.length.trans v2.length)] at q;rw[gw];exact q
  | lst es=>
   obtain⟨p2,ys,jts,rfl,hq2,v2,hp2,r2⟩:=h2;exact RcNeAt.tuple_list hp1 hp2 hu
 | lst ds=>
  obtain⟨p1,xs,its,rfl,hq1,v1,hp1,r1⟩:=h1;cases e with
  | non=>
   cases h2;exact RcNeAt.list_none hp1 hu
  | bl b=>
   cases h2;exact RcNeAt.list_bool _ hp1 hu
  | int b=>
   obtain⟨t2,rfl⟩:=h2;exact RcNeAt.list_int _ _ hp1 hu
  | str b=>
   obtain⟨t2,rfl⟩:=h2;exact RcNeAt.list_str _ _ hp1 hu
  | tup es=>
   obtain⟨p2,ys,jts,rfl,hq2,v2,hp2,r2⟩:=h2;exact RcNeAt.list_tuple hp1 hp2 hu
  | lst es=>
   obtain⟨p2,ys,jts,rfl,hq2,v2,hp2,r2⟩:=h2;by_cases hz:ds.length=es.length
   ·have q:=RcNeAt.lists hp1 hp2 (by simp only[z1c];rw[<-v1.length,<-v2.length,<-r1.length,<-r2.length];exact hz) hu (m8 r1 r2 v1 v2 ih);rw[z1c,<-v1.length,<-r1.length,<-qH hz] at q;rw[dY];exact q
   ·rw[dY,qG hz];exact RcNeAt.lists_lengths hp1 hp2 (by simp only[z1c];rw[<-v1.length,<-v2.length,<-r1.length,<-r2.length];simpa using hz) hu
theorem zM (I:Inv X pins σ H s):∀(n:Nat) (A:Around) (d:D),dep d<=n->A.units+n < cLine->∀(e:D) (v w:V) (u u':Value),Rep X.K O H d v->Rep X.K O' H e w->RelV v u->RelV w u'->EqAt A s u u' (cP d e):=by
 intro n
 induction n with
 | zero=>
  intro A d hd hu e v w u u' r1 r2 q1 q2;refine Iv I (by omega) (rN I r1 q1) (rN I r2 q2) λ c hc=>?_;cases d with
  |tup ds=>rw[dep] at hd;omega
  |lst ds=>rw[dep] at hd;omega
  |_=>simp at hc
 | succ n ihn=>
  intro A d hd hu e v w u u' r1 r2 q1 q2;refine Iv I (by omega) (rN I r1 q1) (rN I r2 q2) λ c hc=>?_;have hc':dep c<=n:=by
   cases d with
   |tup ds=>rw[dep] at hd;have:=m7 (ds:=ds) hc;omega
   |lst ds=>rw[dep] at hd;have:=m7 (ds:=ds) hc;omega
   |_=>simp at hc
  exact ihn A.in1 c hc' (by show A.units+1+n < cLine;omega)
end
def lY (d e:D):R D:=if dep d<=40 then .ok (.bl (cP d e)) else .bad
def tW (d e:D):R D:=if dep d<=40 then .ok (.bl (!cP d e)) else .bad
section
variable {X:Cx}
theorem aaO (hu:X.A.units+60 < cLine):OpR X (compareOp .Eq) (λ x y H Q=>∃O O' d e,Rep X.K O H d x/\Rep X.K O' H e y/\dep d<=40/\Q (.bl (cP d e)) H):=by
 intro pins s σ H x y v u Q I rx ry h;obtain⟨O,O',d,e,r1,r2,hd,q⟩:=h;refine VF I (show X.A.units < cLine by omega) (rN I r1 rx) (rN I r2 ry) (λ c hc=>?_) X.prog X.w X.xe _ ⟨.bl _,H,I,rfl,q⟩;have hc':dep c<=40:=by
  cases d with
  |tup ds=>rw[dep] at hd;have:=m7 (ds:=ds) hc;omega
  |lst ds=>rw[dep] at hd;have:=m7 (ds:=ds) hc;omega
  |_=>simp at hc
 exact zM I 40 X.A.in1 c hc' (by show X.A.units+1+40 < cLine;omega)
theorem aaP (hu:X.A.units+60 < cLine):OpR X (compareOp .NotEq) (λ x y H Q=>∃O O' d e,Rep X.K O H d x/\Rep X.K O' H e y/\dep d<=40/\Q (.bl (!cP d e)) H):=by
 intro pins s σ H x y v u Q I rx ry h;obtain⟨O,O',d,e,r1,r2,hd,q⟩:=h;refine VG I (show X.A.units < cLine by omega) (rN I r1 rx) (rN I r2 ry) (λ c hc=>?_) X.prog X.w X.xe _ ⟨.bl _,H,I,rfl,q⟩;have hc':dep c<=40:=by
  cases d with
  |tup ds=>rw[dep] at hd;have:=m7 (ds:=ds) hc;omega
  |lst ds=>rw[dep] at hd;have:=m7 (ds:=ds) hc;omega
  |_=>simp at hc
 exact zM I 40 X.A.in1 c hc' (by show X.A.units+1+40 < cLine;omega)
theorem uM (hu:X.A.units+60 < cLine):iY X (compareOp .Eq) lY:=by
 refine⟨_,aaO hu,λ ρ O σ H Q x y dx dy j rx ry h=>?_⟩;unfold lY at h;by_cases hd:dep dx<=40
 ·rw[if_pos hd] at h;exact⟨O,O,dx,dy,rx,ry,hd,fin h (gb _)⟩
 ·rw[if_neg hd] at h;exact h.elim
theorem Ba (hu:X.A.units+60 < cLine):iY X (compareOp .NotEq) tW:=by
 refine⟨_,aaP hu,λ ρ O σ H Q x y dx dy j rx ry h=>?_⟩;unfold tW at h;by_cases hd:dep dx<=40
 ·rw[if_pos hd] at h;exact⟨O,O,dx,dy,rx,ry,hd,fin h (gb _)⟩
 ·rw[if_neg hd] at h;exact h.elim
end
end Pu
namespace Pu
open PySem PySem.Spec L2
open PyProof.Rows hiding St
section
variable {prog:Program} {w:World} {A:Around} {E:Value->Shared->Prop} {s:Shared}
end
section
variable {X:Cx} {e:Expr} {te:TE} {pos p2 p3 p4:Pos} {j:Nat} {f:ao->R D}
theorem Vals.rev {xs:List V} {us:List Value} (h:Vals xs us):Vals xs.reverse us.reverse:=by
 induction h with
 |nil=>exact .nil
 | cons r _ ih=>
  simp only[List.reverse_cons];exact ih.append (.cons r .nil)
def adM:D->R D
 | .tup ds=> .ok (.tup ds.reverse)
 |_=> .bad
def eE:D->D->R D
 | .int i,.int j=> .ok (.int (i+j))
 | .tup xs,.tup ys=>if 0 < xs.length/\xs.length+ys.length<=1000000 then .ok (.tup (xs++ys)) else .bad
 |_,_=> .bad
theorem jd:iY X (binaryOp .Add) eE:=by
 refine⟨_,OpR.or op_add op_catT,λ ρ O σ H Q x y dx dy j0 rx ry h=>?_⟩;cases dx <;> cases dy <;> first
  |exact h.elim
  |skip
 ·rename_i i j;exact .inl ⟨i,j,rx.int,ry.int,fin h (bY _)⟩
 ·rename_i xs ys;have h:good X (rD X) O (if 0 < xs.length/\xs.length+ys.length<=1000000 then .ok (.tup (xs++ys)) else .bad) σ H Q:=h;by_cases hc:0 < xs.length/\xs.length+ys.length<=1000000
  ·rw[if_pos hc] at h;obtain⟨a,us,rfl,ha,r1⟩:=rx.tup;obtain⟨b,ws,rfl,hb,r2⟩:=ry.tup;refine .inr ⟨a,b,us,ws,rfl,rfl,ha,hb,λ z=>?_,?_,λ z=>?_,λ z l hl=>?_⟩
   ·have h1:=r1.length;have h2:=hc.1;rw[z] at h1;rw[h1] at h2;exact Nat.lt_irrefl _ h2
   ·rw[<-r1.length,<-r2.length];exact z0b hc.2 eO
   ·subst z;have:ys=[]:=List.eq_nil_of_length_eq_zero r2.length;subst this;rw[List.append_nil] at h;exact fin h (f9 ha r1)
   ·exact h _ _ (Same.upd hl) (Rep.pW hl (r1.append r2))
  ·rw[if_neg hc] at h;exact h.elim
end
section
variable {K:PySem.W.Frag} {O:Addr->Prop} {H:Hp}
end
section
variable {X:Cx} {e e1 e2:Expr} {f g:ao->R D} {pos:Pos}
end
end Pu
namespace Pu
open PySem PySem.W PyProof.Rows
variable {p:Array Nat}
def Sat {α:Type} (n:Nat) (lt:Nat->Nat->Bool):KasT α->(α->Prop)->Prop
 | .ret a,Q=>Q a
 | .ask i j k,Q=>i < n/\j < n/\Sat n lt (k (lt i j)) Q
section
variable {n:Nat} {lt:Nat->Nat->Bool}
theorem Sat.bind {α β:Type} {f:α->KasT β} {Q:β->Prop}:∀{t:KasT α},Sat n lt t (λ a=>Sat n lt (f a) Q)->Sat n lt (t.bind f) Q
 | .ret _,h=>h
 | .ask i j k,h=>⟨h.1,h.2.1,Sat.bind h.2.2⟩
theorem Sat.mono {α:Type} {Q Q':α->Prop} (w:∀a,Q a->Q' a):∀{t:KasT α},Sat n lt t Q->Sat n lt t Q'
 | .ret _,h=>w _ h
 | .ask _ _ _,h=>⟨h.1,h.2.1,Sat.mono w h.2.2⟩
theorem Sat.wp {α:Type} {cmp:Nat->Nat->(Bool->Shared->Prop)->Shared->Prop} {s:Shared} {P:α->Prop} {Q:α->Shared->Prop} (hc:∀i j C,i < n->j < n->C (lt i j) s->cmp i j C s) (hQ:∀a,P a->Q a s):
  ∀{t:KasT α},Sat n lt t P->t.kasWp cmp Q s
 | .ret _,h=>hQ _ h
 | .ask i j k,h=>hc i j _ h.1 h.2.1 (Sat.wp hc hQ h.2.2)
structure Ord (n:Nat) (lt:Nat->Nat->Bool):Prop where
 tr:∀a b c,a < n->b < n->c < n->lt a b=true->lt b c=true->lt a c=true
 tot:∀a b,a < n->b < n->a≠b->lt a b=false->lt b a=true
structure Pm (n:Nat) (p:Array Nat):Prop where
 size:p.size=n
 perm:p.toList.Perm (List.range n)
theorem Pm.bd (h:Pm n p) {i:Nat} (hi:i < n):p.getD i 0 < n:=by
 have hs:i < p.size:=by rw[h.size];exact hi
 have:p.getD i 0=p[i]:=by simp[Array.getD,hs]
 rw[this];have hm:p[i]∈p.toList:=by simp
 exact z2e (h.perm.mem_iff.mp hm)
theorem Pm.ne (h:Pm n p) {i j:Nat} (hi:i < n) (hj:j < n) (hij:i≠j):p.getD i 0≠p.getD j 0:=by
 have hs:i < p.size:=by rw[h.size];exact hi
 have hs2:j < p.size:=by rw[h.size];exact hj
 have e1:p.getD i 0=p.toList[i]'(by simpa using hs):=by simp[Array.getD,hs]
 have e2:p.getD j 0=p.toList[j]'(by simpa using hs2):=by simp[Array.getD,hs2]
 rw[e1,e2];have nd:p.toList.Nodup:=h.perm.nodup_iff.mpr List.nodup_range;intro z;exact hij ((List.getElem_inj nd).mp z)
theorem Pm.of {q:Array Nat} (h:Pm n p) (w:q.Perm p):Pm n q:=
 ⟨by rw[<-h.size];exact w.size_eq,(Array.perm_iff_toList_perm.mp w).trans h.perm⟩
def S (lt:Nat->Nat->Bool) (p:Array Nat) (k:Nat):Prop:=∀i j,i < j->j < k->lt (p.getD i 0) (p.getD j 0)=true
def De (lt:Nat->Nat->Bool) (p:Array Nat) (k:Nat):Prop:=∀i j,i < j->j < k->lt (p.getD j 0) (p.getD i 0)=true
theorem S.one:S lt p 1:=λ i j h1 h2=>by omega
theorem S.ext (o:Ord n lt) (h:Pm n p) {a:Nat} (ha:1<=a) (hn:a < n) (s:S lt p a) (e:lt (p.getD (a - 1) 0) (p.getD a 0)=true):S lt p (a+1):=λ i j h1 h2=>by
 by_cases hj:j < a
 ·exact s i j h1 hj
 ·have ej:j=a:=by omega
  subst ej;by_cases hi:i=j - 1
  ·rw[hi];exact e
  ·exact o.tr _ _ _ (h.bd (by omega)) (h.bd (by omega)) (h.bd hn) (s i (j - 1) (by omega) (by omega)) e
theorem De.ext (o:Ord n lt) (h:Pm n p) {a:Nat} (ha:1<=a) (hn:a < n) (s:De lt p a) (e:lt (p.getD a 0) (p.getD (a - 1) 0)=true):De lt p (a+1):=λ i j h1 h2=>by
 by_cases hj:j < a
 ·exact s i j h1 hj
 ·have ej:j=a:=by omega
  subst ej;by_cases hi:i=j - 1
  ·rw[hi];exact e
  ·exact o.tr _ _ _ (h.bd hn) (h.bd (by omega)) (h.bd (by omega)) e (s i (j - 1) (by omega) (by omega))
theorem Dc (o:Ord n lt) {p:Array Nat} (h:Pm n p):∀(f a:Nat),1<=a->a+f<=n->S lt p a->Sat n lt (kas_asc p f a) (λ m=>a<=m/\m<=a+f/\S lt p m/\(m < a+f->lt (p.getD m 0) (p.getD (m - 1) 0)=true))
 |0,a,h1,h2,s=>⟨z0g _,z0g _,s,λ z=>absurd z (by omega)⟩
 | f +1,a,h1,h2,s=>by
  refine⟨h.bd (by omega),h.bd (by omega),?_⟩;cases e:lt (p.getD a 0) (p.getD (a - 1) 0) with
  |true=>exact⟨z0g _,by omega,s,λ _=>e⟩
  | false=>
   have e':=o.tot _ _ (h.bd (by omega)) (h.bd (by omega)) (h.ne (i:=a) (j:=a - 1) (by omega) (by omega) (by omega)) e;show Sat n lt (kas_asc p f (a+1)) _;refine Sat.mono (λ m ⟨m1,m2,m3,m4⟩=>⟨by omega,by omega,m3,λ z=>m4 (by omega)⟩) (Dc o h f (a+1) (by omega) (by omega) (S.ext o h h1 (by omega) s e'))
theorem Iw (o:Ord n lt) {p:Array Nat} (h:Pm n p):∀(f a:Nat),1<=a->a+f<=n->De lt p a->Sat n lt (kas_desc f p a 0) (λ r=>r.1=p/\r.2.2=0/\a<=r.2.1/\r.2.1<=a+f/\De lt p r.2.1)
 |0,a,h1,h2,s=>⟨rfl,rfl,z0g _,z0g _,s⟩
 | f +1,a,h1,h2,s=>by
  refine⟨h.bd (by omega),h.bd (by omega),?_⟩;cases e:lt (p.getD a 0) (p.getD (a - 1) 0) with
  | true=>
   show Sat n lt (kas_desc f p (a+1) 0) _;exact Sat.mono (λ r ⟨m1,m2,m3,m4,m5⟩=>⟨m1,m2,by omega,by omega,m5⟩) (Iw o h f (a+1) (by omega) (by omega) (De.ext o h h1 (by omega) s e))
  | false=>
   have e':=o.tot _ _ (h.bd (by omega)) (h.bd (by omega)) (h.ne (i:=a) (j:=a - 1) (by omega) (by omega) (by omega)) e;refine⟨h.bd (by omega),h.bd (by omega),?_⟩;rw[e'];exact⟨rfl,rfl,z0g _,Nat.le_add_right _ _,s⟩
theorem yD {q:Array Nat} {i j:Nat} (h:p[i]?=q[j]?):p.getD i 0=q.getD j 0:=by
 rw[Array.getD_eq_getD_getElem?,Array.getD_eq_getD_getElem?,h]
theorem RT (o:Ord n lt) (h:Pm n p) {m:Nat} (h1:1<=m) (h2:m<=n) (s:De lt p m):Sat n lt (kas_tail3 m n p) (λ r=>Pm n r.2/\1<=r.1/\r.1<=n/\S lt r.2 r.1):=by
 have hq:Pm n (kas_rev p 0 m):=h.of (mirror_perm _ _ _ _);have hs:S lt (kas_rev p 0 m) m:=λ i j hij hj=>by
  have g:∀k,k < m->(kas_rev p 0 m).getD k 0=p.getD (m - 1 - k) 0:=λ k hk=>by
   apply yD;show (mirror p 0 m ((m - 0) / 2))[k]?=_;rw[getElem?_mirror_all (by rw[h.size];exact h2),if_pos ⟨by omega,hk⟩];congr 1;omega
  rw[g i (by omega),g j hj];exact s (m - 1 - j) (m - 1 - i) (by omega) (by omega)
 exact Sat.bind (Sat.mono (λ k ⟨k1,k2,k3,_⟩=>⟨hq,by omega,by omega,k3⟩) (Dc o hq (n - m) m h1 (by omega) hs))
theorem RV (o:Ord n lt) (h:Pm n p) (hn:1<=n):Sat n lt (kas_count n p) (λ r=>Pm n r.2/\1<=r.1/\r.1<=n/\S lt r.2 r.1):=by
 refine Sat.bind (Sat.mono (λ m ⟨m1,m2,m3,m4⟩=>?_) (Dc o h (n - 1) 1 (z0g _) (by omega) S.one));by_cases e:m=n
 ·rw[if_pos (by simp[e])];exact⟨h,m1,by omega,m3⟩
 ·rw[if_neg (by simp[e])];by_cases hm:m > 1
  ·rw[if_pos hm];refine⟨h.bd (by omega),h.bd (by omega),?_⟩;rw[m3 0 (m - 1) (by omega) (by omega)];exact⟨h,m1,by omega,m3⟩
  ·rw[if_neg hm];have em:m=1:=by omega
   subst em;have e0:=m4 (by omega);have d2:De lt p 2:=De.ext o h (a:=1) (z0g _) (by omega) (λ i j a1 a2=>by omega) e0;refine Sat.bind (Sat.mono (λ r ⟨r1,r2,r3,r4,r5⟩=>?_) (Iw o h (n - (1+1)) (1+1) (by omega) (by omega) d2));rw[if_neg (by omega),r1];exact RT o h (by omega) (by omega) r5
theorem wA (o:Ord n lt) {p:Array Nat} (h:Pm n p) {k:Nat} (hk:k < n) (s:S lt p k):∀(f l r:Nat),l<=r->r<=k->r - l<=f->(∀i,i < l->lt (p.getD i 0) (p.getD k 0)=true)->(∀i,r<=i->i < k->lt (p.getD k 0) (p.getD i 0)=true)->
  Sat n lt (kas_place p k f l r) (λ m=>m<=k/\(∀i,i < m->lt (p.getD i 0) (p.getD k 0)=true)/\∀i,m<=i->i < k->lt (p.getD k 0) (p.getD i 0)=true)
 |0,l,r,h1,h2,h3,hl,hr=>⟨by omega,hl,λ i a b=>hr i (by omega) b⟩
 | f + 1,l,r,h1,h2,h3,hl,hr=>by
  unfold kas_place;by_cases hlr:l>=r
  ·rw[if_pos hlr];exact⟨by omega,hl,λ i a b=>hr i (by omega) b⟩
  ·rw[if_neg hlr];have hm:(l+r) / 2 < k:=by omega
   refine⟨h.bd hk,h.bd (by omega),?_⟩;cases e:lt (p.getD k 0) (p.getD ((l+r) / 2) 0) with
   | true=>
    refine wA o h hk s f l ((l+r) / 2) (by omega) (by omega) (by omega) hl λ i a b=>?_;by_cases hi:i=(l+r) / 2
    ·rw[hi];exact e
    ·exact o.tr _ _ _ (h.bd hk) (h.bd (by omega)) (h.bd (by omega)) e (s _ _ (by omega) b)
   | false=>
    have e':=o.tot _ _ (h.bd hk) (h.bd (by omega)) (h.ne (i:=k) (j:=(l+r) / 2) hk (by omega) (by omega)) e;refine wA o h hk s f ((l+r) / 2+1) r (by omega) h2 (by omega) (λ i a=>?_) hr;by_cases hi:i=(l+r) / 2
    ·rw[hi];exact e'
    ·exact o.tr _ _ _ (h.bd (by omega)) (h.bd (by omega)) (h.bd hk) (s i ((l+r) / 2) (by omega) hm) e'
theorem Ni (o:Ord n lt):∀(f:Nat) (p:Array Nat) (k:Nat),Pm n p->S lt p k->k+f<=n->Sat n lt (kas_bin f p k) (λ q=>Pm n q/\S lt q (k+f))
 |0,p,k,h,s,_=>⟨h,s⟩
 | f + 1, p, k,h,s,hk=>by
  refine Sat.bind (Sat.mono (λ l ⟨l1,l2,l3⟩=>?_) (wA o h (by omega) s k 0 k (Nat.zero_le _) (z0g _) (by omega) (λ i a=>by omega) λ i a b=>by omega));have hq:Pm n (bubble p k (k - l)):=h.of (bubble_perm _ _ _);have g:∀i,(bubble p k (k - l)).getD i 0=if i=l then p.getD k 0 else if l < i/\i<=k then p.getD (i - 1) 0 else p.getD i 0:=λ i=>by
   have e:=getElem?_bubble (xs:=p) (src:=k) (by rw[h.size];omega) (k - l) (by omega) i;rw[show k - (k - l)=l by omega] at e;by_cases c1:i=l
   ·rw[if_pos c1] at e |-;exact yD e
   ·rw[if_neg c1] at e |-;by_cases c2:l < i/\i<=k
    ·rw[if_pos c2] at e |-;exact yD e
    ·rw[if_neg c2] at e |-;exact yD e
  have hs : S lt (bubble p k (k - l)) (k+1):=λ i j hij hj=>by
   rw[g i,g j];by_cases c1:i=l
   ·rw[if_pos c1,if_neg (by omega),if_pos ⟨by omega,by omega⟩];exact l3 (j - 1) (by omega) (by omega)
   ·rw [if_neg c1];by_cases c2:l < i/\i<=k
    ·rw[if_pos c2,if_neg (by omega),if_pos ⟨by omega,by omega⟩];exact s (i - 1) (j - 1) (by omega) (by omega)
    ·rw [if_neg c2];have hil:i < l:=by omega
     by_cases c3:j=l
     ·rw[if_pos c3];exact l2 i hil
     ·rw[if_neg c3];by_cases c4:l < j/\j<=k
      ·rw[if_pos c4];by_cases c5:i=j - 1
       ·omega
       ·exact s i (j - 1) (by omega) (by omega)
      ·rw[if_neg c4];exact s i j hij (by omega)
  have:=Ni o f (bubble p k (k - l)) (k+1) hq hs (by omega);exact Sat.mono (λ q ⟨q1,q2⟩=>⟨q1,by rw[show k+(f+1)=k+1+f by omega];exact q2⟩) this
theorem VH (o:Ord n lt) (hn:1<=n):Sat n lt (kas_sort n) (λ q=>Pm n q/\S lt q n):=by
 have h0:Pm n (List.toArray (List.range n)):=⟨by simp,by simp⟩;refine Sat.bind (Sat.mono (λ r ⟨r1,r2,r3,r4⟩=>?_) (RV o h0 hn));by_cases hr:r.1 < n
 ·rw[if_pos hr];have e:max r.1 1=r.1:=by omega
  rw[e];refine Sat.mono (λ q ⟨q1,q2⟩=>⟨q1,?_⟩) (Ni o (n - r.1) r.2 r.1 r1 r4 (by omega));rw[show r.1+(n - r.1)=n by omega] at q2;exact q2
 ·rw[if_neg hr];have e:r.1=n:=by omega
  rw[e] at r4;exact⟨r1,r4⟩
end
end Pu
namespace Pu
open PySem PySem.Spec PySem.W L2
open PyProof.Rows hiding St
variable {vs:List Value}
theorem Bb {h:Heap} {a b:Addr} {out:Array Value} {o:Obj} (hb:b≠a) (e:h.get? b=some o):(sortedHeap h a vs out).get? b=some o:=by
 unfold sortedHeap;rw[Heap.get?_update_ne _ _ _ _ hb];exact z1a _ (z1a _ (by rw[Heap.get?_update_ne _ _ _ _ hb];exact e))
theorem sortedHeap_at {h:Heap} {a:Addr} {out:Array Value} {n:Nat} (e:h.get? a=some (seqObj "list" vs.toArray n)):∃c,(sortedHeap h a vs out).get? a=some (seqObj "list" out c):=by
 unfold sortedHeap;have h1:=get?_update_seq e (λ _=>(#[]:Array Value));exact⟨_,get?_update_seq (z1a _ (z1a _ h1)) λ _=>out⟩
theorem RW (vs:List Value) (h:vs.length < 2):(vs.toArray.zip vs.toArray).map (·.2)=List.toArray ((List.toArray (List.range vs.length)).toList.map λ i=>vs.getD i Value.none):=by
 match vs,h with
 |[],_=>simp
 |[v],_=>simp[List.range_succ]
 |_::_::_,h=>exact absurd h (by simp)
section
variable {prog:Program} {w:World} {A:Around} {E:Value->Shared->Prop} {s:Shared}
theorem YF {a:Addr} {n:Nat} {P:PySem.Fin->Shared->Prop} {lt:Nat->Nat->Bool} {kk:SortKind} (ho:s.heap.get? a=some (seqObj "list" vs.toArray n)) (h64:vs.length < 64) (od:Ord vs.length lt)
  (kind:2<=vs.length->∀h':Heap,(∀b ob,b≠a->s.heap.get? b=some ob->h'.get? b=some ob)->∀Q:SortKind->Shared->Prop,Q kk {s with heap:=h'}->wpAny (model prog w) A (keyKind' vs.toArray) Q (λ _ _=>False) {s with heap:=h'})
  (ask:∀h':Heap,(∀b ob,b≠a->s.heap.get? b=some ob->h'.get? b=some ob)->∀i j C,i < vs.length->j < vs.length->C (lt i j) {s with heap:=h'}->kas_ask prog w A kk vs i j C {s with heap:=h'})
  (h:∀q:Array Nat,Pm vs.length q->S lt q vs.length->P (.done (.ret .none)) {s with heap:=sortedHeap s.heap a vs (List.toArray (q.toList.map λ i=>vs.getD i Value.none))}):
  wpAny (model prog w) A (Builtin.«list.sort» ⟨[.ref a],[]⟩) P E s:=by
 rw[list_sort_plain];have ha:a < s.heap.objs.size:=z2c ho;refine wpAny_bind (listItems_at ho rfl ?_);refine wpAny_bind (listUpdate_at ho rfl ?_ (by rw[z1c,sizeLine_eq];omega) (Nat.zero_le _));obtain⟨e1,ho1⟩:∃e1,(s.heap.update a (Obj.mapSeq λ _=>(#[]:Array Value))).get? a=some (seqObj "list" #[] e1):=⟨_,get?_update_seq ho (λ _=> #[])⟩;refine wpAny_bind (seqEpoch_at ho1 rfl ?_);refine wpAny_bind (wpAny_newTuple ?_ (by show vs.length<=_;rw[sizeLine_eq];omega));refine wpAny_bind (wpAny_newList ?_ (Nat.zero_le _));refine wpAny_holding ?_
 generalize hh6:((s.heap.update a (Obj.mapSeq λ _=>(#[]:Array Value))).push (seqObj "tuple" vs.toArray 0)).push (seqObj "list" #[] 0)=h6
 have ho6:h6.get? a=some (seqObj "list" #[] e1):=by
  rw[<-hh6];exact z1a _ (z1a _ ho1)
 have keep:∀b ob,b≠a->s.heap.get? b=some ob->h6.get? b=some ob:=λ b ob hb e=>by
  rw[<-hh6];exact z1a _ (z1a _ (by rw[Heap.get?_update_ne _ _ _ _ hb];exact e))
 have hsh:∀out:Array Value,sortedHeap s.heap a vs out=h6.update a (Obj.mapSeq λ _=>out):=λ out=>by rw[<-hh6];rfl
 show wpAny (model prog w) A _ P E {s with heap:=h6}
 dsimp only
 have hsz:vs.toArray.size=vs.length:=by simp
 by_cases h2:vs.toArray.size < 2
 ·rw[if_pos h2,if_pos h2];refine wpAny_bind (wpAny_pure ?_);rw[StateT.run_pure];refine wpAny_bind (wpAny_pure ?_)
  dsimp only
  refine wpAny_bind (seqEpoch_at ho6 rfl ?_);refine wpAny_bind (listUpdate_at ho6 rfl ?_ (Nat.zero_le _) (by show (((pairsOf vs)).map (·.2)).size<=_;rw[Array.size_map,pairsOf_size,sizeLine_eq];omega));simp only[bne_self_eq_false,Bool.false_eq_true,if_false];have q:=h (List.toArray (List.range vs.length)) ⟨by simp,by simp⟩ (λ i j h1 h3=>by omega);rw[hsh] at q;have eo:(arrOf (SortSt.mk' general' (vs.toArray.zip vs.toArray) #[] 7 none)).map (·.2)=List.toArray ((List.toArray (List.range vs.length)).toList.map λ i=>vs.getD i Value.none):=by
   show (vs.toArray.zip vs.toArray).map (·.2)=_;exact RW vs (by rw[<-hsz];exact h2)
  refine wpAny_pure ?_;show P _ {s with heap:=h6.update a (Obj.mapSeq λ _=>(arrOf (SortSt.mk' general' (vs.toArray.zip vs.toArray) #[] 7 none)).map (·.2))};rw[eo];exact q
 ·rw[if_neg h2,if_neg h2];have h2':2<=vs.length:=by rw[hsz] at h2;omega
  refine wpAny_bind (wpAny_mono (kind h2' h6 keep (λ κ s'=>κ=kk/\s'={s with heap:=h6}) ⟨rfl,rfl⟩) (λ κ s0 hk=>?_) λ _ _ x=>x.elim);obtain⟨rfl,rfl⟩:=hk;have wp:(kas_sort vs.length).kasWp (kas_ask prog w A κ vs) (λ p s''=>(Pm vs.length p/\S lt p vs.length)/\s''={s with heap:=h6}) {s with heap:=h6}:=
   Sat.wp (ask h6 keep) (λ p hp=>⟨hp,rfl⟩) (VH od (by omega))
  refine wpAny_bind (wpAny_mono (kat_run (Q:=λ st' s'=>∃p:Array Nat,p.size=vs.length/\arrOf st'=p.map (kas_item (vs.toArray.zip vs.toArray))/\failedOf st'=none/\(Pm vs.length p/\S lt p vs.length)/\s'={s with heap:=h6})
   rfl h2' h64 (λ p' st' s' a1 a2 a3 a4=>⟨p',a1,a2,a3,a4⟩) wp) ?_ λ _ _ e=>e)
  rintro⟨⟨⟩,st'⟩ s' ⟨p,hp,har,hf,⟨hpm,hps⟩,rfl⟩
  dsimp only
  have hout:=kat_snds rfl har;rw[hout];refine wpAny_bind (seqEpoch_at ho6 rfl ?_);refine wpAny_bind (listUpdate_at ho6 rfl ?_ (Nat.zero_le _) (by show (List.toArray (p.toList.map λ i=>vs.getD i Value.none)).size<=_;rw[z1c,z1g,Array.length_toList,hp,sizeLine_eq];omega));rw[hf];simp only[bne_self_eq_false,Bool.false_eq_true,if_false];have q:=h p hpm hps;rw[hsh] at q;exact wpAny_pure q
end
section
variable {prog:Program} {w:World} {A:Around} {E:Value->Shared->Prop} {s:Shared}
end
section
variable {X:Cx} {pins:List (Addr×Obj)} {σ:St} {H:Hp} {s:Shared}
end
theorem Nj:∀as:List Addr,Vals (as.map V.ref) (as.map Value.ref)
 |[]=> .nil
 |a::as=> .cons rfl (Nj as)
section
variable {X:Cx}
end
section
variable {X:Cx}
end
end Pu
namespace Pu
open PySem PySem.Spec L2
open PyProof.Rows hiding St
section
variable {X:Cx} {a b:Expr} {es:List Expr} {f g:ao->R D} {fa:ao->R (List D)} {pos:Pos}
def Df (i k:Nat) (f g:ao->R D):ao->So:=λ ρ=>fQ (f ρ) ρ λ d=>fQ (g ρ) ρ λ e=> .nx ((ρ.set i (some (.val d))).set k (some (.val e)))
theorem RX (i k:Nat) {x y:Str} {px py pt:Pos} {kt k2 pt2} (hc:X.calm=true) (hN:X.N.Nodup) (ha:DE X a f) (hb:DE X b g) (hi:X.N[i]?=some x:=by rfl) (hk:X.N[k]?=some y:=by rfl) (hik:i≠k:=by decide)
  (hx:X.env.scope.names.lookup x=some .local:=by rfl) (hy:X.env.scope.names.lookup y=some .local:=by rfl)
  (h1:starEach [a,b] X.env=(false,eval a X.env)::starEach [b] X.env:=by rfl) (h2:starEach [b] X.env=(false,eval b X.env)::starEach [] X.env:=by rfl)
  (hw:swappedStores [.Tuple [.Name x px,.Name y py] kt pt] (.Tuple [a,b] k2 pt2) X.env=pure (some [x,y]):=by rfl)
  (hs:swapsWithSole [.Tuple [.Name x px,.Name y py] kt pt] (.Tuple [a,b] k2 pt2) pos.line X.env=pure false:=by rfl):
  DS X (.Assign [.Tuple [.Name x px,.Name y py] kt pt] (.Tuple [a,b] k2 pt2) pos) (Df i k f g):=by
 refine PS.imp (ps_par hc hN hi hk hik hx hy (pa_cons ha (pa_cons hb pa_nil h2) h1) hw hs) λ σ H E h=>?_;obtain⟨H0,O0,O,ρ,j,h⟩:=h;refine⟨ρ,O,j.inn,?_⟩;unfold Df fQ at h;cases e1:f ρ with
 |bad=>rw[e1] at h;exact h
 |err c=>rw[e1] at h;exact h σ H O j
 | ok d=>
  rw[e1] at h;intro v H1 s1 rv;have j1:=j.grow s1;refine⟨ρ,O,j1.inn,?_⟩;cases e2:g ρ with
  |bad=>simp only[e2] at h;exact h
  |err c=>simp only[e2] at h;exact Ar.same (h σ H O j) s1
  | ok e=>
   simp only[e2] at h;intro w H2 s2 rw2;refine⟨v,w,rfl,?_⟩;exact h _ H2 O (((j1.grow s2).set (z1b hi).1 (rv.same s2)).set (z1b hk).1 rw2) ((Same.dg s1).trans (Same.dg s2))
def Iz (i k:Nat) (f:ao->R D) (fa:ao->R (List D)):ao->So:=λ ρ=>fQ (f ρ) ρ λ d=>match fa ρ with
 | .ok ds=>if ds.length<=1000000 then .nx ((ρ.set i (some (.val d))).set k (some (.lst ds))) else .bad
 |_=> .bad
theorem YG (i k:Nat) {x y:Str} {px py pt p3:Pos} {kt k2 pt2} (hc:X.calm=true) (hN:X.N.Nodup) (ha:DE X a f) (hb:DA X es fa) (hi:X.N[i]?=some x:=by rfl) (hk:X.N[k]?=some y:=by rfl)
  (hx:Loc X.env.scope x:=by first |exact Or.inl rfl |exact Or.inr rfl) (hy:Loc X.env.scope y:=by first |exact Or.inl rfl |exact Or.inr rfl)
  (hfx:X.fn x=true\/X.env.scope.names.lookup x=some .local:=by first |exact .inl rfl |exact .inr rfl) (Az:X.fn y=true\/X.env.scope.names.lookup y=some .local:=by first |exact .inl rfl |exact .inr rfl)
  (h1:starEach [a,.List es p3] X.env=(false,eval a X.env)::starEach [.List es p3] X.env:=by rfl) (h2:starEach [.List es p3] X.env=(false,eval (.List es p3) X.env)::starEach [] X.env:=by rfl)
  (hs:swapsWithSole [.Tuple [.Name x px,.Name y py] kt pt] (.Tuple [a,.List es p3] k2 pt2) pos.line X.env=pure false:=by rfl) (hw:swappedStores [.Tuple [.Name x px,.Name y py] kt pt] (.Tuple [a,.List es p3] k2 pt2) X.env=pure none:=by rfl):
  DS X (.Assign [.Tuple [.Name x px,.Name y py] kt pt] (.Tuple [a,.List es p3] k2 pt2) pos) (Iz i k f fa):=by
 refine PS.imp (ps_asg (pe_tup (pa_cons ha (pa_cons (Ng hb) pa_nil h2) h1)) (pg_tup hc (pgs_cons (pg_name hN hi hx hfx) (pgs_cons (pg_name hN hk hy Az) pgs_nil))) hs hw) λ σ H E h=>?_;obtain⟨H0,O0,O,ρ,j,h⟩:=h;refine⟨ρ,O,j.inn,?_⟩;unfold Iz fQ at h;cases e1:f ρ with
 |bad=>rw[e1] at h;exact h
 |err c=>rw[e1] at h;exact h σ H O j
 | ok d=>
  rw[e1] at h;intro v H1 s1 rv;have j1:=j.grow s1;refine⟨ρ,O,j1.inn,?_⟩;cases e2:fa ρ with
  |bad=>simp only[e2] at h;exact h
  |err c=>simp only[e2] at h;exact h.elim
  | ok ds=>
   simp only[e2] at h;by_cases hl:ds.length<=1000000
   ·simp only[if_pos hl] at h;intro vs H2 s2 rvs;refine⟨by rw[<-rvs.length];exact z0b hl eO,λ p hp hpk=>?_⟩;refine⟨by show 2<=sizeLine;decide,λ t ht=>?_⟩;refine⟨t,[v,.ref p],rfl,SqT.of upd_same,rfl,v,[.ref p],rfl,.ref p,[],rfl,rfl,?_⟩;have j2:=(j1.grow s2).set (z1b hi).1 (rv.same s2);obtain⟨j3,r3⟩:=j2.own (z1b hk).1 (o:= .lst vs) (en:= .lst ds) hp hpk rfl ⟨p,vs,rfl,.inr rfl,upd_same,rvs.go ⟨(Same.dg (K:=X.K) (O:=O) (Same.upd hp)).ext,λ a z=>z.elim .inl λ e=> .inr (by rw[e];exact⟨hp,hpk⟩),(Same.dg (K:=X.K) (O:=O) (Same.upd hp)).dom⟩⟩;have s4:Same (upd H2 p (.lst vs)) (upd (upd H2 p (.lst vs)) t (.tup [v,.ref p])):=Same.upd ht;exact h _ _ _ (j3.grow s4) ((((Same.dg s1).trans (Same.dg s2)).trans r3).trans (Same.dg s4))
   ·simp only[if_neg hl] at h;exact h.elim
end
def yE (s:String):Bool:=s == "int" || s == "bool"
def uN (s:String):Bool:=s == "bool"
def fW (s:String):Bool:=s == "tuple"
def IK (s:String):Bool:=s == "list"
def aX (P:Program) (w:World) (K:PySem.W.Frag) (mg:Str->Option Value) (base:Heap) (k:Nat) (x:Str) (n:Nat) (F:List D->R D):Prop:=
 ∃f fd ps,FnOk P w K mg base CX0 k f fd ps (Ir K n F)/\mg x=some (.ref f)/\PySem.W.keepIn K (.ref f)=true/\Binds K fd ps []
theorem bx {X:Cx} {k n m:Nat} {F:List D->R D} {x:Str} {p pos:Pos} {e:Expr} {es:List Expr} {fa:ao->R (List D)} (G:aX X.prog X.w X.K X.mg X.base k x n F) (hr:Room m X.A) (hkm:k<=m) (ha:DA X (e::es) fa) (hg:Gl X x:=by rfl)
  (hdb:(x ==("__debug__" :Str))=false:=by decide) (he:starEach (e::es) X.env=(false,eval e X.env)::starEach es X.env:=by rfl) (hpl:(backTo pos (starEach es X.env)).any (·.1)=false:=by rfl):
  DE X (.Call (.Name x p) (e::es) [] pos) (aB (aV F n) fa):=by
 obtain⟨f,fd,ps,ok,hm,hk,hb⟩:=G;exact YC ok (hr.mono hkm) hg hm hk hb ha hdb he hpl
theorem iz {A:Around} {k:Nat} (hr:Room k A):A.units+60 < cLine:=by have:=hr.un;omega
theorem bQ {P:Program} {w:World} {K:PySem.W.Frag} {mg:Str->Option Value} {base:Heap} {x qual:Str} {st:Stmt} {f:Addr} {fd:FuncData} {N ps:List Str} {k n m:Nat} {g:ao->So} (Fn:Fun K x qual st f fd) (hmg:mg x=some (.ref f)) (hb:Binds K fd ps []) (S:FnScope N ps (defScope st)) (hn:ps.length=n) (hm:N.length=n+m)
  (hbody:∀(cdv:Value) (A:Around) (outer:List PySem.Env) (s:Shared) (H:Hp) (E:XK),Room k (A.deeper (envOfC qual (defScope st) s.heap.objs.size f cdv))->lW (cxOf CX0 P w K mg base N qual (defScope st) f cdv A outer s H E).nox (defBody st) g):
  aX P w K mg base (k+1) x n (cA m g):=⟨f,fd,ps,fnD Fn S hn hm hbody λ ds d _ e=>e,hmg,Fn.kp,hb⟩
theorem sp_law {K:PySem.W.Frag} {F:List D->R D} {H:Hp} {a:Addr} {ns:List Int} {E:XK} (hS:SqL K H a (ns.map V.int)) (hF:F [.lst (ns.map D.int)]= .ok (.bl true)):Ir K 1 F [.ref a] H (λ v _=>v= .bl true) E:=by
 refine⟨λ _=>False,[.lst (ns.map D.int)],.cons (lD hS (λ z=>z) ?_) .nil,rfl,λ a z=>z.elim,?_⟩
 ·have:∀l:List Int,aJ K (λ _=>False) H (l.map D.int) (l.map V.int):=by
   intro l
   induction l with
   |nil=>exact .nil
   |cons i l ih=>exact .cons (bY i) ih
  exact this ns
 ·rw[hF];exact λ v H' _ r=>r.bl
end Pu
namespace Pu
open PySem PySem.Spec L2
variable {d:D} {gt:D->ao->R ao} {i j:Int} {xs:List D} {ρ:ao} {α:Type}
theorem Nk {α:Type} {k:D->R (Option D)} {c h:α->D}:∀{l:List α},(∀a∈l,k (c a)= .ok (some (h a)))->jz k (l.map c)= .ok (l.map h)
 |[],_=>rfl
 | a::l,q=>by
  rw[z1h,jz,q a (by simp),tU,R.aR,Nk λ b hb=>q b (by simp[hb])];rfl
theorem Bc {α:Type} {c:α->Bool}:∀{l:List α},boolsOf (l.map λ a=> .bl (c a))=some (l.map c)
 |[]=>rfl
 | a::l=>by
  rw[z1h,boolsOf,Bc];rfl
theorem wB {α:Type} {c:α->Int}:∀{l:List α},intsOf (l.map λ a=> .int (c a))=some (l.map c)
 |[]=>rfl
 | a::l=>by
  rw[z1h,intsOf,wB];rfl
theorem p8 {α:Type} {c:α->D} {n:Nat}:∀{l:List α},(∀a∈l,dep (c a)<=n)->deps (l.map c)<=n
 |[],_=>by rw[List.map_nil,deps];omega
 | a::l,h=>by
  rw[z1h,deps];have:=h a (by simp);have:=p8 (l:=l) λ b hb=>h b (by simp[hb]);omega
theorem uO {e:D} (h:d=e) (hd:dep d<=40):tW d e= .ok (.bl false):=by
 subst h;rw[tW,if_pos hd,zK];rfl
theorem zN {e:D} (h:d=e) (hd:dep d<=40):lY d e= .ok (.bl true):=by
 subst h;rw[lY,if_pos hd,zK]
theorem all_true {l:List α}:(l.map λ _=>true).all id=true:=by
 induction l with
 |nil=>rfl
 |cons a l ih=>rw[z1h,List.all_cons,ih];rfl
theorem atI_nat {xs:List α} {j:Nat} (h:j < xs.length):atI xs (j:Int)=some xs[j]:=by
 unfold atI ixN;rw[if_pos (by omega),if_pos (by omega),Int.toNat_natCast,Option.bind_some,List.getElem?_eq_getElem h]
theorem Dg {xs:List α} (h0:0<=i) (h1:i < xs.length):∃x∈xs,atI xs i=some x:=by
 obtain⟨j,rfl⟩:=Int.eq_ofNat_of_zero_le h0;have hj:j < xs.length:=by omega
 exact⟨xs[j],List.getElem_mem hj,atI_nat hj⟩
theorem bL {n:Nat} {caps:List Nat} {fi:ao->R (List D)} {ft:ao->R Bool} {fe:ao->R D} {c h:α->D} {l:List α} (e1:fi ρ= .ok (l.map c)) (hl:l.length<=1000000)
  (e2:∀a∈l,m6 gt ft fe (yw n caps ρ) (c a)= .ok (some (h a))):bF n caps fi gt ft fe ρ= .ok (.lst (l.map h)):=by
 rw[bF,e1,R.aR,Nk e2,R.aR,cap,if_pos (by rw[z1g];exact hl)]
def look:List (Int×Int)->Int->Int
 |[],_=>0
 |(k,v)::r,c=>if k=c then v else look r c
abbrev keys (ps:List (Int×Int)):List Int:=ps.map (·.1)
section
variable {ρ ρ':ao} {f g:ao->R D} {fa:ao->R (List D)} {p q:ao->R Bool} {x y d:D} {xs ds:List D} {r:R D} {k:D->D->R D} {c:List D->R D} {n:Nat} {F:List D->R D} {o:So} {s t:ao->So} {gt:D->ao->R ao} {b:Bool}
theorem aO (e:fa ρ= .ok ds) (h:c ds=r):aB c fa ρ=r:=by rw[aB,e];exact h
theorem aY (e:fa ρ= .ok ds) (h:F ds= .ok d) (hl:ds.length=n:=by rfl):aB (aV F n) fa ρ= .ok d:=by rw[aB,e,R.aR,aV,if_pos hl,h];rfl
theorem aD (e1:f ρ= .ok x) (e2:fa ρ= .ok xs):ak f fa ρ= .ok (x::xs):=by rw[ak,e1,R.aR,e2];rfl
theorem aA (e:f ρ= .ok x):ak f (λ _=> .ok []) ρ= .ok [x]:=aD e rfl
theorem au (e1:f ρ= .ok x) (e2:g ρ= .ok y) (h:k x y=r):bin f g k ρ=r:=by rw[bin,e1,R.aR,e2];exact h
theorem wC (e1:f ρ= .ok (.bl true)) (e2:g ρ=r):sH f g ρ=r:=by rw[sH,e1];exact e2
theorem Bd {h:ao->R D} {l:D->D->R D} {z:D} (e1:f ρ= .ok x) (e2:g ρ= .ok y) (e3:k x y= .ok (.bl true)) (e4:h ρ= .ok z) (e5:l y z=r):Ax f g h k l ρ=r:=by
 rw[Ax,e1,R.aR,e2,R.aR,e3,R.aR];show (h ρ).bind _=_;rw[e4];exact e5
theorem gA (e:fa ρ= .ok ds) (h:ds.length<=1000000:=by exact Nat.le_of_ble_eq_true rfl):ig fa ρ= .ok (.tup ds):=by rw[ig,e,R.aR,cap,if_pos h]
theorem j9 (e:fa ρ= .ok ds) (h:ds.length<=1000000:=by exact Nat.le_of_ble_eq_true rfl):qu fa ρ= .ok (.lst ds):=by rw[qu,e,R.aR,cap,if_pos h]
theorem fB (e:f ρ= .ok (.tup ds)):d9 f ρ= .ok ds:=by rw[d9,e];rfl
theorem m9 (e:f ρ= .ok (.lst ds)):d9 f ρ= .ok ds:=by rw[d9,e];rfl
theorem gU {m:Nat} (e:fa ρ= .ok [.int (m:Int)]) (h:m < 2 ^ 62):(λ ρ=>(fa ρ).bind gJ) ρ= .ok ((List.range m).map λ (i:Nat)=>D.int (i:Int)):=by
 show (fa ρ).bind gJ=_;rw[e,R.aR,gJ,if_pos ⟨by have:(0:Int)<=m:=Int.natCast_nonneg m;omega,by omega⟩];simp[upto]
theorem bW {ρ1:ao} (e1:gt x ρ= .ok ρ1) (e2:f ρ1= .ok d):m6 gt (λ _=> .ok true) f ρ x= .ok (some d):=by
 rw[m6,e1,R.aR,R.aR,if_pos rfl,e2];rfl
theorem bf (e:f ρ= .ok (.bl b)):cI f ρ= .ok b:=by rw[cI,e];rfl
theorem eX (e:p ρ= .ok b):jw p ρ= .ok (!b):=by rw[jw,e];rfl
theorem qI (e1:p ρ= .ok false) (e2:q ρ= .ok b):yR p q ρ= .ok b:=by rw[yR,e1,R.aR,if_neg (by decide)];exact e2
theorem yF (e1:p ρ= .ok true) (e2:q ρ= .ok b):mX p q ρ= .ok b:=by rw[mX,e1,R.aR,if_pos rfl];exact e2
theorem Nm (e1:p ρ= .ok false):mX p q ρ= .ok false:=by rw[mX,e1,R.aR,if_neg (by decide)]
theorem gW {i:Nat} (h:xs[i]?=some d):bZ (.tup xs) (.int (i:Int))= .ok d:=by
 obtain⟨hi,e⟩:=z1b h;rw[bZ,atI_nat hi,e]
theorem Bf {i:Nat} (h:xs[i]?=some d):bZ (.lst xs) (.int (i:Int))= .ok d:=by
 obtain⟨hi,e⟩:=z1b h;rw[bZ,atI_nat hi,e]
theorem aL (e1:s ρ= .nx ρ') (e2:t ρ'=o):aP s t ρ=o:=by rw[aP,e1];exact e2
theorem bC (e:f (cG ρ)= .ok d):retS f ρ= .rt d:=by rw[retS,e];rfl
theorem bw (e:f ρ= .ok d) (e2:gt d ρ= .ok ρ'):bB f gt ρ= .nx ρ':=by rw[bB,e];show (match gt d ρ with | .ok ρ'=>So.nx ρ' |_=> .bad)=_;rw[e2]
theorem yG (e:f (cG ρ)= .ok d):rM f ρ= .nx ρ:=by rw[rM,e];rfl
theorem iB (e:p (cG ρ)= .ok true) (e2:s ρ=o):fU p s t ρ=o:=by rw[fU,e];exact e2
theorem cT (e:p (cG ρ)= .ok false) (e2:t ρ=o):fU p s t ρ=o:=by rw[fU,e];exact e2
theorem cC {m:Nat} (e:s (ds.map (λ d=>some (.val d))++List.replicate m none)= .rt d):cA m s ds= .ok d:=by rw[cA,e]
theorem Bg {m:Nat} (e:s (ds.map (λ d=>some (.val d))++List.replicate m none)= .nx ρ):cA m s ds= .ok .non:=by rw[cA,e]
theorem jC (h:(-(2 ^ 64) < i/\i < 2 ^ 64)\/(-(2 ^ 64) < j/\j < 2 ^ 64)):gj (.int i) (.int j)= .ok (.int (i*j)):=by
 show (if _ then _ else _)=_;rw[if_pos h]
theorem jD (h:0 < j/\j < 2 ^ 64):fV (.int i) (.int j)= .ok (.int (i / j)):=by
 show (if _ then _ else _)=_;rw[if_pos h]
theorem lZ (h:0 < j):fJ (.int i) (.int j)= .ok (.int (i % j)):=by
 show (if _ then _ else _)=_;rw[if_pos h]
theorem lE {l:List α}:oZ [.lst (l.map λ _=> .bl true)]= .ok (.bl true):=by
 have:=Bc (c:=λ _:α=>true) (l:=l);rw[oZ,this];show R.ok (D.bl _)=_;rw[all_true]
end
def Dh:ao->So:=(aP (bB (bin (λ _=> .ok (.int 7)) (λ ρ=>bD ρ 1) gj) (aF 3)) (aP (fU (cI (bin (λ ρ=>bD ρ 0) (qu (λ _=> .ok [])) tW)) (aP (bB (bin (λ ρ=>bD ρ 0) (bin (λ ρ=>bD ρ 1) (aB cJ (ak (λ ρ=>bD ρ 0) (λ _=> .ok []))) fJ) bZ) (aF 3)) (aP (bB (bin (λ ρ=>bD ρ 1) (aB cJ (ak (λ ρ=>bD ρ 0) (λ _=> .ok []))) fV) (aF 4)) (aP (fU (mX (cI (bin (λ ρ=>bD ρ 3) (bin (λ _=> .ok (.int 10)) (λ _=> .ok (.int 18)) sG) Rv)) (cI (bin (λ ρ=>bD ρ 4) (λ _=> .ok (.int 60)) ltI))) (aP (bB (bin (λ ρ=>bD ρ 3) (bin (λ _=> .ok (.int 10)) (λ _=> .ok (.int 18)) sG) fV) (aF 5)) (aP (gR (mX (cI (bin (λ ρ=>bD ρ 5) (λ _=> .ok (.int 0)) rH)) (cI (bin (λ ρ=>bD ρ 4) (λ _=> .ok (.int 0)) rH))) (aP (bB (bin (λ ρ=>bD ρ 5) (λ _=> .ok (.int 1000000)) fV) (aF 5)) (bB (bin (λ ρ=>bD ρ 4) (λ _=> .ok (.int 1)) dU) (aF 4))) 64) (fU (cI (bin (λ ρ=>bD ρ 5) (λ _=> .ok (.int 0)) rH)) (retS (bin (bin (λ ρ=>bD ρ 5) (λ _=> .ok (.int 1000000)) fJ) (λ ρ=>bD ρ 2) fJ)) So.nx))) So.nx) (bB (bin (λ ρ=>bD ρ 3) (bin (λ _=> .ok (.int 6553)) (bin (λ ρ=>bD ρ 1) (aB cJ (ak (λ ρ=>bD ρ 0) (λ _=> .ok []))) fV) gj) eE) (aF 3))))) So.nx) (aP (bB (bin (bin (bin (bin (λ ρ=>bD ρ 3) (λ _=> .ok (.int 2147483563)) fJ) (λ _=> .ok (.int 69069)) gj) (bin (λ _=> .ok (.int 104723)) (bin (λ ρ=>bD ρ 1) (λ _=> .ok (.int 1)) eE) gj) eE) (λ _=> .ok (.int 2147483563)) fJ) (aF 3)) (aP (bB (bin (bin (bin (λ ρ=>bD ρ 3) (λ ρ=>bD ρ 3) gj) (bin (λ ρ=>bD ρ 3) (λ _=> .ok (.int 3)) fV) eE) (λ _=> .ok (.int 2147483399)) fJ) (aF 3)) (retS (bin (bin (bin (bin (bin (λ ρ=>bD ρ 3) (λ ρ=>bD ρ 3) gj) (bin (λ ρ=>bD ρ 3) (λ _=> .ok (.int 7)) fV) eE) (λ _=> .ok (.int 2147483647)) fJ) (λ _=> .ok (.int 11)) fV) (λ ρ=>bD ρ 2) fJ))))))
def tailD:ao->So:=(aP (bB (bin (bin (bin (bin (λ ρ=>bD ρ 3) (λ _=> .ok (.int 2147483563)) fJ) (λ _=> .ok (.int 69069)) gj) (bin (λ _=> .ok (.int 104723)) (bin (λ ρ=>bD ρ 1) (λ _=> .ok (.int 1)) eE) gj) eE) (λ _=> .ok (.int 2147483563)) fJ) (aF 3)) (aP (bB (bin (bin (bin (λ ρ=>bD ρ 3) (λ ρ=>bD ρ 3) gj) (bin (λ ρ=>bD ρ 3) (λ _=> .ok (.int 3)) fV) eE) (λ _=> .ok (.int 2147483399)) fJ) (aF 3)) (retS (bin (bin (bin (bin (bin (λ ρ=>bD ρ 3) (λ ρ=>bD ρ 3) gj) (bin (λ ρ=>bD ρ 3) (λ _=> .ok (.int 7)) fV) eE) (λ _=> .ok (.int 2147483647)) fJ) (λ _=> .ok (.int 11)) fV) (λ ρ=>bD ρ 2) fJ))))
def aaQ:ao->So:=(fU (mX (cI (bin (λ ρ=>bD ρ 3) (bin (λ _=> .ok (.int 10)) (λ _=> .ok (.int 18)) sG) Rv)) (cI (bin (λ ρ=>bD ρ 4) (λ _=> .ok (.int 60)) ltI))) (aP (bB (bin (λ ρ=>bD ρ 3) (bin (λ _=> .ok (.int 10)) (λ _=> .ok (.int 18)) sG) fV) (aF 5)) (aP (gR (mX (cI (bin (λ ρ=>bD ρ 5) (λ _=> .ok (.int 0)) rH)) (cI (bin (λ ρ=>bD ρ 4) (λ _=> .ok (.int 0)) rH))) (aP (bB (bin (λ ρ=>bD ρ 5) (λ _=> .ok (.int 1000000)) fV) (aF 5)) (bB (bin (λ ρ=>bD ρ 4) (λ _=> .ok (.int 1)) dU) (aF 4))) 64) (fU (cI (bin (λ ρ=>bD ρ 5) (λ _=> .ok (.int 0)) rH)) (retS (bin (bin (λ ρ=>bD ρ 5) (λ _=> .ok (.int 1000000)) fJ) (λ ρ=>bD ρ 2) fJ)) So.nx))) So.nx)
def XH:ao->R Bool:=(mX (cI (bin (λ ρ=>bD ρ 5) (λ _=> .ok (.int 0)) rH)) (cI (bin (λ ρ=>bD ρ 4) (λ _=> .ok (.int 0)) rH)))
def wbD:ao->So:=(aP (bB (bin (λ ρ=>bD ρ 5) (λ _=> .ok (.int 1000000)) fV) (aF 5)) (bB (bin (λ ρ=>bD ρ 4) (λ _=> .ok (.int 1)) dU) (aF 4)))
section
variable {S s0 s1 s2 s3 x y:Option Ent} {k m c:Int}
theorem tail_eq (hm:0 < m):∃v,tailD [S,some (.val (.int k)),some (.val (.int m)),some (.val (.int c)),x,y]= .rt (.int v)/\0<=v/\v < m:=by
 refine⟨_,aL (bw (au (au (au (au rfl rfl (lZ (by omega))) rfl (jC (.inr ⟨by omega,by omega⟩))) (au rfl (au rfl rfl rfl) (jC (.inl ⟨by omega,by omega⟩))) rfl) rfl (lZ (by omega))) rfl)
  (aL (bw (au (au (au rfl rfl (jC (.inl ?b1))) (au rfl rfl (jD ⟨by omega,by omega⟩)) rfl) rfl (lZ (by omega))) rfl)
  (bC (au (au (au (au (au rfl rfl (jC (.inl ?b2))) (au rfl rfl (jD ⟨by omega,by omega⟩)) rfl) rfl (lZ (by omega))) rfl (jD ⟨by omega,by omega⟩)) rfl (lZ hm)))),Int.emod_nonneg _ (by omega),Int.emod_lt_of_pos _ hm⟩
 case b1=>
  have h1:=Int.emod_nonneg (c % 2147483563*69069+104723*(k+1)) (b:=2147483563) (by omega);have h2:=Int.emod_lt_of_pos (c % 2147483563*69069+104723*(k+1)) (b:=2147483563) (by omega);constructor <;> omega
 case b2=>
  generalize (c % 2147483563*69069+104723*(k+1)) % 2147483563=z
  have h1:=Int.emod_nonneg (z*z+z / 3) (b:=2147483399) (by omega);have h2:=Int.emod_lt_of_pos (z*z+z / 3) (b:=2147483399) (by omega);constructor <;> omega
theorem uP:rH (.int i) (.int j)= .ok (.bl (decide (j < i))):=rfl
theorem IV:∀{n:Nat} {t r:Int},0<=t->t < n->∃t' r',gR XH wbD n [s0,s1,s2,s3,some (.val (.int t)),some (.val (.int r))]= .nx [s0,s1,s2,s3,some (.val (.int t')),some (.val (.int r'))]
 |0,t,r,h0,h1=>by omega
 | n + 1,t,r,h0,h1=>by
  rw[gR];by_cases hr:0 < r
  ·by_cases ht:0 < t
   ·obtain⟨t',r',e⟩:=IV (n:=n) (t:=t - 1) (r:=r / 1000000) (by omega) (by omega);refine⟨t',r',?_⟩;have e1:XH (cG [s0,s1,s2,s3,some (.val (.int t)),some (.val (.int r))])= .ok true:=yF (bf (au rfl rfl (by rw[uP,decide_eq_true hr]))) (bf (au rfl rfl (by rw[uP,decide_eq_true ht])));have e2:wbD [s0,s1,s2,s3,some (.val (.int t)),some (.val (.int r))]= .nx [s0,s1,s2,s3,some (.val (.int (t - 1))),some (.val (.int (r / 1000000)))]:=aL (bw (au rfl rfl (jD ⟨by omega,by omega⟩)) rfl) (bw (au rfl rfl rfl) rfl);simp only[e1,e2];exact e
   ·refine⟨t,r,?_⟩;have e1:XH (cG [s0,s1,s2,s3,some (.val (.int t)),some (.val (.int r))])= .ok false:=yF (bf (au rfl rfl (by rw[uP,decide_eq_true hr]))) (bf (au rfl rfl (by rw[uP,decide_eq_false ht])));simp only[e1]
  ·refine⟨t,r,?_⟩;have e1:XH (cG [s0,s1,s2,s3,some (.val (.int t)),some (.val (.int r))])= .ok false:=Nm (bf (au rfl rfl (by rw[uP,decide_eq_false hr])));simp only[e1]
theorem Bh:sG (.int 10) (.int 18)= .ok (.int 1000000000000000000):=by
 unfold sG iD;simp only[];rw[if_pos ⟨by decide,by decide,by decide⟩];rfl
theorem aaR {t:Int} (hm:0 < m) (ht:0<=t):(∃t' x',aaQ [S,some (.val (.int k)),some (.val (.int m)),some (.val (.int c)),some (.val (.int t)),x]= .nx [S,some (.val (.int k)),some (.val (.int m)),some (.val (.int c)),some (.val (.int t')),x'])\/
  ∃v,aaQ [S,some (.val (.int k)),some (.val (.int m)),some (.val (.int c)),some (.val (.int t)),x]= .rt (.int v)/\0<=v/\v < m:=by
 by_cases h1:1000000000000000000<=c
 ·by_cases h2:t < 60
  ·have e:(mX (cI (bin (λ ρ=>bD ρ 3) (bin (λ _=> .ok (.int 10)) (λ _=> .ok (.int 18)) sG) Rv)) (cI (bin (λ ρ=>bD ρ 4) (λ _=> .ok (.int 60)) ltI))) (cG [S,some (.val (.int k)),some (.val (.int m)),some (.val (.int c)),some (.val (.int t)),x])= .ok true:=
    yF (bf (au rfl (au rfl rfl Bh) (by show R.ok (D.bl (decide _))=_;rw[decide_eq_true h1]))) (bf (au rfl rfl (by show R.ok (D.bl (decide _))=_;rw[decide_eq_true h2])))
   obtain⟨t',r',ew⟩:=IV (s0:=S) (s1:=some (.val (.int k))) (s2:=some (.val (.int m))) (s3:=some (.val (.int c))) (n:=64) (t:=t) (r:=c / 1000000000000000000) ht (by omega);by_cases h3:0 < r'
   ·exact .inr ⟨_,iB e (aL (bw (au rfl (au rfl rfl Bh) (jD ⟨by omega,by omega⟩)) rfl) (aL ew (iB (bf (au rfl rfl (by rw[uP,decide_eq_true h3]))) (bC (au (au rfl rfl (lZ (by omega))) rfl (lZ hm)))))),Int.emod_nonneg _ (by omega),Int.emod_lt_of_pos _ hm⟩
   ·exact .inl ⟨t',some (.val (.int r')),iB e (aL (bw (au rfl (au rfl rfl Bh) (jD ⟨by omega,by omega⟩)) rfl) (aL ew (cT (bf (au rfl rfl (by rw[uP,decide_eq_false h3]))) rfl)))⟩
  ·exact .inl ⟨t,x,cT (yF (bf (au rfl (au rfl rfl Bh) (by show R.ok (D.bl (decide _))=_;rw[decide_eq_true h1]))) (bf (au rfl rfl (by show R.ok (D.bl (decide _))=_;rw[decide_eq_false h2])))) rfl⟩
 ·exact .inl ⟨t,x,cT (Nm (bf (au rfl (au rfl rfl Bh) (by show R.ok (D.bl (decide _))=_;rw[decide_eq_false h1])))) rfl⟩
end
theorem qb {s t:ao->So} (e1:s ρ= .rt d):aP s t ρ= .rt d:=by rw[aP,e1]
theorem tX (h:atI xs i=some d):bZ (.lst xs) (.int i)= .ok d:=by rw[bZ,h]
theorem VJ {ns:List Int} {k m:Int} (hl:ns.length<=1000000) (hk:0<=k) (hm:0 < m):∃v,cA 3 Dh [.lst (ns.map .int),.int k,.int m]= .ok (.int v)/\0<=v/\v < m:=by
 have hd:dep (.lst (ns.map .int))<=40:=by
  rw[dep];have:=p8 (c:=D.int) (n:=0) (l:=ns) (λ a _=>by simp[dep]);omega
 cases ns with
 | nil=>
  obtain⟨v,e,h⟩:=tail_eq (S:=some (.val (.lst []))) (k:=k) (c:=7*k) (x:=none) (y:=none) hm;exact⟨v,cC (aL (bw (au rfl rfl (jC (.inl ⟨by omega,by omega⟩))) rfl) (aL (cT (bf (au rfl (j9 rfl) (uO rfl hd))) rfl) e)),h⟩
 | cons a ns=>
  have hn:tW (.lst ((a::ns).map .int)) (.lst [])= .ok (.bl true):=by
   rw[tW,if_pos hd];rfl
  have hlen:(0:Int) < (((a::ns).map D.int).length:Int):=by rw[z1g,List.length_cons];omega
  have hlen2:(((a::ns).map D.int).length:Int) < 2 ^ 64:=by rw[z1g];omega
  obtain⟨d,hd1,hd2⟩:=Dg (xs:=(a::ns).map D.int) (i:=k % (((a::ns).map D.int).length:Int)) (Int.emod_nonneg _ (by omega)) (Int.emod_lt_of_pos _ hlen);obtain⟨c,-,rfl⟩:=List.mem_map.mp hd1;have ht:0<=k / (((a::ns).map D.int).length:Int):=Int.ediv_nonneg hk (by omega)
  generalize hL:(((a::ns).map D.int).length:Int)=L at *
  have Bj:∀(S x1 x2 x3 x4 x5:Option Ent),S=some (Ent.val (.lst ((a::ns).map D.int)))->aB cJ (ak (λ ρ=>bD ρ 0) (λ _=> .ok [])) [S,x1,x2,x3,x4,x5]= .ok (.int L):=by
   intro S x1 x2 x3 x4 x5 e;subst e;rw[<-hL];exact aO (aA rfl) rfl
  rcases aaR (S:=some (.val (.lst ((a::ns).map .int)))) (k:=k) (m:=m) (c:=c) (x:=none) hm ht with⟨t',x',e⟩ |⟨v,e,h⟩
  ·obtain⟨v,e2,h⟩:=tail_eq (S:=some (.val (.lst ((a::ns).map .int)))) (k:=k) (c:=c+6553*(k / L)) (x:=some (.val (.int t'))) (y:=x') hm;exact⟨v,cC (aL (bw (au rfl rfl (jC (.inl ⟨by omega,by omega⟩))) rfl) (aL (iB (bf (au rfl (j9 rfl) hn))
    (aL (bw (au rfl (au rfl (Bj _ _ _ _ _ _ rfl) (lZ hlen)) (tX hd2)) rfl) (aL (bw (au rfl (Bj _ _ _ _ _ _ rfl) (jD ⟨hlen,hlen2⟩)) rfl) (aL e (bw (au rfl (au rfl (au rfl (Bj _ _ _ _ _ _ rfl) (jD ⟨hlen,hlen2⟩)) (jC (.inl ⟨by omega,by omega⟩))) rfl) rfl))))) e2)),h⟩
  ·exact⟨v,cC (aL (bw (au rfl rfl (jC (.inl ⟨by omega,by omega⟩))) rfl) (qb (iB (bf (au rfl (j9 rfl) hn))
    (aL (bw (au rfl (au rfl (Bj _ _ _ _ _ _ rfl) (lZ hlen)) (tX hd2)) rfl) (aL (bw (au rfl (Bj _ _ _ _ _ _ rfl) (jD ⟨hlen,hlen2⟩)) rfl) (qb e)))))),h⟩
theorem cQ {ρ1 ρ2:ao} {b:ao->So} {x:D} {o:So} (e1:gt x ρ= .ok ρ1) (e2:b ρ1= .nx ρ2) (e3:forL gt b xs ρ2=o):forL gt b (x::xs) ρ=o:=by
 rw[forL];simp only[e1,e2];exact e3
theorem gY {fi:ao->R (List D)} {b:ao->So} {o:So} (e1:fi ρ= .ok xs) (e2:forL gt b xs ρ=o):iQ fi gt b ρ=o:=by
 rw[iQ,e1];exact e2
theorem YH {i k:Nat} {f:ao->R D} {fa:ao->R (List D)} {ds:List D} (e1:f ρ= .ok d) (e2:fa ρ= .ok ds) (h:ds.length<=1000000:=by exact Nat.le_of_ble_eq_true rfl):Iz i k f fa ρ= .nx ((ρ.set i (some (.val d))).set k (some (.lst ds))):=by
 unfold Iz;rw[e1];simp only[fQ,e2];rw[if_pos h]
theorem Di {i k:Nat} {f g:ao->R D} {e:D} (e1:f ρ= .ok d) (e2:g ρ= .ok e):Df i k f g ρ= .nx ((ρ.set i (some (.val d))).set k (some (.val e))):=by
 unfold Df;rw[e1];simp only[fQ,e2]
def dr (ns:List Int) (k m:Int):Int:=match cA 3 Dh [.lst (ns.map .int),.int k,.int m] with
 | .ok (.int v)=>v
 |_=>0
theorem nW {ns:List Int} {k m:Int} (hl:ns.length<=1000000) (hk:0<=k) (hm:0 < m):cA 3 Dh [.lst (ns.map .int),.int k,.int m]= .ok (.int (dr ns k m))/\0<=dr ns k m/\dr ns k m < m:=by
 obtain⟨v,e,h⟩:=VJ hl hk hm;have:dr ns k m=v:=by rw[dr,e]
 rw[this];exact⟨e,h⟩
end Pu
namespace Pu
open PySem PySem.Spec L2
open PyProof.Rows hiding St
variable {l it l1 l2 z i1 i2 l3 i3:Addr} {params:Arguments} {xs:Array Value} {t t1 t2 t3:Bool} {gt:D->ao->R ao} {tg iter elt:Expr} {fd:FuncData} {h h':Heap} {H:Hp} {ts:List (Addr×Str)} {clos:List (Str×Addr)} {rO ifs:List Expr} {body:List Stmt} {N ps:List Str} {zs vs:List V} {k i n:Nat} {pos pp px:Pos} {P:Program} {K:PySem.W.Frag} {ρ:ao} {fi:ao->R (List D)} {ft:ao->R Bool} {fe:ao->R D} {scope:Scope} {σ:St} {qual y name:Str} {ta:TA} {α:Type} {Q:Value->Shared->Prop} {w:World}
section
variable {X:Cx}
def wD:List D->R D
 |[.int i]=> .ok (.int (if i < 0 then -i else i))
 |_=> .bad
theorem Bk:CallD X (.builtin "abs") wD:=by
 refine⟨_,call_abs,λ ρ O σ H Q xs ds j r h=>?_⟩;unfold wD at h;split at h
 ·rename_i i;obtain⟨x,rfl,rx⟩:=r.one;exact⟨i,by rw[rx.int],fin h (bY _)⟩
 ·exact h.elim
def maxD:List D->R D
 |[.int i,.int j]=> .ok (.int (if j > i then j else i))
 |_=> .bad
theorem wF (hc:X.calm=true):CallD X (.builtin "max") maxD:=by
 refine⟨_,call_max2 hc,λ ρ O σ H Q xs ds j r h=>?_⟩;unfold maxD at h;split at h
 ·rename_i i k;obtain⟨x,y,rfl,rx,ry⟩:=r.two;exact⟨i,k,by rw[rx.int,ry.int],fin h (bY _)⟩
 ·exact h.elim
def minD:List D->R D
 |[.int i,.int j]=> .ok (.int (if j < i then j else i))
 |_=> .bad
theorem qJ (hc:X.calm=true):CallD X (.builtin "min") minD:=by
 refine⟨_,call_min2 hc,λ ρ O σ H Q xs ds j r h=>?_⟩;unfold minD at h;split at h
 ·rename_i i k;obtain⟨x,y,rfl,rx,ry⟩:=r.two;exact⟨i,k,by rw[rx.int,ry.int],fin h (bY _)⟩
 ·exact h.elim
def Qh:D->Bool
 | .non=>true
 |_=>false
theorem YJ {O:Addr->Prop} {d:D} {v:V} (r:Rep K O H d v):decide (v= .non)=Qh d:=by
 cases d with
 |non=>rw[r.non];rfl
 |bl b=>rw[r.bl];rfl
 |int i=>rw[r.int];rfl
 |str x=>rw[r.str];rfl
 |tup ds=>obtain⟨a,xs,rfl,_⟩:=r.tup;rfl
 |lst ds=>obtain⟨a,xs,rfl,_⟩:=r.lst;rfl
def isD:D->D->R D
 |d,.non=> .ok (.bl (Qh d))
 |_,_=> .bad
theorem aci:iY X (compareOp .Is) isD:=by
 refine⟨_,op_isN,λ ρ O σ H Q x y dx dy j0 rx ry h=>?_⟩;cases dy with
 |non=>exact⟨ry.non,by rw[YJ rx];exact fin (a:=D.bl (Qh dx)) h (gb _)⟩
 |_=>cases dx <;> exact h.elim
theorem YK:OpR X (binaryOp .Add) (λ x y H Q=>∃a b ys,x= .ref a/\y= .ref b/\SqT X.K H a []/\SqT X.K H b ys/\Q (.ref b) H):=by
 intro pins s σ H x y v u Q I rx ry h;obtain⟨a,b,ys,rfl,rfl,ha,hb,q⟩:=h;cases rx;cases ry;obtain⟨its,r1,p1,_⟩:=I.tuple ha;obtain⟨its2,r2,p2,_⟩:=I.tuple hb;cases r1;obtain⟨⟨cls,dd,data,sl⟩,ho,hc,n,hd⟩:=id p1;obtain⟨⟨cls2,dd2,data2,sl2⟩,ho2,hc2,n2,hd2⟩:=id p2;simp only at hc hd hc2 hd2;subst hc hd hc2 hd2;exact concat_meets ⟨_,ho,rfl⟩ ⟨_,ho2,rfl⟩ noFill_tuple_add seq_tuple_add PySem.F.slot_tuple_add PySem.F.entry_tuple_add (PySem.F.args_tuple_add_2 _ _)
   (tuple_addW0 a b _ _ n n2 dd dd2 sl sl2 rfl) ⟨ho,ho2,⟨.ref b,H,I,rfl,q⟩⟩
def ac6:D->R D
 | .int i=> .ok (.int (-i))
 |_=> .bad
def VL (f:ao->R D):ao->R D:=λ ρ=>(f ρ).bind ac6
theorem RZ {e:Expr} {f:ao->R D} (he:DE X e f):DE X (.UnaryOp .USub e pos) (VL f):=by
 refine PE.imp (pe_un un_neg he) λ σ H Q h=>?_;obtain⟨ρ,O,j,h⟩:=h;refine go j h λ d v H1 e1 s1 r1 j1 h1=>?_;cases d with
 |int i=>exact⟨i,r1.int,fin h1 (bY _)⟩
 |_=>exact h1.elim
theorem YL:OpR X (binaryOp .Add) (λ x y H Q=>∃a b xs ys,x= .ref a/\y= .ref b/\SqL X.K H a xs/\SqL X.K H b ys/\xs.length+ys.length<=sizeLine/\∀p,H p=none->Q (.ref p) (upd H p (.lst (xs++ys)))):=by
 intro pins s σ H x y v u Q I rx ry h;obtain⟨a,b,xs,ys,rfl,rfl,ha,hb,hz,q⟩:=h;cases rx;cases ry;obtain⟨its,r1,p1,_⟩:=I.list ha;obtain⟨its2,r2,p2,_⟩:=I.list hb;obtain⟨⟨cls,dd,data,sl⟩,n,ho,hc,hdd,hd⟩:=id p1;obtain⟨⟨cls2,dd2,data2,sl2⟩,n2,ho2,hc2,adN,hd2⟩:=id p2;simp only at hc hd hc2 hd2;subst hc hd hc2 hd2;refine concat_meets ⟨_,ho,rfl⟩ ⟨_,ho2,rfl⟩ noFill_list_add seq_list_add PySem.F.slot_list_add PySem.F.entry_list_add (PySem.F.args_list_add_2 _ _)
   (list_addW a b _ _ n n2 dd dd2 sl sl2 (by rw[z1c,z1c,<-r1.length,<-r2.length];exact hz)) ⟨ho,ho2,?_⟩
 have ea:its.toArray++its2.toArray=(its++its2).toArray:=by simp
 rw[ea];exact⟨.ref _,_,I.lnew (t':=s.toks) (r1.append r2) (by rw[z1d];omega),rfl,q _ I.fresh⟩
def cO:D->D->R D
 | .int i,.int j=> .ok (.int (i+j))
 | .tup xs,.tup ys=>if xs.length+ys.length<=1000000 then .ok (.tup (xs++ys)) else .bad
 | .lst xs,.lst ys=>if xs.length+ys.length<=1000000 then .ok (.lst (xs++ys)) else .bad
 |_,_=> .bad
theorem cj:iY X (binaryOp .Add) cO:=by
 refine⟨_,OpR.or op_add (OpR.or op_catT (OpR.or YK YL)),λ ρ O σ H Q x y dx dy j0 rx ry h=>?_⟩;cases dx <;> cases dy <;> first
  |exact h.elim
  |skip
 ·rename_i i j;exact .inl ⟨i,j,rx.int,ry.int,fin h (bY _)⟩
 ·rename_i xs ys;have h:good X (rD X) O (if xs.length+ys.length<=1000000 then .ok (.tup (xs++ys)) else .bad) σ H Q:=h;by_cases hc:xs.length+ys.length<=1000000
  ·rw [if_pos hc] at h;obtain⟨a,us,rfl,ha,r1⟩:=rx.tup;obtain⟨b,ws,rfl,hb,r2⟩:=ry.tup;by_cases hx:us=[]
   ·subst hx;have:xs=[]:=List.eq_nil_of_length_eq_zero r1.length;subst this;exact .inr (.inr (.inl ⟨a,b,ws,rfl,rfl,ha,hb,fin h (f9 hb r2)⟩))
   ·refine .inr (.inl ⟨a,b,us,ws,rfl,rfl,ha,hb,hx,?_,λ z=>?_,λ z l hl=>?_⟩)
    ·rw[<-r1.length,<-r2.length];exact z0b hc eO
    ·subst z;have:ys=[]:=List.eq_nil_of_length_eq_zero r2.length;subst this;rw[List.append_nil] at h;exact fin h (f9 ha r1)
    ·exact h _ _ (Same.upd hl) (Rep.pW hl (r1.append r2))
  ·rw[if_neg hc] at h;exact h.elim
 ·rename_i xs ys;have h:good X (rD X) O (if xs.length+ys.length<=1000000 then .ok (.lst (xs++ys)) else .bad) σ H Q:=h;by_cases hc:xs.length+ys.length<=1000000
  ·rw[if_pos hc] at h;obtain⟨a,us,rfl,ha,_,r1⟩:=rx.lst;obtain⟨b,ws,rfl,hb,_,r2⟩:=ry.lst;refine .inr (.inr (.inr ⟨a,b,us,ws,rfl,rfl,ha,hb,?_,λ l hl=>?_⟩))
   ·rw[<-r1.length,<-r2.length];exact z0b hc eO
   ·exact h _ _ (Same.upd hl) (Rep.jr hl (j0.lQ hl) (r1.append r2))
  ·rw[if_neg hc] at h;exact h.elim
end
section
variable {prog:Program} {w:World} {A:Around} {E:Value->Shared->Prop} {s:Shared}
open HT in
theorem wk {t sl:Addr} {items:Array Value} {vl vu:Value} {lo hi:Option Int} (ht:IsTup s.heap t items) (hs:s.heap.IsSliceOf sl vl vu .none) (pl:IsPart vl lo) (pu:IsPart vu hi)
  (hw:sIx items.size 0 lo=0/\sIx items.size items.size hi=items.size) (h:Q (.ref t) s):wpAny (model prog w) A (getItem (.ref t) (.ref sl)) Q E s:=by
 obtain⟨os,hos,hcs,hds⟩:=id hs;have hTs:s.TypeIs (.ref sl) "slice" :=⟨os,hos,hcs⟩;unfold getItem
 try with_reducible refine wpAny_holding ?_
 first |refine wpAny_bind (wpAny_pure ?_) |skip
 refine wpAny_bind (wpAny_sequenceKey ht.typeIs (by decide) ?_);refine wpAny_bind (wpAny_callSpecial?_slot (name:=Str.ofString "__getitem__") ht.typeIs PyProof.Rows.slot_tuple_getitem
  (wpAny_call_entry PyProof.Rows.slot_tuple_getitem ht.typeIs entry_tuple_getitem ?_ (args_tuple_getitem _ _)))
 show wpAny _ _ (Builtin.Tuple.tupleItemsOf (.ref t) >>=_) _ _ s;refine wpAny_bind (tupleItemsOf_ ht ?_);refine wpAny_bind (wpAny_typeOf hTs ?_);rw[if_pos (by decide)];refine wpAny_bind (sliceApplied_gen hs pl pu ?_);show wpAny _ _ (if (((sIx items.size 0 lo:Nat):Int) ==0 && (1:Int) ==1 && (sIx items.size items.size hi - sIx items.size 0 lo) ==items.size)=true then _ else _) _ _ s;rw[if_pos (by rw[hw.1,hw.2];simp)];refine wpAny_bind (m:=Builtin.Tuple.tupleIsExact _) (wpAny_bind (wpAny_typeOf ht.typeIs (wpAny_pure ?_)));rw[if_pos (beq_self_eq_true _)]
 first
  |exact wpAny_bind (wpAny_pure (wpAny_pure ⟨_,rfl,wpAny_pure h⟩))
  |exact wpAny_bind (wpAny_rule (wpAny_pure ⟨_,rfl,wpAny_pure h⟩))
end
section
variable {X:Cx} {e e1:Expr} {lo hi:Option Expr} {f f1:ao->R D} {fl fu:ao->R (Option Int)} {pos p2:Pos}
def ac7 (K:PySem.W.Frag):V->Option Int->Option Int->Hp->VK->Prop:=λ x lo hi H Q=>∃a xs,x= .ref a/\SqT K H a xs/\
 (HT.sIx xs.length 0 lo=0/\HT.sIx xs.length xs.length hi=xs.length)/\Q (.ref a) H
theorem YM:SlR X (ac7 X.K):=by
 intro pins s σ H x v vl vu lo hi sl Q I rx hs pl pu h;obtain⟨a,xs,rfl,hx,hw,q⟩:=h;cases rx;obtain⟨its,r,ht,hz⟩:=I.tuple hx;have hlen:its.toArray.size=xs.length:=by rw[z1c];exact r.length.symm
 exact⟨"tuple",_,PyProof.Rows.slot_tuple_getitem.lookup,ht.typeIs,wk ht hs pl pu (by rw[hlen];exact hw) ⟨.ref a,H,I,rfl,q⟩⟩
abbrev ac8:(Addr->Prop)->Hp->Option Int->Option Int->Prop:=λ _ _ a b=>a=b
def Np (X:Cx) (lo:Option Expr) (fo:ao->R (Option Int)):Prop:=PO X lo (tG X ac8 fo)
theorem PO.imp {t t':TO} (h:PO X lo t) (w:∀σ H Q,t' σ H Q->t σ H Q):PO X lo t':=λ pins s σ H Q I q=>h pins s σ H Q I (w σ H Q q)
theorem lA:Np X none (λ _=> .ok none):=by
 refine PO.imp po_none λ σ H Q h=>?_;obtain⟨ρ,O,j,h⟩:=h;exact fin h rfl
def vH:D->R (Option Int)
 | .int i=> .ok (some i)
 |_=> .bad
theorem lB (h:DE X e1 f1):Np X (some e1) (λ ρ=>(f1 ρ).bind vH):=by
 refine PO.imp (po_some h) λ σ H Q h=>?_;obtain⟨ρ,O,j,h⟩:=h;refine go j h λ d v H1 e1 s1 r1 j1 h1=>?_;cases d with
 |int i=>exact⟨i,r1.int,fin h1 rfl⟩
 |_=>exact h1.elim
def jE (ds:List D) (lo hi:Option Int):List D:=(ds.drop (HT.sIx ds.length 0 lo)).take (HT.sIx ds.length ds.length hi - HT.sIx ds.length 0 lo)
def IW (d:D) (lo hi:Option Int):R D:=match d with
 | .tup ds=> .ok (.tup (jE ds lo hi))
 |_=> .bad
def oM (f:ao->R D) (fl fu:ao->R (Option Int)):ao->R D:=λ ρ=>(f ρ).bind λ d=>(fl ρ).bind λ l=>(fu ρ).bind λ u=>IW d l u
theorem zO (he:DE X e f) (hl:Np X lo fl) (hu:Np X hi fu):DE X (.Subscript e (.Slice lo hi none p2) pos) (oM f fl fu):=by
 refine PE.imp (pe_slice (SlR.or sl_tup YM) he hl hu) λ σ H Q h=>?_;obtain⟨ρ,O,j,h⟩:=h;refine go j h λ d v H1 e1 s1 r1 j1 h1=>?_;refine go j1 h1 λ l l' H2 e2 s2 r2 j2 h2=>?_;refine go j2 h2 λ u u' H3 e3 s3 r3 j3 h3=>?_;have r2:l=l':=r2;have r3:u=u':=r3;subst r2 r3;cases d with
 | tup ds=>
  have r1':=(r1.same s2).same s3;obtain⟨a,xs,rfl,hq,rs⟩:=r1'.tup;have hlen:=rs.length;by_cases hw:HT.sIx xs.length 0 l=0/\HT.sIx xs.length xs.length u=xs.length
  ·refine .inr ⟨a,xs,rfl,hq,hw,?_⟩;have e:jE ds l u=ds:=by
    unfold jE;rw[hlen,hw.1,hw.2,List.drop_zero,Nat.sub_zero,<-hlen,List.take_length]
   have h3:good X (rD X) O (.ok (.tup (jE ds l u))) σ H3 Q:=h3;rw[e] at h3;exact fin h3 (f9 hq rs)
  ·refine .inl ⟨a,xs,rfl,hq,hw,λ p hp=>?_⟩;refine h3 _ _ (Same.upd hp) (Rep.pW hp ?_);unfold jE cutV;rw[hlen];exact (rs.drop _).take _
 |_=>exact h3.elim
end
def pickK {α:Type} (z:α) (sel:List (Sum Nat α)) (ws:List α):List α:=sel.map λ
 | .inl i=>ws.getD i z
 | .inr c=>c
inductive Sel:List (Sum Nat Value)->List (Sum Nat V)->List (Sum Nat D)->Prop
 |nil:Sel [] [] []
 |at (i:Nat) {a b c}:Sel a b c->Sel (.inl i::a) (.inl i::b) (.inl i::c)
 |non {a b c}:Sel a b c->Sel (.inr .none::a) (.inr .non::b) (.inr .non::c)
 |str (x:Str) (t:Tok) {a b c}:Sel a b c->Sel (.inr (.str x t)::a) (.inr (.str x)::b) (.inr (.str x)::c)
 |int (x:Int) (t:Tok) {a b c}:Sel a b c->Sel (.inr (.int x t)::a) (.inr (.int x)::b) (.inr (.int x)::c)
 |bl (x:Bool) {a b c}:Sel a b c->Sel (.inr (.bool x)::a) (.inr (.bl x)::b) (.inr (.bl x)::c)
theorem R0 {ws:List Value} (r:Vals zs ws) (i:Nat):RelV (zs.getD i .non) (ws.getD i .none):=by
 induction r generalizing i with
 |nil=>exact rfl
 | cons h _ ih=>
  cases i with
  |zero=>exact h
  |succ i=>exact ih i
theorem Sel.vals {a b c} (s:Sel a b c) {ws:List Value} (r:Vals zs ws):Vals (pickK .non b zs) (pickK .none a ws):=by
 induction s with
 |nil=>exact .nil
 | «at» i _ ih=>exact .cons (R0 r i) ih
 |non _ ih=>exact .cons rfl ih
 |str x t _ ih=>exact .cons ⟨t,rfl⟩ ih
 |int x t _ ih=>exact .cons ⟨t,rfl⟩ ih
 |bl x _ ih=>exact .cons rfl ih
section
variable {K:PySem.W.Frag} {O:Addr->Prop} {H:Hp}
theorem Fz:∀{ds:List D} {zs:List V},aJ K O H ds zs->∀i:Nat,Rep K O H (ds.getD i .non) (zs.getD i .non)
 |[],zs,r,i=>by rw[r.nil_inv];exact mV
 | d::ds,zs,r,i=>by
  obtain⟨x,t,rfl,h1,h2⟩:=r.cons_inv;cases i with
  |zero=>exact h1
  |succ i=>exact Fz h2 i
theorem Sel.reps {a b c} (s:Sel a b c) {ds:List D} (r:aJ K O H ds zs):aJ K O H (pickK .non c ds) (pickK .non b zs):=by
 induction s with
 |nil=>exact .nil
 | «at» i _ ih=>exact .cons (Fz r i) ih
 |non _ ih=>exact .cons mV ih
 |str x t _ ih=>exact .cons (CV x) ih
 |int x t _ ih=>exact .cons (bY x) ih
 |bl x _ ih=>exact .cons (gb x) ih
end
section
variable {X:Cx} {k n:Nat} {f:Addr} {fd:FuncData} {ps ks:List Str} {F:List D->R D} {x:Str} {p pos kpos:Pos} {e:Expr} {es:List Expr} {kws:List Keyword} {fa fk:ao->R (List D)} {fe:ao->R D} {nm:Option Str}
def DK (X:Cx) (kws:List Keyword) (fk:ao->R (List D)):Prop:=PK X kws (tG X (M9 X) fk)
theorem PK.imp {t t':TA} (h:PK X kws t) (w:∀σ H Q,t' σ H Q->t σ H Q):PK X kws t':=λ pos pins s σ H Q I q=>h pos pins s σ H Q I (w σ H Q q)
theorem aaS:DK X [] (λ _=> .ok []):=by
 refine PK.imp pk_nil λ σ H Q h=>?_;obtain⟨ρ,O,j,h⟩:=h;exact fin h .nil
theorem YQ (he:DE X e fe) (hr:DK X kws fk):DK X (⟨nm,e,kpos⟩::kws) (ak fe fk):=by
 refine PK.imp (pk_cons he hr) λ σ H Q h=>?_;obtain⟨ρ,O,j,h⟩:=h;refine go j h λ d v H1 e1 s1 r1 j1 h1=>?_;refine go j1 h1 λ ds vs H2 e2 s2 r2 j2 h2=>?_;exact fin h2 (.cons (r1.same s2) r2)
theorem R4 {z:α} {sel:List (Sum Nat α)} {ws:List α}:(pickK z sel ws).length=sel.length:=by unfold pickK;rw[z1g]
def KB (K:PySem.W.Frag) (fd:FuncData) (ps ks:List Str) (sel:List (Sum Nat Value)):Prop:=∀(s:Shared) (us ws:List Value),K.In s.heap->us.length+sel.length=ps.length->ws.length=ks.length->BindsTo s fd ⟨us,ks.zip ws⟩ (ps.zip (us++pickK .none sel ws))
def Ie (F:List D->R D) (n m:Nat) (sel:List (Sum Nat D)) (fa fk:ao->R (List D)):ao->R D:=λ ρ=>(fa ρ).bind λ ds=>(fk ρ).bind λ zs=>if zs.length=m then aV F n (ds++pickK .non sel zs) else .bad
end
section
variable {X:Cx} {k n:Nat} {f:Addr} {fd:FuncData} {ps:List Str} {F:List D->R D} {x:Str} {p pos:Pos} {e:Expr} {es:List Expr} {fa:ao->R (List D)}
end
theorem len0 {l:List α} (h:l.length=0):l=[]:=List.eq_nil_of_length_eq_zero h
theorem Ja {l:List α} (h:l.length=n+1):∃a m,l=a::m/\m.length=n:=by
 cases l with
 |nil=>simp at h
 |cons a m=>exact⟨a,m,rfl,by simpa using h⟩
section
variable {X:Cx} {k m n:Nat} {fd:FuncData} {ps ks:List Str} {F:List D->R D} {x:Str} {p pos:Pos} {e:Expr} {es:List Expr} {kws:List Keyword} {fa fk:ao->R (List D)}
end
section
variable {K:PySem.W.Frag} {kV doc pm cdv ct:Value} {an:Option Addr} {body:List Stmt} {scope:Scope} {d:Addr} {t:Tok} {q:Pos}
def R5 (q:Pos):Arguments:={posonlyargs:=[],args:=[⟨"p",none,q⟩],vararg:=none,kwonlyargs:=[⟨"manner",none,q⟩,⟨"marks",none,q⟩],kw_defaults:=[some (.Constant (.str "worth") 0 q),some (.Constant .none 0 q)],kwarg:=none,defaults:=[]}
example:KB K (PySem.W.fnOf "f" "f" (R5 q) body scope .none kV doc pm an cdv ct) ["p","manner","marks"] ["marks","manner"] [.inl 1,.inl 0]:=by
 intro s us ws i hl hw;have hl1:us.length=1:=by simpa using hl
 clear hl
 obtain⟨u,us',rfl,hl2⟩:=Ja hl1
 clear hl1
 cases len0 hl2;obtain⟨w1,ws1,rfl,hw1⟩:=Ja hw
 clear hw
 obtain⟨w2,ws2,rfl,hw2⟩:=Ja hw1
 clear hw1
 cases len0 hw2;exact .of_eq rfl
end
section
variable {X:Cx}
end
section
variable {K:PySem.W.Frag} {O O':Addr->Prop} {H:Hp}
end
section
variable {X:Cx} {e:Expr} {f:ao->R D} {pos:Pos}
end
section
variable {prog:Program} {w:World} {A:Around} {E:Value->Shared->Prop} {s:Shared} {t:Addr}
end
section
variable {X:Cx}
end
theorem zQ:fillsNumberSlot (.type "tuple") "mul" =pure false:=
 PySem.fillsNumberSlot_seq (id:= "tuple.__mul__") (r:=some (.builtin "tuple.__rmul__")) F.slot_tuple_mul.lookup (by decide +kernel) F.slot_tuple_rmul.lookup (by decide +kernel)
theorem Jb:seqRepeat? (.type "tuple")=pure (some (.builtin "tuple.__mul__")):=by
 unfold seqRepeat?;rw[PySem.seqSlot_of (T:= "tuple") (name:= "__mul__") (id:= "tuple.__mul__") F.slot_tuple_mul.lookup (by decide +kernel),PySem.seqSlot_of (T:= "tuple") (name:= "__rmul__") (id:= "tuple.__rmul__") F.slot_tuple_rmul.lookup (by decide +kernel)];rfl
theorem Dj (a:Int) (t:Tok) (l:Addr) (items:Array Value) (n:Nat) (dd:Option Addr) (sl:Array (Option Value)):
  Meets (Builtin.«int.__rmul__» ⟨[.int a t,.ref l],[]⟩) (λ _ R s=>s.heap.get? l=some {cls:= .type "tuple",dict:=dd,data:= .seq items n,slots:=sl}/\R (.ok (.ret Value.notImplemented)) s):=
 .of_wp λ prog w A R s h=>by obtain⟨hp,g,d,tk,os⟩:=s;obtain⟨hl,h⟩:=h;wp_walk;exact⟨_,rfl,h⟩
theorem Qi (l:Addr) (items:Array Value) (n:Nat) (dd:Option Addr) (sl:Array (Option Value)) (t:Tok):
  Meets (Builtin.«tuple.__mul__» ⟨[.ref l,.int 1 t],[]⟩) (λ _ R s=>s.heap.get? l=some {cls:= .type "tuple",dict:=dd,data:= .seq items n,slots:=sl}/\R (.ok (.ret (.ref l))) {s with heap:=s.heap,toks:=s.toks}):=
 .of_wp λ prog w A R s h=>by obtain⟨hp,g,d,tk,os⟩:=s;obtain⟨hl,h⟩:=h;have f1:=AutoSeq1.idx_int;have hc0:(items.isEmpty || (1:Int) ==1)=true:=(by simp);unfold Builtin.«tuple.__mul__»;wp_walk using wpAny_loadPart' hl;exact⟨_,rfl,h⟩
theorem Qj (l:Addr) (items:Array Value) (n:Nat) (dd:Option Addr) (sl:Array (Option Value)) (k:Int) (t:Tok) (hf:¬(decide (k < -(2 ^ 63)) || decide (k>=2 ^ 63))=true) (hc0:¬(items.isEmpty || k ==1)=true) (hc1:¬(decide (k<=0) || items.isEmpty)=true)
  (hc2:¬(items.size:Int)*k > (2 ^ 63 - 1) / 8) (hc3:¬Builtin.Tuple.tupleTooMany ((items.size:Int)*k)=true) (hsz:sizeOk (.seq (List.foldl (λ x1 x2=>x1++x2) #[] (List.replicate k.toNat items)))):
  Meets (Builtin.«tuple.__mul__» ⟨[.ref l,.int k t],[]⟩) (λ _ R s=>s.heap.get? l=some {cls:= .type "tuple",dict:=dd,data:= .seq items n,slots:=sl}/\R (.ok (.ret (.ref s.heap.objs.size))) {s with heap:=s.heap.push {cls:=Value.type "tuple",data:=Data.seq (List.foldl (λ x1 x2=>x1++x2) #[] (List.replicate k.toNat items))},toks:=s.toks}):=
 .of_wp λ prog w A R s h=>by
  obtain⟨hp,g,d,tk,os⟩:=s;obtain⟨hl,h⟩:=h;have f1:=AutoSeq1.idx_int;unfold Builtin.«tuple.__mul__»
  wp_walk using wpAny_loadPart' hl
  refine wpAny_ite_false (by simpa using hf) ?_
  wp_walk using wpAny_loadPart' hl
  refine wpAny_ite_false (by simpa using hc2) ?_
  wp_walk using wpAny_loadPart' hl
  refine wpAny_ite_false (by simpa[sizeOk] using hsz) ?_
  wp_walk using wpAny_loadPart' hl
  exact⟨_,rfl,h⟩
section
variable {X:Cx}
theorem YS:OpR X (binaryOp .Mult) (λ x y H Q=>∃a k xs,x= .ref a/\y= .int k/\SqT X.K H a xs/\xs≠[]/\1<=k/\k < 2 ^ 63/\xs.length*k.toNat<=sizeLine/\(k=1->Q (.ref a) H)/\
  (k≠1->∀p,H p=none->Q (.ref p) (upd H p (.tup (List.replicate k.toNat xs).flatten)))):=by
 intro pins s σ H x y v u Q I rx ry h;obtain⟨a,k,xs,rfl,rfl,hq,hx,h1,h2,hz,q1,q2⟩:=h;cases rx;obtain⟨t,rfl⟩:=ry;obtain⟨its,r,p1,_⟩:=I.tuple hq;obtain⟨⟨cls,dd,data,sl⟩,ho,hc,n,hd⟩:=id p1;simp only at hc hd;subst hc hd;have hlen:=r.length;have hne:its≠[]:=λ z=>hx (by rw[z] at r;cases r;rfl);have hpos:0 < its.length:=by cases its with |nil=>exact absurd rfl hne |cons _ _=>simp
 have hemp:its.toArray.isEmpty=false:=by cases its with |nil=>exact absurd rfl hne |cons _ _=>simp
 refine wpAny_binaryOp_repeat_ref (T:= "tuple") (U:= "int") (by decide) ⟨_,ho,rfl⟩ (λ s'=>typeIs_int s' k t) zQ F.fills_int_mul F.slot_int_rmul Jb F.slot_int_index.lookup
  (call_meets F.slot_int_rmul (typeIs_int s k t) F.entry_int_rmul (F.args_int_rmul_2 _ _) (Dj k t a its.toArray n dd sl) ⟨ho,rfl,⟨_,ho,rfl⟩,?_⟩)
 by_cases hk:k=1
 ·subst hk;exact call_meets F.slot_tuple_mul ⟨_,ho,rfl⟩ F.entry_tuple_mul (F.args_tuple_mul_2 _ _) (Qi a its.toArray n dd sl t) ⟨ho,⟨.ref a,H,I,rfl,q1 rfl⟩⟩
 ·have hmul:(its.toArray.size:Int)*k=((xs.length*k.toNat:Nat):Int):=by
   rw[z1c,<-hlen,Int.natCast_mul,Int.toNat_of_nonneg (by omega)]
  have hnew:List.foldl (λ x1 x2=>x1++x2) #[] (List.replicate k.toNat its.toArray)=(List.replicate k.toNat its).flatten.toArray:=by
   have:=foldl_rep its k.toNat [];rw[List.nil_append] at this;exact this
  have hs:sizeOk (.seq (List.foldl (λ x1 x2=>x1++x2) #[] (List.replicate k.toNat its.toArray))):=by
   rw[hnew];show (List.replicate k.toNat its).flatten.toArray.size<=sizeLine;rw[z1c,len_rep,<-hlen,Nat.mul_comm];exact hz
  have hbig:(sizeLine:Nat)<=(2 ^ 63 - 1) / 8:=by decide
  refine call_meets F.slot_tuple_mul ⟨_,ho,rfl⟩ F.entry_tuple_mul (F.args_tuple_mul_2 _ _) (Qj a its.toArray n dd sl k t (by simp;omega) (by rw[hemp];simp[hk]) (by rw[hemp];simp;omega) (by rw[hmul];omega) (by rw[hmul];unfold Builtin.Tuple.tupleTooMany;intro z;have z:=of_decide_eq_true z;omega) hs) ⟨ho,?_⟩;rw[hnew];refine⟨.ref s.heap.objs.size,_,I.laid (t':=s.toks) (o:= .tup (List.replicate k.toNat xs).flatten) (λ b ob q=>z1a _ q) (z0g _) ?_,rfl,q2 hk _ (I.hok.fresh (z0g _))⟩;exact⟨by rw[len_rep,Nat.mul_comm];exact hz,_,r.rep k.toNat,uF.new _ _⟩
theorem zR {K:PySem.W.Frag} {O:Addr->Prop} {H:Hp} {ds:List D} {xs:List V} (r:aJ K O H ds xs):∀k:Nat,aJ K O H (List.replicate k ds).flatten (List.replicate k xs).flatten
 |0=> .nil
 |k+1=>by rw[List.replicate_succ,List.replicate_succ,List.flatten_cons,List.flatten_cons];exact r.append (zR r k)
def sI:D->D->R D
 | .int i,.int j=>gj (.int i) (.int j)
 | .tup ds,.int k=>if ds≠[]/\1<=k/\k < 2 ^ 63/\ds.length*k.toNat<=1000000 then .ok (.tup (List.replicate k.toNat ds).flatten) else .bad
 |_,_=> .bad
theorem tY:iY X (binaryOp .Mult) sI:=by
 obtain⟨r0,o0,c0⟩:=oG (X:=X);refine⟨_,OpR.or o0 YS,λ ρ O σ H Q x y dx dy j0 rx ry h=>?_⟩;cases dx <;> cases dy <;> first
  |exact h.elim
  |skip
 ·exact .inl (c0 ρ O σ H Q x y _ _ j0 rx ry h)
 ·rename_i ds k;have h:good X (rD X) O (if ds≠[]/\1<=k/\k < 2 ^ 63/\ds.length*k.toNat<=1000000 then .ok (.tup (List.replicate k.toNat ds).flatten) else .bad) σ H Q:=h;by_cases hc:ds≠[]/\1<=k/\k < 2 ^ 63/\ds.length*k.toNat<=1000000
  ·rw[if_pos hc] at h;obtain⟨a,us,rfl,ha,r1⟩:=rx.tup;obtain⟨h0,h1,h2,h3⟩:=hc;refine .inr ⟨a,k,us,rfl,ry.int,ha,λ z=>h0 (by have:=r1.length;rw[z] at this;exact List.eq_nil_of_length_eq_zero this),h1,h2,by rw[<-r1.length];exact z0b h3 eO,λ z=>?_,λ z l hl=>?_⟩
   ·subst z;have e:(List.replicate (1:Int).toNat ds).flatten=ds:=by simp
    rw[e] at h;exact fin h (f9 ha r1)
   ·exact h _ _ (Same.upd hl) (Rep.pW hl (zR r1 _))
  ·rw[if_neg hc] at h;exact h.elim
end
def gH:D->Bool
 | .tup _=>false
 | .lst _=>false
 |_=>true
def vD:D->V
 | .non=> .non
 | .bl b=> .bl b
 | .int i=> .int i
 | .str x=> .str x
 |_=> .non
section
variable {K:PySem.W.Frag} {O:Addr->Prop} {H:Hp}
theorem Nq {d:D} {v:V} (f:gH d=true) (r:Rep K O H d v):v=vD d:=by
 cases d with
 |non=>exact r.non
 |bl b=>exact r.bl
 |int i=>exact r.int
 |str x=>exact r.str
 |tup _=>cases f
 |lst _=>cases f
theorem Jc:∀{ds:List D} {vs:List V},ds.all gH=true->aJ K O H ds vs->vs=ds.map vD
 |[],vs,_,r=>r.nil_inv
 | d::ds,vs,f,r=>by
  obtain⟨x,t,rfl,h1,h2⟩:=r.cons_inv;rw[List.all_cons,Bool.and_eq_true] at f;rw[Nq f.1 h1,Jc f.2 h2];rfl
theorem R6 {d:D} (f:gH d=true):flatV (vD d)=true:=by cases d <;> first |rfl |cases f
theorem acj {a b:D} (fa:gH a=true) (fb:gH b=true):eqV (vD a) (vD b)=cP a b:=by
 cases a <;> cases b <;> first |rfl |(simp[gH] at fa;done) |(simp[gH] at fb;done) |(rw[dY];rfl) |(simp[vD,eqV,jX,jY,jZ,j5,j7,gw,dY])
theorem XJ {d:D} (fd:gH d=true):∀{ds:List D},ds.all gH=true->inV (vD d) (ds.map vD)=ds.any λ y=>cP y d
 |[],_=>rfl
 | y::ds,f=>by
  rw[List.all_cons,Bool.and_eq_true] at f;have ih:=XJ fd f.2;unfold inV at ih |-;rw[z1h,List.any_cons,List.any_cons,acj f.1 fd,ih]
theorem Nr:∀{ds:List D},ds.all gH=true->(ds.map vD).all flatV=true
 |[],_=>rfl
 | y::ds,f=>by
  rw[List.all_cons,Bool.and_eq_true] at f;rw[z1h,List.all_cons,R6 f.1,Nr f.2];rfl
end
def Qk:D->Option (List D)
 | .tup ds=>some ds
 | .lst ds=>some ds
 |_=>none
def Nt (neg:Bool) (d s:D):R D:=match Qk s with
 |some ds=>if gH d=true/\ds.all gH=true then .ok (.bl (if neg then !(ds.any λ y=>cP y d) else ds.any λ y=>cP y d)) else .bad
 |none=> .bad
section
variable {X:Cx}
theorem in_of {neg:Bool} {ρ:ao} {O:Addr->Prop} {Q:VK} {x y:V} {dx dy:D} (rx:Rep X.K O H dx x) (ry:Rep X.K O H dy y) (h:good X (rD X) O (Nt neg dx dy) σ H Q):rIn X.K neg x y H Q:=by
 unfold Nt at h;cases e:Qk dy with
 |none=>rw[e] at h;exact h.elim
 | some ds=>
  rw[e] at h;have h:good X (rD X) O (if gH dx=true/\ds.all gH=true then .ok (.bl (if neg then !(ds.any λ y=>cP y dx) else ds.any λ y=>cP y dx)) else .bad) σ H Q:=h;by_cases hc:gH dx=true/\ds.all gH=true
  ·rw [if_pos hc] at h;have key:∃p xs,y= .ref p/\(SqL X.K H p xs\/SqT X.K H p xs)/\aJ X.K O H ds xs:=by
    cases dy with
    | tup ds'=>
     cases e;obtain⟨a,xs,rfl,hq,rs⟩:=ry.tup;exact⟨a,xs,rfl,.inr hq,rs⟩
    | lst ds'=>
     cases e;obtain⟨a,xs,rfl,hq,_,rs⟩:=ry.lst;exact⟨a,xs,rfl,.inl hq,rs⟩
    |_=>cases e
   obtain⟨p,xs,rfl,hq,rs⟩:=key;have e1:=Nq hc.1 rx;have e2:=Jc hc.2 rs;subst e1 e2;refine⟨p,_,rfl,hq,R6 hc.1,Nr hc.2,?_⟩;rw[XJ hc.1 hc.2];exact fin h (gb _)
  ·rw[if_neg hc] at h;exact h.elim
theorem VN:iY X (compareOp .NotIn) (Nt true):=⟨_,op_notIn_seq,λ ρ O σ H Q x y dx dy j0 rx ry h=>in_of (ρ:=ρ) rx ry h⟩
end
def je:Bool->Heap->Addr->Addr->Nat->Prop
 |true,h,it,l,k=>h.IsTupleIter it l k
 |false,h,it,l,k=>h.IsListIter it l k
def jf:Bool->Heap->Addr->Array Value->Prop
 |true,h,l,xs=>h.IsTuple l xs
 |false,h,l,xs=>h.IsList l xs
def itC (t:Bool):String:=if t then "tuple_iterator" else "list_iterator"
def Sq:Bool->PySem.W.Frag->Hp->Addr->List V->Prop
 |true,K,H,a,xs=>SqT K H a xs
 |false,K,H,a,xs=>SqL K H a xs
theorem je.of (x:je t h it l k) (q:∀o,h.get? it=some o->h'.get? it=some o):je t h' it l k:=by
 cases t <;> (obtain⟨o,e,r⟩:=x;exact⟨o,q o e,r⟩)
theorem je.obj (x:je t h it l k):∃o,h.get? it=some o/\∀v,o.data≠.cell v:=by
 cases t <;> (obtain⟨o,e,c,d⟩:=x;exact⟨o,e,λ v z=>by rw[d] at z;cases z⟩)
theorem je.new (e:h.get? it=some {cls:= .type (itC t),data:= .fields #[.ref l,.int 0 0]}):je t h it l 0:=by
 cases t <;> exact⟨_,e,rfl,rfl⟩
theorem jf.of (x:jf t h l xs) (q:∀o,h.get? l=some o->h'.get? l=some o):jf t h' l xs:=by
 cases t <;> (obtain⟨o,e,r⟩:=x;exact⟨o,q o e,r⟩)
section
variable {prog:Program} {w:World} {A:Around} {E:Value->Shared->Prop} {s:Shared}
theorem nextT {v:Value} (hit:s.heap.IsTupleIter it l i) (hl:s.heap.IsTuple l xs) (hv:xs[i]?=some v)
  (hQ:∀h',h'.IsTupleIter it l (i+1)->Heap.SameBut it s.heap h'->Q v {s with heap:=h'}):wpAny (model prog w) A (Builtin.SmallTypes.nextOf (.ref it)) Q E s:=by
 have ty:=hit.typeIs;obtain⟨o,g,c,dt⟩:=hit;obtain⟨p,gp,_,m,dp⟩:=hl;unfold Builtin.SmallTypes.nextOf;refine wpAny_bind (wpAny_callSpecial?_slot (name:=Str.ofString "__next__") ty F.slot_tuple_iterator_next (wpAny_call_entry F.slot_tuple_iterator_next ty F.entry_tuple_iterator_next ?_ (F.args_tuple_iterator_next_1 _)));show wpAny _ _ (field (.ref it) 0 >>=_) _ _ s;refine wpAny_bind (wpAny_field g dt (x:= .ref l) rfl ?_);show wpAny _ _ (if (Value.ref l ==Value.none)=true then _ else _) _ _ s;rw[if_neg (show ¬((Value.ref l ==Value.none)=true) from Bool.false_ne_true)];show wpAny _ _ (field (.ref it) 1 >>=_) _ _ s;refine wpAny_bind (wpAny_field g dt (x:= .int i 0) rfl ?_);show wpAny _ _ (seqItems? (.ref l) >>=_) _ _ s;refine wpAny_bind (wpAny_seqItems gp dp ?_);simp only[Int.toNat_natCast,hv];refine wpAny_bind (wpAny_setField g dt (by simp) (wpAny_pure ⟨v,rfl,wpAny_pure (hQ _ ⟨_,Heap.get?_update_self _ g (Obj.isFreed_of_fields (Obj.data_mapFields dt _)),(Obj.cls_mapFields ..).trans c,?_⟩ (Heap.SameBut.update ..))⟩));rw[Obj.data_mapFields dt];simp[rawInt]
theorem VP (hh:A.handled=none) (hit:s.heap.IsTupleIter it l i) (hl:s.heap.IsTuple l xs) (hv:xs[i]?=none)
  (hE:∀h' e,Heap.ExtBut it s.heap h'->(∃o,h'.get? e=some o/\o.cls= .type "StopIteration")->E (.ref e) {s with heap:=h'}):wpAny (model prog w) A (Builtin.SmallTypes.nextOf (.ref it)) Q E s:=by
 have ty:=hit.typeIs;obtain⟨o,g,c,dt⟩:=hit;obtain⟨p,gp,_,m,dp⟩:=hl;unfold Builtin.SmallTypes.nextOf;refine wpAny_bind (wpAny_callSpecial?_slot (name:=Str.ofString "__next__") ty F.slot_tuple_iterator_next (wpAny_call_entry F.slot_tuple_iterator_next ty F.entry_tuple_iterator_next ?_ (F.args_tuple_iterator_next_1 _)));show wpAny _ _ (field (.ref it) 0 >>=_) _ _ s;refine wpAny_bind (wpAny_field g dt (x:= .ref l) rfl ?_);show wpAny _ _ (if (Value.ref l ==Value.none)=true then _ else _) _ _ s;rw[if_neg (show ¬((Value.ref l ==Value.none)=true) from Bool.false_ne_true)];show wpAny _ _ (field (.ref it) 1 >>=_) _ _ s;refine wpAny_bind (wpAny_field g dt (x:= .int i 0) rfl ?_);show wpAny _ _ (seqItems? (.ref l) >>=_) _ _ s;refine wpAny_bind (wpAny_seqItems gp dp ?_);simp only[Int.toNat_natCast,hv];refine wpAny_bind (wpAny_rule (wpAny_bind (wpAny_setField g dt (by simp) ?_)));show wpAny _ _ (newExc (.type "StopIteration") [] >>=_) _ _ _;refine wpAny_bind ?_;simp only[newExc,newTuple];refine wpAny_bind (wpAny_newObj_type ?_ (by size_fits));refine wpAny_bind (m:=firstArgMember _ _) (wpAny_of_eq (a:=Value.none) (by first |(simp only[firstArgMember];rfl) |rfl) ?_);refine wpAny_newObj_type ?_ (by size_fits);simp only[raiseNew];refine wpAny_bind (wpAny_handled ?_);first |rw [show A.in1.handled=none from hh] |rw [hh]
 exact wpAny_bind (wpAny_pure (wpAny_throw (hE _ _ (((Heap.SameBut.update ..).extBut.push _).push _) ⟨_,z1f _ rfl,rfl⟩)))
theorem pO {v:Value} (hit:je t s.heap it l i) (hl:jf t s.heap l xs) (hv:xs[i]?=some v)
  (hQ:∀h',je t h' it l (i+1)->Heap.SameBut it s.heap h'->Q v {s with heap:=h'}):wpAny (model prog w) A (Builtin.SmallTypes.nextOf (.ref it)) Q E s:=by
 cases t with
 |true=>exact nextT hit hl hv hQ
 |false=>exact wpAny_nextOf_list_item hit hl hv hQ
theorem ni (hh:A.handled=none) (hit:je t s.heap it l i) (hl:jf t s.heap l xs) (hv:xs[i]?=none)
  (hE:∀h' e,Heap.ExtBut it s.heap h'->(∃o,h'.get? e=some o/\o.cls= .type "StopIteration")->E (.ref e) {s with heap:=h'}):wpAny (model prog w) A (Builtin.SmallTypes.nextOf (.ref it)) Q E s:=by
 cases t with
 |true=>exact VP hh hit hl hv hE
 |false=>exact wpAny_nextOf_list_end hh hit hl hv hE
theorem rP (hl:jf t s.heap l xs) (hQ:Q (.ref s.heap.objs.size) {s with heap:=s.heap.push {cls:= .type (itC t),data:= .fields #[.ref l,.int 0 0]}}):
  wpAny (model prog w) A (pyIter (.ref l)) Q E s:=by
 cases t with
 |true=>exact wpAny_pyIter_tuple hl hQ
 |false=>exact wpAny_pyIter_list hl hQ
theorem oN {T:Addr} {arr:Array Value} {x:Value} {Q:Unit->Shared->Prop} (hT:s.heap.get? T=some {cls:= .type "tuple",data:= .seq arr})
  (h:∀h',h'.get? T=some {cls:= .type "tuple",data:= .seq (arr.setIfInBounds k x)}->Heap.SameBut T s.heap h'->Q () {s with heap:=h'}) (hs:arr.size<=sizeLine:=by size_fits):wpAny (model prog w) A (updateSeq T (·.setIfInBounds k x)) Q E s:=by
 refine wpAny_updateSeq (hz:=hs) (_hz':=by simpa using Nat.le_succ_of_le hs) hT rfl (h _ (by rw[Heap.get?_update_self _ hT rfl];simp[Obj.mapSeq]) (Heap.SameBut.update ..))
end
section
variable {X:Cx} {pins:List (Addr×Obj)} {σ:St} {H:Hp} {s:Shared}
theorem _root_.L2.Inv.fp {b:Addr} (I:Inv X pins σ H s) (f:FpOk X pins H b) (sb:Heap.SameBut b s.heap h'):Inv X pins σ H {s with heap:=h'}:=
 I.turned (t':=s.toks) (λ c o hc e=>(sb.2 c hc).trans e) f.1 f.2.1 f.2.2.2.1 f.2.2.2.2.1 f.2.2.2.2.2
theorem _root_.L2.Inv.fpE {b:Addr} (I:Inv X pins σ H s) (f:FpOk X pins H b) (sb:Heap.ExtBut b s.heap h'):Inv X pins σ H {s with heap:=h'}:=
 I.turned (t':=s.toks) (λ c o hc e=>sb c o hc e) f.1 f.2.1 f.2.2.2.1 f.2.2.2.2.1 f.2.2.2.2.2
theorem _root_.L2.FpOk.upd {b p:Addr} {o:HO} (f:FpOk X pins H b) (n:b≠p):FpOk X pins (L2.upd H p o) b:=⟨by rw[upd_ne n];exact f.1,f.2⟩
theorem _root_.L2.Inv.sq {xs:List V} (I:Inv X pins σ H s) (q:Sq t X.K H l xs):∃its:List Value,Vals xs its/\jf t s.heap l its.toArray:=by
 cases t with
 |true=>obtain⟨its,r,p,_⟩:=I.tuple q;exact⟨its,r,p⟩
 |false=>obtain⟨its,r,p,_⟩:=I.list q;exact⟨its,r,p.isList⟩
theorem _root_.L2.Inv.tZ {xs ys:List V} (I:Inv X pins σ H s) (q:Sq t X.K H l xs) (r:Sq t X.K H l ys):xs=ys:=by
 cases t with
 |true=>exact I.tuple_inj q r
 |false=>exact I.list_inj q r
end
abbrev gB (h:Heap) (T:Addr) (arr:Array Value):Prop:=h.get? T=some {cls:= .type "tuple",data:= .seq arr}
structure Z2 (h:Heap) (z TI TO i1 i2:Addr) (t1 t2:Bool) (l1 l2:Addr) (k:Nat):Prop where
 z:IsZip h z TI TO .none
 ti:gB h TI #[.ref i1,.ref i2]
 to:∃a b,gB h TO #[a,b]
 s1:je t1 h i1 l1 k
 s2:je t2 h i2 l2 k
structure Z3 (h:Heap) (z TI TO i1 i2 i3:Addr) (t1 t2 t3:Bool) (l1 l2 l3:Addr) (k:Nat):Prop where
 z:IsZip h z TI TO .none
 ti:gB h TI #[.ref i1,.ref i2,.ref i3]
 to:∃a b c,gB h TO #[a,b,c]
 s1:je t1 h i1 l1 k
 s2:je t2 h i2 l2 k
 s3:je t3 h i3 l3 k
def VR (K:PySem.W.Frag) (t1:Bool) (l1:Addr) (t2:Bool) (l2:Addr):It:=
 ⟨λ i H=>∃xs ys x y,Sq t1 K H l1 xs/\xs[i]?=some x/\Sq t2 K H l2 ys/\ys[i]?=some y,
  λ i H v H'=>∃p x y,H p=none/\v= .ref p/\H'=upd H p (.tup [x,y])/\(∀xs,Sq t1 K H l1 xs->xs[i]?=some x)/\∀ys,Sq t2 K H l2 ys->ys[i]?=some y,
  λ i H=>∃xs ys,Sq t1 K H l1 xs/\Sq t2 K H l2 ys/\(xs.length<=i\/ys.length<=i)⟩
def V0 (K:PySem.W.Frag) (t1:Bool) (l1:Addr) (t2:Bool) (l2:Addr) (t3:Bool) (l3:Addr):It:=
 ⟨λ i H=>∃xs ys zs x y z,Sq t1 K H l1 xs/\xs[i]?=some x/\Sq t2 K H l2 ys/\ys[i]?=some y/\Sq t3 K H l3 zs/\zs[i]?=some z,
  λ i H v H'=>∃p x y z,H p=none/\v= .ref p/\H'=upd H p (.tup [x,y,z])/\(∀xs,Sq t1 K H l1 xs->xs[i]?=some x)/\(∀ys,Sq t2 K H l2 ys->ys[i]?=some y)/\∀zs,Sq t3 K H l3 zs->zs[i]?=some z,
  λ i H=>∃xs ys zs,Sq t1 K H l1 xs/\Sq t2 K H l2 ys/\Sq t3 K H l3 zs/\(xs.length<=i\/ys.length<=i\/zs.length<=i)⟩
section
variable {X:Cx} {pins:List (Addr×Obj)} {σ:St} {H:Hp} {s:Shared} {A':Around} {E:Value->Shared->Prop}
theorem R7:2<=sizeLine:=z0b (by decide) (z0e dX)
theorem V1:3<=sizeLine:=z0b (by decide) (z0e dX)
theorem R8 {TI TO:Addr} {xs ys:List V} {x y:V} (I:Inv X pins σ H s)
  (fz:FpOk X pins H z) (fO:FpOk X pins H TO) (f1:FpOk X pins H i1) (f2:FpOk X pins H i2)
  (n1:TI≠z) (n2:TO≠z) (n3:i1≠z) (n4:i2≠z) (n5:TI≠TO) (n6:TI≠i1) (n7:TI≠i2) (n8:TO≠i1) (n9:TO≠i2) (n10:i1≠i2)
  (st:Z2 s.heap z TI TO i1 i2 t1 t2 l1 l2 k) (q1:Sq t1 X.K H l1 xs) (e1:xs[k]?=some x) (q2:Sq t2 X.K H l2 ys) (e2:ys[k]?=some y)
  (hQ:∀h',Inv X pins σ (upd H s.heap.objs.size (.tup [x,y])) {s with heap:=h'}->IsZip h' z TI TO (rawInt s.heap.objs.size)->gB h' TI #[.ref i1,.ref i2]->(∃a b,gB h' TO #[a,b])->
   je t1 h' i1 l1 (k+1)->je t2 h' i2 l2 (k+1)->Q (.ref s.heap.objs.size) {s with heap:=h'}):
  wpAny (model X.prog X.w) A' (Builtin.«zip.__next__» ⟨[.ref z],[]⟩) (λ fin s'=>∃v,fin= .done (.ret v)/\Q v s') E s:=by
 obtain⟨hz,hTI,⟨a,b,hTO⟩,h1,h2⟩:=st;show wpAny _ _ (field (.ref z) 2 >>=_) _ _ _;refine wpAny_bind (wpAny_field hz rfl (x:= .bool false) rfl ?_);show wpAny _ _ (field (.ref z) 3 >>=_) _ _ _;refine wpAny_bind (wpAny_field hz rfl (x:= .ref TI) rfl ?_);refine wpAny_bind (wpAny_seqItems hTI rfl ?_);show wpAny _ _ (Builtin.SmallTypes.ownedTupleIsFree (.ref z) >>=_) _ _ _;refine wpAny_bind ?_;unfold Builtin.SmallTypes.ownedTupleIsFree;refine wpAny_bind (wpAny_field hz rfl (x:= .none) rfl (wpAny_pure ?_));simp only[if_true];refine wpAny_bind (wpAny_rule (wpAny_bind (wpAny_field hz rfl (x:= .ref TO) rfl ?_)));refine wpAny_bind (wpAny_setField_rec hz (by simp) λ g1 z1 b1=>?_)
 replace z1:IsZip g1 z TI TO .ellipsis:=z1
 have I1:=I.fp fz b1;refine wpAny_bind ?_;simp only[List.zipIdx_cons,List.zipIdx_nil,List.forIn_cons,List.forIn_nil];obtain⟨us,r1,p1⟩:=I1.sq q1;obtain⟨u,hu,ru⟩:=r1.get e1;refine wpAny_bind (wpAny_bind (wpAny_onRaise ?_));show wpAny _ _ (Builtin.SmallTypes.nextOf (.ref i1) >>=_) _ _ _;refine wpAny_bind (pO (h1.of λ o e=>b1.extBut _ _ n3 e) p1 (v:=u) (by simpa using hu) λ g2 s12 b2=>wpAny_pure ?_);have I2:=I1.fp f1 b2;have o2:gB g2 TO #[a,b]:=b2.extBut _ _ n8 (b1.extBut _ _ n2 hTO);refine wpAny_bind (wpAny_seqItems o2 rfl (wpAny_bind (oN o2 λ g3 o3 b3=>wpAny_bind (wpAny_letGo (wpAny_pure ?_)))))
 replace o3:gB g3 TO #[u,b]:=o3
 have I3:=I2.fp fO b3;obtain⟨vs,r2,p2⟩:=I3.sq q2;obtain⟨v,hv,rv⟩:=r2.get e2;refine wpAny_bind (wpAny_bind (wpAny_onRaise ?_));show wpAny _ _ (Builtin.SmallTypes.nextOf (.ref i2) >>=_) _ _ _;refine wpAny_bind (pO (h2.of λ o e=>b3.extBut _ _ (Ne.symm n9) (b2.extBut _ _ (Ne.symm n10) (b1.extBut _ _ n4 e))) p2 (v:=v) (by simpa using hv) λ g4 s24 b4=>wpAny_pure ?_);have I4:=I3.fp f2 b4;have o4:gB g4 TO #[u,b]:=b4.extBut _ _ n9 o3;refine wpAny_bind (wpAny_seqItems o4 rfl (wpAny_bind (oN o4 λ g5 o5 b5=>wpAny_bind (wpAny_letGo (wpAny_pure (wpAny_pure ?_))))))
 replace o5:gB g5 TO #[u,v]:=o5
 have I5:=I4.fp fO b5;refine wpAny_bind (wpAny_seqItems o5 rfl (wpAny_bind (wpAny_newTuple ?_)));have sz:g5.objs.size=s.heap.objs.size:=by rw[b5.1,b4.1,b3.1,b2.1,b1.1]
 have I6:Inv X pins σ (upd H g5.objs.size (.tup [x,y])) {s with heap:=g5.push {cls:= .type "tuple",data:= .seq #[u,v]}}:=
  I5.laid (t':=s.toks) (λ b u e=>z1a _ e) (z0g _) ⟨R7,[u,v],.cons ru (.cons rv .nil),⟨_,z1f _ rfl,rfl,rfl,_,rfl⟩⟩
 have z5:IsZip g5 z TI TO .ellipsis:=b5.extBut _ _ (Ne.symm n2) (b4.extBut _ _ (Ne.symm n4) (b3.extBut _ _ (Ne.symm n2) (b2.extBut _ _ (Ne.symm n3) z1)));have lt:∀{c o},g5.get? c=some o->c≠g5.objs.size:=λ e=>Nat.ne_of_lt (z2c e);show wpAny _ _ (Builtin.SmallTypes.ownedTupleHandOut (.ref z) (.ref g5.objs.size) >>=_) _ _ _;refine wpAny_bind ?_;unfold Builtin.SmallTypes.ownedTupleHandOut;refine wpAny_bind (wpAny_setField_rec (z1a _ z5) (by simp) λ g7 z7 b7=>?_)
 replace z7:IsZip g7 z TI TO (rawInt g5.objs.size):=z7
 have I7:=I6.fp (fz.upd (lt z5)) b7;refine wpAny_setField_rec z7 (by simp) λ g8 z8 b8=>?_
 replace z8:IsZip g8 z TI TO (rawInt g5.objs.size):=z8
 have I8:=I7.fp (fz.upd (lt z5)) b8;have up:∀c o,c≠z->g5.get? c=some o->g8.get? c=some o:=λ c o c1 e=>b8.extBut _ _ c1 (b7.extBut _ _ c1 (z1a _ e));refine wpAny_pure ⟨_,rfl,?_⟩;rw[sz] at I8 z8;show Q (.ref g5.objs.size) _;rw[sz];refine hQ g8 I8 z8 (up _ _ n1 (b5.extBut _ _ n5 (b4.extBut _ _ n7 (b3.extBut _ _ n5 (b2.extBut _ _ n6 (b1.extBut _ _ n1 hTI)))))) ⟨u,v,up _ _ n2 o5⟩ ?_ ?_
 ·exact s12.of λ o e=>up _ _ n3 (b5.extBut _ _ (Ne.symm n8) (b4.extBut _ _ n10 (b3.extBut _ _ (Ne.symm n8) e)))
 ·exact s24.of λ o e=>up _ _ n4 (b5.extBut _ _ (Ne.symm n9) e)
theorem V2 {TI TO:Addr} {xs ys:List V} {Q:Fin->Shared->Prop} (hh:A'.handled=none) (I:Inv X pins σ H s)
  (fz:FpOk X pins H z) (fO:FpOk X pins H TO) (f1:FpOk X pins H i1) (f2:FpOk X pins H i2)
  (n1:TI≠z) (n2:TO≠z) (n3:i1≠z) (n4:i2≠z) (n5:TI≠TO) (n6:TI≠i1) (n7:TI≠i2) (n8:TO≠i1) (n9:TO≠i2) (n10:i1≠i2)
  (st:Z2 s.heap z TI TO i1 i2 t1 t2 l1 l2 k) (q1:Sq t1 X.K H l1 xs) (q2:Sq t2 X.K H l2 ys) (en:xs.length<=k\/ys.length<=k)
  (hE:∀h' e,Inv X pins σ H {s with heap:=h'}->(∃o,h'.get? e=some o/\o.cls= .type "StopIteration")->E (.ref e) {s with heap:=h'}):
  wpAny (model X.prog X.w) A' (Builtin.«zip.__next__» ⟨[.ref z],[]⟩) Q E s:=by
 obtain⟨hz,hTI,⟨a,b,hTO⟩,h1,h2⟩:=st;show wpAny _ _ (field (.ref z) 2 >>=_) _ _ _;refine wpAny_bind (wpAny_field hz rfl (x:= .bool false) rfl ?_);show wpAny _ _ (field (.ref z) 3 >>=_) _ _ _;refine wpAny_bind (wpAny_field hz rfl (x:= .ref TI) rfl ?_);refine wpAny_bind (wpAny_seqItems hTI rfl ?_);show wpAny _ _ (Builtin.SmallTypes.ownedTupleIsFree (.ref z) >>=_) _ _ _;refine wpAny_bind ?_;unfold Builtin.SmallTypes.ownedTupleIsFree;refine wpAny_bind (wpAny_field hz rfl (x:= .none) rfl (wpAny_pure ?_));simp only[if_true];refine wpAny_bind (wpAny_rule (wpAny_bind (wpAny_field hz rfl (x:= .ref TO) rfl ?_)));refine wpAny_bind (wpAny_setField_rec hz (by simp) λ g1 z1 b1=>?_)
 replace z1:IsZip g1 z TI TO .ellipsis:=z1
 have I1:=I.fp fz b1;refine wpAny_bind ?_;simp only[List.zipIdx_cons,List.zipIdx_nil,List.forIn_cons,List.forIn_nil];obtain⟨us,r1,p1⟩:=I1.sq q1;have leave:∀{g g':Heap} {e:Addr} {c:Addr},Inv X pins σ H {s with heap:=g}->IsZip g z TI TO .ellipsis->FpOk X pins H c->c≠z->Heap.ExtBut c g g'->(∃o,g'.get? e=some o/\o.cls= .type "StopIteration")->
   wpAny (model X.prog X.w) A' (setField (.ref z) 0 .none) (λ _ s'=>E (.ref e) s') E {s with heap:=g'}:=λ {g g' e c} Ig zg fc nc eb ⟨oe,hoe,hce⟩=>by
  have R9:IsZip g' z TI TO .ellipsis:=eb _ _ (Ne.symm nc) zg;have hez:e≠z:=λ q=>by subst q;rw[R9] at hoe;cases hoe;simp at hce
  have Ig':Inv X pins σ H {s with heap:=g'}:=Ig.fpE fc eb;exact wpAny_setField_rec R9 (by simp) λ g'' _ b''=>hE g'' e (Ig'.fp fz b'') ⟨oe,b''.extBut _ _ hez hoe,hce⟩
 refine wpAny_bind (wpAny_bind (wpAny_onRaise ?_));show wpAny _ _ (Builtin.SmallTypes.nextOf (.ref i1) >>=_) _ _ _;have h1':=h1.of (h':=g1) λ o e=>b1.extBut _ _ n3 e;by_cases hx:xs.length<=k
 ·exact wpAny_bind (ni hh h1' p1 (by have:=r1.length;simp;omega) λ g2 e eb ex=>leave I1 z1 f1 n3 eb ex)
 ·have hy:ys.length<=k:=by rcases en with h |h;exact absurd h hx;exact h
  obtain⟨u,hu,ru⟩:=r1.get (i:=k) (x:=xs[k]'(by omega)) (List.getElem?_eq_getElem (by omega));refine wpAny_bind (pO h1' p1 (v:=u) (by simpa using hu) λ g2 s12 b2=>wpAny_pure ?_);have I2:=I1.fp f1 b2;have o2:gB g2 TO #[a,b]:=b2.extBut _ _ n8 (b1.extBut _ _ n2 hTO);refine wpAny_bind (wpAny_seqItems o2 rfl (wpAny_bind (oN o2 λ g3 o3 b3=>wpAny_bind (wpAny_letGo (wpAny_pure ?_)))));have I3:=I2.fp fO b3;obtain⟨vs,r2,p2⟩:=I3.sq q2;have z3:IsZip g3 z TI TO .ellipsis:=b3.extBut _ _ (Ne.symm n2) (b2.extBut _ _ (Ne.symm n3) z1);refine wpAny_bind (wpAny_bind (wpAny_onRaise ?_));show wpAny _ _ (Builtin.SmallTypes.nextOf (.ref i2) >>=_) _ _ _;exact wpAny_bind (ni hh (h2.of λ o e=>b3.extBut _ _ (Ne.symm n9) (b2.extBut _ _ (Ne.symm n10) (b1.extBut _ _ n4 e))) p2 (by have:=r2.length;simp;omega) λ g4 e eb ex=>leave I3 z3 f2 n4 eb ex)
end
theorem Sd {kk} {TI TO:Addr}
  (n1:TI≠z) (n2:TO≠z) (n3:i1≠z) (n4:i2≠z) (n5:TI≠TO) (n6:TI≠i1) (n7:TI≠i2) (n8:TO≠i1) (n9:TO≠i2) (n10:i1≠i2):
  Turn P w K (.Tuple rO kk pp) (VR K t1 l1 t2 l2) [z,TI,TO,i1,i2] z (λ i h=>Z2 h z TI TO i1 i2 t1 t2 l1 l2 i) where
 mem:=by simp
 obj:=λ i h st b hb=>by
  obtain⟨hz,hTI,⟨x,y,hTO⟩,h1,h2⟩:=st;simp only[List.mem_cons,List.not_mem_nil,or_false] at hb;rcases hb with rfl |rfl |rfl |rfl |rfl
  ·exact⟨_,hz,λ v q=>by have q':Data.fields _=Data.cell v:=q;cases q'⟩
  ·exact⟨_,hTI,λ v q=>by have q':Data.seq _=Data.cell v:=q;cases q'⟩
  ·exact⟨_,hTO,λ v q=>by have q':Data.seq _=Data.cell v:=q;cases q'⟩
  ·exact h1.obj
  ·exact h2.obj
 keep:=λ i h h' st k=>by
  obtain⟨hz,hTI,⟨x,y,hTO⟩,h1,h2⟩:=st;exact⟨k _ (by simp) _ hz,k _ (by simp) _ hTI,⟨x,y,k _ (by simp) _ hTO⟩,h1.of λ o e=>k _ (by simp) o e,h2.of λ o e=>k _ (by simp) o e⟩
 item :=by
  intro X hP hw hK hc i pins s σ H E I hf st hg;subst hP hw hK;obtain⟨xs,ys,x,y,q1,e1,q2,e2⟩:=hg;have hT:s.TypeIs (.ref z) "zip" :=⟨_,st.z,rfl⟩;unfold pyNext;refine wpAny_bind (wpAny_attempt (wpAny_callSpecial?_slot (name:=Str.ofString "__next__") hT F.slot_zip_next (wpAny_call_entry F.slot_zip_next hT F.entry_zip_next
   (R8 I (hf z (by simp)) (hf TO (by simp)) (hf i1 (by simp)) (hf i2 (by simp)) n1 n2 n3 n4 n5 n6 n7 n8 n9 n10 st q1 e1 q2 e2 λ h' I' z' ti' Jd s1' s2'=>wpAny_pure ⟨_,rfl,?_⟩) (F.args_zip_next_1 _))))
  have hp:H s.heap.objs.size=none:=I.hok.fresh (z0g _);have nz:∀b,b∈[z,TI,TO,i1,i2]->b≠s.heap.objs.size:=λ b hb q=>by
   obtain⟨o,e,_⟩:∃o,s.heap.get? b=some o/\True:=by
    obtain⟨hz,hTI,⟨x,y,hTO⟩,h1,h2⟩:=st;simp only[List.mem_cons,List.not_mem_nil,or_false] at hb;rcases hb with rfl |rfl |rfl |rfl |rfl
    ·exact⟨_,hz,trivial⟩
    ·exact⟨_,hTI,trivial⟩
    ·exact⟨_,hTO,trivial⟩
    ·obtain⟨o,e,_⟩:=h1.obj;exact⟨o,e,trivial⟩
    ·obtain⟨o,e,_⟩:=h2.obj;exact⟨o,e,trivial⟩
   exact absurd (z2c e) (by rw[q];exact Nat.lt_irrefl _)
  refine wpAny_letOwnedTupleGo_zip z' λ h'' z'' b''=>⟨.ref s.heap.objs.size,upd H s.heap.objs.size (.tup [x,y]),I'.fp ((hf z (by simp)).upd (nz z (by simp))) b'',rfl,⟨_,x,y,hp,rfl,rfl,λ xs' q=>by rw[I.tZ q q1];exact e1,λ ys' q=>by rw[I.tZ q q2];exact e2⟩,?_,λ b hb=>?_⟩
  ·obtain⟨a,b,Jd⟩:=Jd;exact⟨z'',b''.extBut _ _ n1 ti',⟨a,b,b''.extBut _ _ n2 Jd⟩,s1'.of λ o e=>b''.extBut _ _ n3 e,s2'.of λ o e=>b''.extBut _ _ n4 e⟩
  ·rw[upd_ne (nz b hb)];exact (hf b hb).1
 done:=by
  intro X hP hw hK hc i pins s σ H E I hf st hg;subst hP hw hK;obtain⟨xs,ys,q1,q2,en⟩:=hg;have hT:s.TypeIs (.ref z) "zip" :=⟨_,st.z,rfl⟩;unfold pyNext;refine wpAny_bind (wpAny_attempt (wpAny_callSpecial?_slot (name:=Str.ofString "__next__") hT F.slot_zip_next (wpAny_call_entry F.slot_zip_next hT F.entry_zip_next
   (V2 (I.ok.hd hc) I (hf z (by simp)) (hf TO (by simp)) (hf i1 (by simp)) (hf i2 (by simp)) n1 n2 n3 n4 n5 n6 n7 n8 n9 n10 st q1 q2 en λ h' e I' ex=>?_) (F.args_zip_next_1 _))))
  obtain⟨o,ho,ec⟩:=ex;exact wpAny_bind (wpAny_isInstance (T:= "StopIteration") (b:=true) ⟨o,ho,ec⟩ isSubtype_stop (wpAny_pure ⟨rfl,I'⟩))
 self:=λ _ _ _ _ _ st h=>wpAny_pyIter_zip st.z h
abbrev itR (t:Bool) (l:Addr):Obj:={cls:= .type (itC t),data:= .fields #[.ref l,.int 0 0]}
abbrev Sg (h:Heap) (t1:Bool) (l1:Addr):Heap:=h.push (itR t1 l1)
abbrev XM (h:Heap) (t1:Bool) (l1:Addr) (t2:Bool) (l2:Addr):Heap:=(Sg h t1 l1).push (itR t2 l2)
abbrev XQ (h:Heap) (t1:Bool) (l1:Addr) (t2:Bool) (l2:Addr):Heap:=(XM h t1 l1 t2 l2).push {cls:= .type "tuple",data:= .seq #[.ref h.objs.size,.ref (Sg h t1 l1).objs.size]}
abbrev XR (h:Heap) (t1:Bool) (l1:Addr) (t2:Bool) (l2:Addr):Heap:=(XQ h t1 l1 t2 l2).push {cls:= .type "tuple",data:= .seq #[.none,.none]}
abbrev Nu (h:Heap) (t1:Bool) (l1:Addr) (t2:Bool) (l2:Addr):Heap:=(XR h t1 l1 t2 l2).push {cls:= .type "zip",data:= .fields #[.none,.bool false,.bool false,.ref (XM h t1 l1 t2 l2).objs.size,.ref (XQ h t1 l1 t2 l2).objs.size]}
theorem Ql (t1:Bool) (l1:Addr) (t2:Bool) (l2:Addr) (xs ys:Array Value):Meets (Builtin.«zip.__new__» ⟨[.type "zip",.ref l1,.ref l2],[]⟩)
  (λ _ R s=>jf t1 s.heap l1 xs/\jf t2 s.heap l2 ys/\R (.ok (.ret (.ref (XR s.heap t1 l1 t2 l2).objs.size))) {s with heap:=Nu s.heap t1 l1 t2 l2}):=
 .of_wp λ prog w A R s h=>by
  obtain⟨hp,g,d,tk,os⟩:=s;obtain⟨k1,k2,h⟩:=h;have hsub:=sub_zip;have L1:jf t1 (Shared.heap ⟨hp,g,d,tk,os⟩) l1 xs:=k1;have L2:jf t2 (Shared.heap ⟨Sg hp t1 l1,g,d,tk,os⟩) l2 ys:=k2.of λ o e=>z1a _ e
  wp_walk using rP L1,rP L2
  exact⟨_,rfl,h⟩
section
variable {prog:Program} {w:World} {A:Around} {E:Value->Shared->Prop} {s:Shared}
theorem Sh {ys:Array Value} (k1:jf t1 s.heap l1 xs) (k2:jf t2 s.heap l2 ys)
  (h:∀h',Z2 h' (s.heap.objs.size+4) (s.heap.objs.size+2) (s.heap.objs.size+3) s.heap.objs.size (s.heap.objs.size+1) t1 t2 l1 l2 0->(∀c o,s.heap.get? c=some o->h'.get? c=some o)->Q (.ref (s.heap.objs.size+4)) {s with heap:=h'}):
  wpAny (model prog w) A (call (.type "zip") [.ref l1,.ref l2]) Q E s:=by
 refine callType_new F.called_zip (by decide) (F.typeCall_zip_2 _ _) (F.newCall_zip_2 _ _) (λ obj=>F.args_object_init_3 obj _ _) F.entry_zip_new (Ql t1 l1 t2 l2 xs ys) ⟨k1,k2,?_⟩;have z1:(Sg s.heap t1 l1).objs.size=s.heap.objs.size+1:=Heap.size_push ..;have z2:(XM s.heap t1 l1 t2 l2).objs.size=s.heap.objs.size+2:=by rw[Heap.size_push,z1]
 have z3:(XQ s.heap t1 l1 t2 l2).objs.size=s.heap.objs.size+3:=by rw[Heap.size_push,z2]
 have z4:(XR s.heap t1 l1 t2 l2).objs.size=s.heap.objs.size+4:=by rw[Heap.size_push,z3]
 have a5:(Nu s.heap t1 l1 t2 l2).get? (XR s.heap t1 l1 t2 l2).objs.size=some _:=z1f _ rfl;have a4:(Nu s.heap t1 l1 t2 l2).get? (XQ s.heap t1 l1 t2 l2).objs.size=some _:=z1a _ (z1f _ rfl);have a3:(Nu s.heap t1 l1 t2 l2).get? (XM s.heap t1 l1 t2 l2).objs.size=some _:=z1a _ (z1a _ (z1f _ rfl));have a2:(Nu s.heap t1 l1 t2 l2).get? (Sg s.heap t1 l1).objs.size=some (itR t2 l2):=z1a _ (z1a _ (z1a _ (z1f _ rfl)));have a1:(Nu s.heap t1 l1 t2 l2).get? s.heap.objs.size=some (itR t1 l1):=z1a _ (z1a _ (z1a _ (z1a _ (z1f _ rfl))));show _/\_;rw[z2,z3,z4] at a5;rw[z1,z2] at a3;rw[z3] at a4;rw[z1] at a2;rw[z4];exact⟨⟨_,a5,rfl⟩,h _ ⟨a5,a3,⟨_,_,a4⟩,.new a1,.new a2⟩ λ c o e=>z1a _ (z1a _ (z1a _ (z1a _ (z1a _ e))))⟩
end
theorem Ss:bootBuiltins "zip" =some (.type "zip"):=by decide +kernel
section
variable {X:Cx} {rO:List Expr} {kk:Nat} {pp:Pos} {a b:Expr} {p pos:Pos}
def acn (K:PySem.W.Frag) (ta:TA):TI:=λ σ H R=>ta σ H λ vs H1=>∃t1 l1 t2 l2,vs=[.ref l1,.ref l2]/\(∃xs,Sq t1 K H1 l1 xs)/\(∃ys,Sq t2 K H1 l2 ys)/\R (VR K t1 l1 t2 l2) H1
theorem YT (hg:Gl X "zip") (hm:X.mg "zip" =none) (ha:PA X [a,b] ta) (he:starEach [a,b] X.env=(false,eval a X.env)::starEach [b] X.env:=by rfl) (hpl:(backTo pos (starEach [b] X.env)).any (·.1)=false:=by rfl):
    PI X (.Tuple rO kk pp) (.Call (.Name "zip" p) [a,b] [] pos) (acn X.K ta):=by
  intro pins s σ H R I h
  refine Call_ (ld_blt I hg hm Ss (PyProof.Rows.callWith_type1 (thn (ha pos pins s σ H _ I h) fun us s1 ⟨vs,H1,I1,r1,q1⟩=>?_) he hpl))
  obtain⟨t1,l1,t2,l2,e,⟨xs,w1⟩,⟨ys,w2⟩,q⟩:=q1
  subst e
  cases r1 with
  | cons r rr=>
    cases rr with
    | cons r' rr=>
      cases rr
      cases r
      cases r'
      obtain⟨vs1,_,p1⟩:=I1.sq w1
      obtain⟨vs2,_,p2⟩:=I1.sq w2
      refine Sh p1 p2 fun h' st k=>wpAny_pyIter_zip st.z ⟨s1.heap.objs.size+4,[s1.heap.objs.size+4,s1.heap.objs.size+2,s1.heap.objs.size+3,s1.heap.objs.size,s1.heap.objs.size+1],_,_,H1,rfl,I1.kept (t':=s1.toks) k,Sd ?_ ?_ ?_ ?_ ?_ ?_ ?_ ?_ ?_ ?_,st,fun c hc=>(by
        have hle:s1.heap.objs.size≤c:=by
          simp only[List.mem_cons,List.not_mem_nil,or_false] at hc
          rcases hc with rfl |rfl |rfl |rfl |rfl <;> first |exact Nat.le_refl _ |exact Nat.le_add_right _ _
        exact I1.fpOk hle (I1.hok.fresh hle)),q⟩
      all_goals (show @Ne Nat _ _;omega)
end
def Dk (xs ys:List D):List D:=(xs.zip ys).map λ p=> .tup [p.1,p.2]
def yH (xs ys zs:List D):List D:=(xs.zip (ys.zip zs)).map λ p=> .tup [p.1,p.2.1,p.2.2]
def zip2:List D->R (List D)
 |[x,y]=>(dG x).bind λ xs=>(dG y).bind λ ys=> .ok (Dk xs ys)
 |_=> .bad
def wG:List D->R (List D)
 |[x,y,z]=>(dG x).bind λ xs=>(dG y).bind λ ys=>(dG z).bind λ zs=> .ok (yH xs ys zs)
 |_=> .bad
section
variable {K:PySem.W.Frag} {O:Addr->Prop} {H:Hp}
structure Src (K:PySem.W.Frag) (O:Addr->Prop) (H:Hp) (t:Bool) (a:Addr) (ds:List D):Prop where
 ex:∃vs,Sq t K H a vs/\aJ K O H ds vs
 no:t=false->¬O a
theorem uc {d:D} {v:V} {ds:List D} (r:Rep K O H d v) (h:dG d= .ok ds):∃t a,v= .ref a/\Src K O H t a ds:=by
 cases d with
 |tup es=>cases h;obtain⟨a,xs,rfl,q,rs⟩:=r.tup;exact⟨true,a,rfl,⟨xs,q,rs⟩,λ z=>by cases z⟩
 |lst es=>cases h;obtain⟨a,xs,rfl,q,n,rs⟩:=r.lst;exact⟨false,a,rfl,⟨xs,q,rs⟩,λ _=>n⟩
 |_=>cases h
theorem Src.go {O':Addr->Prop} {H':Hp} {a:Addr} {ds:List D} (s:Src K O H t a ds) (q:c7 K O H O' H'):∃vs,Sq t K H' a vs/\aJ K O' H' ds vs:=by
 obtain⟨vs,h,r⟩:=s.ex;cases t with
 |true=>exact⟨vs,SqT.ext q.ext h,r.go q⟩
 |false=>exact⟨vs,SqL.ext q.ext (s.no rfl) h,r.go q⟩
theorem V3 {xs ys:List D} {d:D} (h:(Dk xs ys)[i]?=some d):∃x y,xs[i]?=some x/\ys[i]?=some y/\d= .tup [x,y]:=by
 unfold Dk at h;rw[z2b] at h;cases e:(xs.zip ys)[i]? with
 |none=>rw[e] at h;cases h
 |some p=>rw[e] at h;cases h;obtain⟨h1,h2⟩:=List.getElem?_zip_eq_some.mp e;exact⟨_,_,h1,h2,rfl⟩
theorem YR.zip2 {a1 a2:Addr} {xs ys:List D} (s1:Src K O H t1 a1 xs) (s2:Src K O H t2 a2 ys):YR K O H (VR K t1 a1 t2 a2) (Dk xs ys):=by
 intro O' H' q i;obtain⟨v1,q1,r1⟩:=s1.go q;obtain⟨v2,q2,r2⟩:=s2.go q;refine⟨λ d e=>?_,λ e=>⟨v1,v2,q1,q2,?_⟩⟩
 ·obtain⟨x,y,e1,e2,rfl⟩:=V3 e;obtain⟨u1,g1,w1⟩:=r1.get e1;obtain⟨u2,g2,w2⟩:=r2.get e2;refine⟨⟨v1,v2,u1,u2,q1,g1,q2,g2⟩,λ x H2 y=>?_⟩;obtain⟨p,x1,x2,hp,rfl,rfl,k1,k2⟩:=y;have k1:=k1 _ q1;have k2:=k2 _ q2;rw[g1] at k1;cases k1;rw[g2] at k2;cases k2;exact⟨Same.upd hp,f9 (SqT.of upd_same) ((aJ.cons w1 (.cons w2 .nil)).same (Same.upd hp))⟩
 ·rw[<-r1.length,<-r2.length];simp only[Dk,z1g,List.length_zip] at e;omega
end
section
variable {X:Cx} {rO:List Expr} {kk:Nat} {pp:Pos} {a b:Expr} {p pos:Pos} {fa:ao->R (List D)}
theorem Dl (hg:Gl X "zip") (hm:X.mg "zip" =none) (ha:DA X [a,b] fa) (he:starEach [a,b] X.env=(false,eval a X.env)::starEach [b] X.env:=by rfl) (hpl:(backTo pos (starEach [b] X.env)).any (·.1)=false:=by rfl):
  DI X (.Tuple rO kk pp) (.Call (.Name "zip" p) [a,b] [] pos) (λ ρ=>(fa ρ).bind zip2):=by
 refine PI.imp (YT hg hm ha he hpl) λ σ H Q q=>?_;obtain⟨ρ,O,j,q⟩:=q;refine go j q λ ds vs H1 e1 s1 r1 j1 h1=>?_;unfold zip2 at h1;split at h1
 ·rename_i x y;obtain⟨v1,v2,rfl,w1,w2⟩:=r1.two;cases ex:dG x with
  |bad=>rw[ex] at h1;exact h1.elim
  |err c=>rw[ex] at h1;cases x <;> cases ex
  | ok xs=>
   cases ey:dG y with
   |bad=>rw[ex,R.aR,ey] at h1;exact h1.elim
   |err c=>cases y <;> cases ey
   | ok ys=>
    rw[ex,R.aR,ey,R.aR] at h1;obtain⟨t1,a1,rfl,c1⟩:=uc w1 ex;obtain⟨t2,a2,rfl,c2⟩:=uc w2 ey;obtain⟨vs1,k1,_⟩:=c1.ex;obtain⟨vs2,k2,_⟩:=c2.ex;exact⟨t1,a1,t2,a2,rfl,⟨vs1,k1⟩,⟨vs2,k2⟩,fin h1 (YR.zip2 c1 c2)⟩
 ·exact h1.elim
end
section
variable {X:Cx} {pins:List (Addr×Obj)} {σ:St} {H:Hp} {s:Shared} {A':Around} {E:Value->Shared->Prop}
theorem Sv {TI TO:Addr} {xs1 xs2 wH:List V} {x1 x2 x3:V} (I:Inv X pins σ H s) (fz:FpOk X pins H z) (fO:FpOk X pins H TO) (f1:FpOk X pins H i1) (f2:FpOk X pins H i2) (f3:FpOk X pins H i3)
  (Je:TI≠z) (rQ:TO≠z) (Jf:TI≠TO) (vI:i1≠z) (wI:i2≠z) (yS:i3≠z) (Sx:TI≠i1) (Sy:TI≠i2) (SJ:TI≠i3) (Bl:TO≠i1) (yU:TO≠i2) (yV:TO≠i3) (n12:i1≠i2) (n13:i1≠i3) (n23:i2≠i3)
  (st:Z3 s.heap z TI TO i1 i2 i3 t1 t2 t3 l1 l2 l3 k) (q1:Sq t1 X.K H l1 xs1) (q2:Sq t2 X.K H l2 xs2) (q3:Sq t3 X.K H l3 wH) (e1:xs1[k]?=some x1) (e2:xs2[k]?=some x2) (e3:wH[k]?=some x3)
  (hQ:∀h',Inv X pins σ (upd H s.heap.objs.size (.tup [x1,x2,x3])) {s with heap:=h'}->IsZip h' z TI TO (rawInt s.heap.objs.size)->gB h' TI #[.ref i1,.ref i2,.ref i3]->(∃a b c,gB h' TO #[a,b,c])->
   je t1 h' i1 l1 (k+1)->je t2 h' i2 l2 (k+1)->je t3 h' i3 l3 (k+1)->Q (.ref s.heap.objs.size) {s with heap:=h'}):
  wpAny (model X.prog X.w) A' (Builtin.«zip.__next__» ⟨[.ref z],[]⟩) (λ fin s'=>∃v,fin= .done (.ret v)/\Q v s') E s:=by
 obtain⟨hz,hTI,⟨a1,a2,a3,hTO⟩,h1,h2,h3⟩:=st;show wpAny _ _ (field (.ref z) 2 >>=_) _ _ _;refine wpAny_bind (wpAny_field hz rfl (x:= .bool false) rfl ?_);show wpAny _ _ (field (.ref z) 3 >>=_) _ _ _;refine wpAny_bind (wpAny_field hz rfl (x:= .ref TI) rfl ?_);refine wpAny_bind (wpAny_seqItems hTI rfl ?_);show wpAny _ _ (Builtin.SmallTypes.ownedTupleIsFree (.ref z) >>=_) _ _ _;refine wpAny_bind ?_;unfold Builtin.SmallTypes.ownedTupleIsFree;refine wpAny_bind (wpAny_field hz rfl (x:= .none) rfl (wpAny_pure ?_));simp only[if_true];refine wpAny_bind (wpAny_rule (wpAny_bind (wpAny_field hz rfl (x:= .ref TO) rfl ?_)));refine wpAny_bind (wpAny_setField_rec hz (by simp) λ c0 z0 b0=>?_)
 replace z0:IsZip c0 z TI TO .ellipsis:=z0
 have J0:=I.fp fz b0;refine wpAny_bind ?_;simp only[List.zipIdx_cons,List.zipIdx_nil,List.forIn_cons,List.forIn_nil];obtain⟨us1,r1,p1⟩:=J0.sq q1;obtain⟨u1,hu1,ru1⟩:=r1.get e1;refine wpAny_bind (wpAny_bind (wpAny_onRaise ?_));show wpAny _ _ (Builtin.SmallTypes.nextOf (.ref i1) >>=_) _ _ _;refine wpAny_bind (pO (h1.of λ o e=>(b0.extBut _ _ vI e)) p1 (v:=u1) (by simpa using hu1) λ d1 sd1 rR=>wpAny_pure ?_);have Jd1:=J0.fp f1 rR;have od1:gB d1 TO #[a1,a2,a3]:=rR.extBut _ _ Bl (b0.extBut _ _ rQ hTO);refine wpAny_bind (wpAny_seqItems od1 rfl (wpAny_bind (oN od1 λ c1 o1 ud=>wpAny_bind (wpAny_letGo (wpAny_pure ?_)))))
 replace o1:gB c1 TO #[u1,a2,a3]:=o1
 have J1:=Jd1.fp fO ud;obtain⟨us2,r2,p2⟩:=J1.sq q2;obtain⟨u2,hu2,ru2⟩:=r2.get e2;refine wpAny_bind (wpAny_bind (wpAny_onRaise ?_));show wpAny _ _ (Builtin.SmallTypes.nextOf (.ref i2) >>=_) _ _ _;refine wpAny_bind (pO (h2.of λ o e=>(ud.extBut _ _ (Ne.symm yU) (rR.extBut _ _ (Ne.symm n12) (b0.extBut _ _ wI e)))) p2 (v:=u2) (by simpa using hu2) λ d2 sd2 vJ=>wpAny_pure ?_);have Jd2:=J1.fp f2 vJ;have od2:gB d2 TO #[u1,a2,a3]:=vJ.extBut _ _ yU o1;refine wpAny_bind (wpAny_seqItems od2 rfl (wpAny_bind (oN od2 λ c2 o2 wJ=>wpAny_bind (wpAny_letGo (wpAny_pure ?_)))))
 replace o2:gB c2 TO #[u1,u2,a3]:=o2
 have J2:=Jd2.fp fO wJ;obtain⟨us3,r3,p3⟩:=J2.sq q3;obtain⟨u3,hu3,ru3⟩:=r3.get e3;refine wpAny_bind (wpAny_bind (wpAny_onRaise ?_));show wpAny _ _ (Builtin.SmallTypes.nextOf (.ref i3) >>=_) _ _ _;refine wpAny_bind (pO (h3.of λ o e=>(wJ.extBut _ _ (Ne.symm yV) (vJ.extBut _ _ (Ne.symm n23) (ud.extBut _ _ (Ne.symm yV) (rR.extBut _ _ (Ne.symm n13) (b0.extBut _ _ yS e)))))) p3 (v:=u3) (by simpa using hu3) λ d3 sd3 Jg=>wpAny_pure ?_);have Jd3:=J2.fp f3 Jg;have od3:gB d3 TO #[u1,u2,a3]:=Jg.extBut _ _ yV o2;refine wpAny_bind (wpAny_seqItems od3 rfl (wpAny_bind (oN od3 λ c3 o3 Jh=>wpAny_bind (wpAny_letGo (wpAny_pure (wpAny_pure ?_))))))
 replace o3:gB c3 TO #[u1,u2,u3]:=o3
 have J3:=Jd3.fp fO Jh;refine wpAny_bind (wpAny_seqItems o3 rfl (wpAny_bind (wpAny_newTuple ?_)));have sz:c3.objs.size=s.heap.objs.size:=by rw[Jh.1,Jg.1,wJ.1,vJ.1,ud.1,rR.1,b0.1]
 have J7:Inv X pins σ (upd H c3.objs.size (.tup [x1,x2,x3])) {s with heap:=c3.push {cls:= .type "tuple",data:= .seq #[u1,u2,u3]}}:=
  J3.laid (t':=s.toks) (λ b u e=>z1a _ e) (z0g _) ⟨V1,[u1,u2,u3],.cons ru1 (.cons ru2 (.cons ru3 .nil)),⟨_,z1f _ rfl,rfl,rfl,_,rfl⟩⟩
 have zc:IsZip c3 z TI TO .ellipsis:=(Jh.extBut _ _ (Ne.symm rQ) (Jg.extBut _ _ (Ne.symm yS) (wJ.extBut _ _ (Ne.symm rQ) (vJ.extBut _ _ (Ne.symm wI) (ud.extBut _ _ (Ne.symm rQ) (rR.extBut _ _ (Ne.symm vI) z0))))));have lt:∀{b o},c3.get? b=some o->b≠c3.objs.size:=λ e=>Nat.ne_of_lt (z2c e);show wpAny _ _ (Builtin.SmallTypes.ownedTupleHandOut (.ref z) (.ref c3.objs.size) >>=_) _ _ _;refine wpAny_bind ?_;unfold Builtin.SmallTypes.ownedTupleHandOut;refine wpAny_bind (wpAny_setField_rec (z1a _ zc) (by simp) λ g7 z7 b7=>?_)
 replace z7:IsZip g7 z TI TO (rawInt c3.objs.size):=z7
 have J8:=J7.fp (fz.upd (lt zc)) b7;refine wpAny_setField_rec z7 (by simp) λ g8 z8 b8=>?_
 replace z8:IsZip g8 z TI TO (rawInt c3.objs.size):=z8
 have J9:=J8.fp (fz.upd (lt zc)) b8;have up:∀b o,b≠z->c3.get? b=some o->g8.get? b=some o:=λ b o nb e=>b8.extBut _ _ nb (b7.extBut _ _ nb (z1a _ e));refine wpAny_pure ⟨_,rfl,?_⟩;rw[sz] at J9 z8;show Q (.ref c3.objs.size) _;rw[sz];refine hQ g8 J9 z8 (up _ _ Je (Jh.extBut _ _ Jf (Jg.extBut _ _ SJ (wJ.extBut _ _ Jf (vJ.extBut _ _ Sy (ud.extBut _ _ Jf (rR.extBut _ _ Sx (b0.extBut _ _ Je hTI)))))))) ⟨u1,u2,u3,up _ _ rQ o3⟩ ?_ ?_ ?_
 ·exact sd1.of λ o e=>up _ _ vI (Jh.extBut _ _ (Ne.symm Bl) (Jg.extBut _ _ n13 (wJ.extBut _ _ (Ne.symm Bl) (vJ.extBut _ _ n12 (ud.extBut _ _ (Ne.symm Bl) e)))))
 ·exact sd2.of λ o e=>up _ _ wI (Jh.extBut _ _ (Ne.symm yU) (Jg.extBut _ _ n23 (wJ.extBut _ _ (Ne.symm yU) e)))
 ·exact sd3.of λ o e=>up _ _ yS (Jh.extBut _ _ (Ne.symm yV) e)
theorem V4 {TI TO:Addr} {xs1 xs2 wH:List V} {Q:Fin->Shared->Prop} (hh:A'.handled=none) (I:Inv X pins σ H s) (fz:FpOk X pins H z) (fO:FpOk X pins H TO) (f1:FpOk X pins H i1) (f2:FpOk X pins H i2) (f3:FpOk X pins H i3)
  (Je:TI≠z) (rQ:TO≠z) (Jf:TI≠TO) (vI:i1≠z) (wI:i2≠z) (yS:i3≠z) (Sx:TI≠i1) (Sy:TI≠i2) (SJ:TI≠i3) (Bl:TO≠i1) (yU:TO≠i2) (yV:TO≠i3) (n12:i1≠i2) (n13:i1≠i3) (n23:i2≠i3)
  (st:Z3 s.heap z TI TO i1 i2 i3 t1 t2 t3 l1 l2 l3 k) (q1:Sq t1 X.K H l1 xs1) (q2:Sq t2 X.K H l2 xs2) (q3:Sq t3 X.K H l3 wH) (en:xs1.length<=k\/xs2.length<=k\/wH.length<=k)
  (hE:∀h' e,Inv X pins σ H {s with heap:=h'}->(∃o,h'.get? e=some o/\o.cls= .type "StopIteration")->E (.ref e) {s with heap:=h'}):
  wpAny (model X.prog X.w) A' (Builtin.«zip.__next__» ⟨[.ref z],[]⟩) Q E s:=by
 obtain⟨hz,hTI,⟨a1,a2,a3,hTO⟩,h1,h2,h3⟩:=st;show wpAny _ _ (field (.ref z) 2 >>=_) _ _ _;refine wpAny_bind (wpAny_field hz rfl (x:= .bool false) rfl ?_);show wpAny _ _ (field (.ref z) 3 >>=_) _ _ _;refine wpAny_bind (wpAny_field hz rfl (x:= .ref TI) rfl ?_);refine wpAny_bind (wpAny_seqItems hTI rfl ?_);show wpAny _ _ (Builtin.SmallTypes.ownedTupleIsFree (.ref z) >>=_) _ _ _;refine wpAny_bind ?_;unfold Builtin.SmallTypes.ownedTupleIsFree;refine wpAny_bind (wpAny_field hz rfl (x:= .none) rfl (wpAny_pure ?_));simp only[if_true];refine wpAny_bind (wpAny_rule (wpAny_bind (wpAny_field hz rfl (x:= .ref TO) rfl ?_)));refine wpAny_bind (wpAny_setField_rec hz (by simp) λ c0 z0 b0=>?_)
 replace z0:IsZip c0 z TI TO .ellipsis:=z0
 have J0:=I.fp fz b0;refine wpAny_bind ?_;simp only[List.zipIdx_cons,List.zipIdx_nil,List.forIn_cons,List.forIn_nil];have leave:∀{g g':Heap} {e:Addr} {c:Addr},Inv X pins σ H {s with heap:=g}->IsZip g z TI TO .ellipsis->FpOk X pins H c->c≠z->Heap.ExtBut c g g'->(∃o,g'.get? e=some o/\o.cls= .type "StopIteration")->
   wpAny (model X.prog X.w) A' (setField (.ref z) 0 .none) (λ _ s'=>E (.ref e) s') E {s with heap:=g'}:=λ {g g' e c} Ig zg fc nc eb ⟨oe,hoe,hce⟩=>by
  have R9:IsZip g' z TI TO .ellipsis:=eb _ _ (Ne.symm nc) zg;have hez:e≠z:=λ q=>by subst q;rw[R9] at hoe;cases hoe;simp at hce
  have Ig':Inv X pins σ H {s with heap:=g'}:=Ig.fpE fc eb;exact wpAny_setField_rec R9 (by simp) λ g'' _ b''=>hE g'' e (Ig'.fp fz b'') ⟨oe,b''.extBut _ _ hez hoe,hce⟩
 obtain⟨us1,r1,p1⟩:=J0.sq q1;refine wpAny_bind (wpAny_bind (wpAny_onRaise ?_));show wpAny _ _ (Builtin.SmallTypes.nextOf (.ref i1) >>=_) _ _ _;have h1':=h1.of (h':=c0) λ o e=>(b0.extBut _ _ vI e);by_cases hx1:xs1.length<=k
 ·exact wpAny_bind (ni hh h1' p1 (by have:=r1.length;simp;omega) λ g e eb ex=>leave J0 z0 f1 vI eb ex)
 ·obtain⟨u1,hu1,ru1⟩:=r1.get (i:=k) (x:=xs1[k]'(by omega)) (List.getElem?_eq_getElem (by omega));refine wpAny_bind (pO h1' p1 (v:=u1) (by simpa using hu1) λ d1 sd1 rR=>wpAny_pure ?_);have Jd1:=J0.fp f1 rR;have od1:gB d1 TO #[a1,a2,a3]:=rR.extBut _ _ Bl (b0.extBut _ _ rQ hTO);refine wpAny_bind (wpAny_seqItems od1 rfl (wpAny_bind (oN od1 λ c1 o1 ud=>wpAny_bind (wpAny_letGo (wpAny_pure ?_)))))
  replace o1:gB c1 TO #[u1,a2,a3]:=o1
  have J1:=Jd1.fp fO ud;obtain⟨us2,r2,p2⟩:=J1.sq q2;refine wpAny_bind (wpAny_bind (wpAny_onRaise ?_));show wpAny _ _ (Builtin.SmallTypes.nextOf (.ref i2) >>=_) _ _ _;have h2':=h2.of (h':=c1) λ o e=>(ud.extBut _ _ (Ne.symm yU) (rR.extBut _ _ (Ne.symm n12) (b0.extBut _ _ wI e)));by_cases hx2:xs2.length<=k
  ·exact wpAny_bind (ni hh h2' p2 (by have:=r2.length;simp;omega) λ g e eb ex=>leave J1 (ud.extBut _ _ (Ne.symm rQ) (rR.extBut _ _ (Ne.symm vI) z0)) f2 wI eb ex)
  ·obtain⟨u2,hu2,ru2⟩:=r2.get (i:=k) (x:=xs2[k]'(by omega)) (List.getElem?_eq_getElem (by omega));refine wpAny_bind (pO h2' p2 (v:=u2) (by simpa using hu2) λ d2 sd2 vJ=>wpAny_pure ?_);have Jd2:=J1.fp f2 vJ;have od2:gB d2 TO #[u1,a2,a3]:=vJ.extBut _ _ yU o1;refine wpAny_bind (wpAny_seqItems od2 rfl (wpAny_bind (oN od2 λ c2 o2 wJ=>wpAny_bind (wpAny_letGo (wpAny_pure ?_)))))
   replace o2:gB c2 TO #[u1,u2,a3]:=o2
   have J2:=Jd2.fp fO wJ;obtain⟨us3,r3,p3⟩:=J2.sq q3;refine wpAny_bind (wpAny_bind (wpAny_onRaise ?_));show wpAny _ _ (Builtin.SmallTypes.nextOf (.ref i3) >>=_) _ _ _;have h3':=h3.of (h':=c2) λ o e=>(wJ.extBut _ _ (Ne.symm yV) (vJ.extBut _ _ (Ne.symm n23) (ud.extBut _ _ (Ne.symm yV) (rR.extBut _ _ (Ne.symm n13) (b0.extBut _ _ yS e)))));have hy3:wH.length<=k:=by omega
   exact wpAny_bind (ni hh h3' p3 (by have:=r3.length;simp;omega) λ g e eb ex=>leave J2 (wJ.extBut _ _ (Ne.symm rQ) (vJ.extBut _ _ (Ne.symm wI) (ud.extBut _ _ (Ne.symm rQ) (rR.extBut _ _ (Ne.symm vI) z0)))) f3 yS eb ex)
end
theorem SM {kk} {TI TO:Addr}
  (Je:TI≠z) (rQ:TO≠z) (Jf:TI≠TO) (vI:i1≠z) (wI:i2≠z) (yS:i3≠z) (Sx:TI≠i1) (Sy:TI≠i2) (SJ:TI≠i3) (Bl:TO≠i1) (yU:TO≠i2) (yV:TO≠i3) (n12:i1≠i2) (n13:i1≠i3) (n23:i2≠i3):
  Turn P w K (.Tuple rO kk pp) (V0 K t1 l1 t2 l2 t3 l3) [z,TI,TO,i1,i2,i3] z (λ i h=>Z3 h z TI TO i1 i2 i3 t1 t2 t3 l1 l2 l3 i) where
 mem:=by simp
 obj:=λ i h st b hb=>by
  obtain⟨hz,hTI,⟨x,y,v,hTO⟩,h1,h2,h3⟩:=st;simp only[List.mem_cons,List.not_mem_nil,or_false] at hb;rcases hb with rfl |rfl |rfl |rfl |rfl |rfl
  ·exact⟨_,hz,λ v q=>by have q':Data.fields _=Data.cell v:=q;cases q'⟩
  ·exact⟨_,hTI,λ v q=>by have q':Data.seq _=Data.cell v:=q;cases q'⟩
  ·exact⟨_,hTO,λ v q=>by have q':Data.seq _=Data.cell v:=q;cases q'⟩
  ·exact h1.obj
  ·exact h2.obj
  ·exact h3.obj
 keep:=λ i h h' st k=>by
  obtain⟨hz,hTI,⟨x,y,v,hTO⟩,h1,h2,h3⟩:=st;exact⟨k _ (by simp) _ hz,k _ (by simp) _ hTI,⟨x,y,v,k _ (by simp) _ hTO⟩,h1.of λ o e=>k _ (by simp) o e,h2.of λ o e=>k _ (by simp) o e,h3.of λ o e=>k _ (by simp) o e⟩
 item :=by
  intro X hP hw hK hc i pins s σ H E I hf st hg;subst hP hw hK;obtain⟨xs1,xs2,wH,x1,x2,x3,q1,e1,q2,e2,q3,e3⟩:=hg;have hT:s.TypeIs (.ref z) "zip" :=⟨_,st.z,rfl⟩;unfold pyNext;refine wpAny_bind (wpAny_attempt (wpAny_callSpecial?_slot (name:=Str.ofString "__next__") hT F.slot_zip_next (wpAny_call_entry F.slot_zip_next hT F.entry_zip_next
   (Sv I (hf z (by simp)) (hf TO (by simp)) (hf i1 (by simp)) (hf i2 (by simp)) (hf i3 (by simp)) Je rQ Jf vI wI yS Sx Sy SJ Bl yU yV n12 n13 n23 st q1 q2 q3 e1 e2 e3 λ h' I' z' ti' Jd s1' s2' s3'=>wpAny_pure ⟨_,rfl,?_⟩) (F.args_zip_next_1 _))))
  have hp:H s.heap.objs.size=none:=I.hok.fresh (z0g _);have nz:∀b,b∈[z,TI,TO,i1,i2,i3]->b≠s.heap.objs.size:=λ b hb q=>by
   obtain⟨o,e,_⟩:∃o,s.heap.get? b=some o/\True:=by
    obtain⟨hz,hTI,⟨x,y,v,hTO⟩,h1,h2,h3⟩:=st;simp only[List.mem_cons,List.not_mem_nil,or_false] at hb;rcases hb with rfl |rfl |rfl |rfl |rfl |rfl
    ·exact⟨_,hz,trivial⟩
    ·exact⟨_,hTI,trivial⟩
    ·exact⟨_,hTO,trivial⟩
    ·obtain⟨o,e,_⟩:=h1.obj;exact⟨o,e,trivial⟩
    ·obtain⟨o,e,_⟩:=h2.obj;exact⟨o,e,trivial⟩
    ·obtain⟨o,e,_⟩:=h3.obj;exact⟨o,e,trivial⟩
   exact absurd (z2c e) (by rw[q];exact Nat.lt_irrefl _)
  refine wpAny_letOwnedTupleGo_zip z' λ h'' z'' b''=>⟨.ref s.heap.objs.size,upd H s.heap.objs.size (.tup [x1,x2,x3]),I'.fp ((hf z (by simp)).upd (nz z (by simp))) b'',rfl,⟨_,x1,x2,x3,hp,rfl,rfl,λ xs' q=>by rw[I.tZ q q1];exact e1,λ xs' q=>by rw[I.tZ q q2];exact e2,λ xs' q=>by rw[I.tZ q q3];exact e3⟩,?_,λ b hb=>?_⟩
  ·obtain⟨a,b,c,Jd⟩:=Jd;exact⟨z'',b''.extBut _ _ Je ti',⟨a,b,c,b''.extBut _ _ rQ Jd⟩,s1'.of λ o e=>b''.extBut _ _ vI e,s2'.of λ o e=>b''.extBut _ _ wI e,s3'.of λ o e=>b''.extBut _ _ yS e⟩
  ·rw[upd_ne (nz b hb)];exact (hf b hb).1
 done:=by
  intro X hP hw hK hc i pins s σ H E I hf st hg;subst hP hw hK;obtain⟨xs1,xs2,wH,q1,q2,q3,en⟩:=hg;have hT:s.TypeIs (.ref z) "zip" :=⟨_,st.z,rfl⟩;unfold pyNext;refine wpAny_bind (wpAny_attempt (wpAny_callSpecial?_slot (name:=Str.ofString "__next__") hT F.slot_zip_next (wpAny_call_entry F.slot_zip_next hT F.entry_zip_next
   (V4 (I.ok.hd hc) I (hf z (by simp)) (hf TO (by simp)) (hf i1 (by simp)) (hf i2 (by simp)) (hf i3 (by simp)) Je rQ Jf vI wI yS Sx Sy SJ Bl yU yV n12 n13 n23 st q1 q2 q3 en λ h' e I' ex=>?_) (F.args_zip_next_1 _))))
  obtain⟨o,ho,ec⟩:=ex;exact wpAny_bind (wpAny_isInstance (T:= "StopIteration") (b:=true) ⟨o,ho,ec⟩ isSubtype_stop (wpAny_pure ⟨rfl,I'⟩))
 self:=λ _ _ _ _ _ st h=>wpAny_pyIter_zip st.z h
theorem Dm (a b c:Value):checkTypeCall "zip" ⟨[a,b,c],[]⟩=pure ():=by kernel_rfl
theorem GZ (a b c:Value):checkBuiltinCall "zip.__new__" ⟨[.type "zip",a,b,c],[]⟩=pure ():=by kernel_rfl
theorem YW (a b c d:Value):argsOk "object.__init__" ⟨[a,b,c,d],[]⟩:=by
 unfold argsOk;rw[signature?_of (id:= "object.__init__") (n:=['_','_','t','i','n','i','_','_']) (o:=['t','c','e','j','b','o']) (by kernel_rfl) F.owner_object];kernel_rfl
abbrev SN (h:Heap) (t1:Bool) (l1:Addr):Heap:=h.push (itR t1 l1)
abbrev SQ (h:Heap) (t1:Bool) (l1:Addr) (t2:Bool) (l2:Addr):Heap:=(SN h t1 l1).push (itR t2 l2)
abbrev XS (h:Heap) (t1:Bool) (l1:Addr) (t2:Bool) (l2:Addr) (t3:Bool) (l3:Addr):Heap:=(SQ h t1 l1 t2 l2).push (itR t3 l3)
abbrev X3 (h:Heap) (t1:Bool) (l1:Addr) (t2:Bool) (l2:Addr) (t3:Bool) (l3:Addr):Heap:=(XS h t1 l1 t2 l2 t3 l3).push {cls:= .type "tuple",data:= .seq #[.ref h.objs.size,.ref (SN h t1 l1).objs.size,.ref (SQ h t1 l1 t2 l2).objs.size]}
abbrev X4 (h:Heap) (t1:Bool) (l1:Addr) (t2:Bool) (l2:Addr) (t3:Bool) (l3:Addr):Heap:=(X3 h t1 l1 t2 l2 t3 l3).push {cls:= .type "tuple",data:= .seq #[.none,.none,.none]}
abbrev Ji (h:Heap) (t1:Bool) (l1:Addr) (t2:Bool) (l2:Addr) (t3:Bool) (l3:Addr):Heap:=(X4 h t1 l1 t2 l2 t3 l3).push {cls:= .type "zip",data:= .fields #[.none,.bool false,.bool false,.ref (XS h t1 l1 t2 l2 t3 l3).objs.size,.ref (X3 h t1 l1 t2 l2 t3 l3).objs.size]}
theorem Qm (t1:Bool) (l1:Addr) (t2:Bool) (l2:Addr) (t3:Bool) (l3:Addr) (xs ys zs:Array Value):Meets (Builtin.«zip.__new__» ⟨[.type "zip",.ref l1,.ref l2,.ref l3],[]⟩)
  (λ _ R s=>jf t1 s.heap l1 xs/\jf t2 s.heap l2 ys/\jf t3 s.heap l3 zs/\R (.ok (.ret (.ref (X4 s.heap t1 l1 t2 l2 t3 l3).objs.size))) {s with heap:=Ji s.heap t1 l1 t2 l2 t3 l3}):=
 .of_wp λ prog w A R s h=>by
  obtain⟨hp,g,d,tk,os⟩:=s;obtain⟨k1,k2,k3,h⟩:=h;have hsub:=sub_zip;have L1:jf t1 (Shared.heap ⟨hp,g,d,tk,os⟩) l1 xs:=k1;have L2:jf t2 (Shared.heap ⟨SN hp t1 l1,g,d,tk,os⟩) l2 ys:=k2.of λ o e=>z1a _ e;have L3:jf t3 (Shared.heap ⟨SQ hp t1 l1 t2 l2,g,d,tk,os⟩) l3 zs:=k3.of λ o e=>z1a _ (z1a _ e)
  wp_walk using rP L1,rP L2,rP L3
  exact⟨_,rfl,h⟩
section
variable {prog:Program} {w:World} {A:Around} {E:Value->Shared->Prop} {s:Shared}
theorem SX {ys zs:Array Value} (k1:jf t1 s.heap l1 xs) (k2:jf t2 s.heap l2 ys) (k3:jf t3 s.heap l3 zs)
  (h:∀h',Z3 h' (s.heap.objs.size+5) (s.heap.objs.size+3) (s.heap.objs.size+4) s.heap.objs.size (s.heap.objs.size+1) (s.heap.objs.size+2) t1 t2 t3 l1 l2 l3 0->(∀c o,s.heap.get? c=some o->h'.get? c=some o)->Q (.ref (s.heap.objs.size+5)) {s with heap:=h'}):
  wpAny (model prog w) A (call (.type "zip") [.ref l1,.ref l2,.ref l3]) Q E s:=by
 refine callType_new F.called_zip (by decide) (Dm _ _ _) (GZ _ _ _) (λ obj=>YW obj _ _ _) F.entry_zip_new (Qm t1 l1 t2 l2 t3 l3 xs ys zs) ⟨k1,k2,k3,?_⟩;have z1:(SN s.heap t1 l1).objs.size=s.heap.objs.size+1:=Heap.size_push ..;have z2:(SQ s.heap t1 l1 t2 l2).objs.size=s.heap.objs.size+2:=by rw[Heap.size_push,z1]
 have z3:(XS s.heap t1 l1 t2 l2 t3 l3).objs.size=s.heap.objs.size+3:=by rw[Heap.size_push,z2]
 have z4:(X3 s.heap t1 l1 t2 l2 t3 l3).objs.size=s.heap.objs.size+4:=by rw[Heap.size_push,z3]
 have z5:(X4 s.heap t1 l1 t2 l2 t3 l3).objs.size=s.heap.objs.size+5:=by rw[Heap.size_push,z4]
 have a6:(Ji s.heap t1 l1 t2 l2 t3 l3).get? (X4 s.heap t1 l1 t2 l2 t3 l3).objs.size=some _:=z1f _ rfl;have a5:(Ji s.heap t1 l1 t2 l2 t3 l3).get? (X3 s.heap t1 l1 t2 l2 t3 l3).objs.size=some _:=z1a _ (z1f _ rfl);have a4:(Ji s.heap t1 l1 t2 l2 t3 l3).get? (XS s.heap t1 l1 t2 l2 t3 l3).objs.size=some _:=z1a _ (z1a _ (z1f _ rfl));have a3:(Ji s.heap t1 l1 t2 l2 t3 l3).get? (SQ s.heap t1 l1 t2 l2).objs.size=some (itR t3 l3):=z1a _ (z1a _ (z1a _ (z1f _ rfl)));have a2:(Ji s.heap t1 l1 t2 l2 t3 l3).get? (SN s.heap t1 l1).objs.size=some (itR t2 l2):=z1a _ (z1a _ (z1a _ (z1a _ (z1f _ rfl))));have a1:(Ji s.heap t1 l1 t2 l2 t3 l3).get? s.heap.objs.size=some (itR t1 l1):=z1a _ (z1a _ (z1a _ (z1a _ (z1a _ (z1f _ rfl)))));show _/\_;rw[z3,z4,z5] at a6;rw[z4] at a5;rw[z1,z2,z3] at a4;rw[z2] at a3;rw[z1] at a2;rw[z5];exact⟨⟨_,a6,rfl⟩,h _ ⟨a6,a4,⟨_,_,_,a5⟩,.new a1,.new a2,.new a3⟩ λ c o e=>z1a _ (z1a _ (z1a _ (z1a _ (z1a _ (z1a _ e)))))⟩
end
section
variable {X:Cx} {rO:List Expr} {kk:Nat} {pp:Pos} {a b c:Expr} {p pos:Pos}
def aco (K:PySem.W.Frag) (ta:TA):TI:=λ σ H R=>ta σ H λ vs H1=>∃t1 l1 t2 l2 t3 l3,vs=[.ref l1,.ref l2,.ref l3]/\(∃xs,Sq t1 K H1 l1 xs)/\(∃ys,Sq t2 K H1 l2 ys)/\(∃zs,Sq t3 K H1 l3 zs)/\R (V0 K t1 l1 t2 l2 t3 l3) H1
theorem YX (hg:Gl X "zip") (hm:X.mg "zip" =none) (ha:PA X [a,b,c] ta) (he:starEach [a,b,c] X.env=(false,eval a X.env)::starEach [b,c] X.env:=by rfl) (hpl:(backTo pos (starEach [b,c] X.env)).any (·.1)=false:=by rfl):
    PI X (.Tuple rO kk pp) (.Call (.Name "zip" p) [a,b,c] [] pos) (aco X.K ta):=by
  intro pins s σ H R I h
  refine Call_ (ld_blt I hg hm Ss (PyProof.Rows.callWith_type1 (thn (ha pos pins s σ H _ I h) fun us s1 ⟨vs,H1,I1,r1,q1⟩=>?_) he hpl))
  obtain⟨t1,l1,t2,l2,t3,l3,e,⟨xs,w1⟩,⟨ys,w2⟩,⟨zs,w3⟩,q⟩:=q1
  subst e
  cases r1 with
  | cons r rr=>
    cases rr with
    | cons r' rr=>
      cases rr with
      | cons r'' rr=>
        cases rr
        cases r
        cases r'
        cases r''
        obtain⟨vs1,_,p1⟩:=I1.sq w1
        obtain⟨vs2,_,p2⟩:=I1.sq w2
        obtain⟨vs3,_,p3⟩:=I1.sq w3
        refine SX p1 p2 p3 fun h' st k=>wpAny_pyIter_zip st.z ⟨s1.heap.objs.size+5,[s1.heap.objs.size+5,s1.heap.objs.size+3,s1.heap.objs.size+4,s1.heap.objs.size,s1.heap.objs.size+1,s1.heap.objs.size+2],_,_,H1,rfl,I1.kept (t':=s1.toks) k,SM ?_ ?_ ?_ ?_ ?_ ?_ ?_ ?_ ?_ ?_ ?_ ?_ ?_ ?_ ?_,st,fun c hc=>(by
        have hle:s1.heap.objs.size≤c:=by
          simp only[List.mem_cons,List.not_mem_nil,or_false] at hc
          rcases hc with rfl |rfl |rfl |rfl |rfl |rfl <;> first |exact Nat.le_refl _ |exact Nat.le_add_right _ _
        exact I1.fpOk hle (I1.hok.fresh hle)),q⟩
        all_goals (show @Ne Nat _ _;omega)
end
section
variable {K:PySem.W.Frag} {O:Addr->Prop} {H:Hp}
theorem aJ.three {d e f:D} {xs:List V} (r:aJ K O H [d,e,f] xs):∃x y z,xs=[x,y,z]/\Rep K O H d x/\Rep K O H e y/\Rep K O H f z:=by
 obtain⟨x,t,rfl,h1,h2⟩:=r.cons_inv;obtain⟨y,z,rfl,h3,h4⟩:=h2.two;exact⟨x,y,z,rfl,h1,h3,h4⟩
theorem S5 {xs ys zs:List D} {d:D} (h:(yH xs ys zs)[i]?=some d):∃x y z,xs[i]?=some x/\ys[i]?=some y/\zs[i]?=some z/\d= .tup [x,y,z]:=by
 unfold yH at h;rw[z2b] at h;cases e:(xs.zip (ys.zip zs))[i]? with
 |none=>rw[e] at h;cases h
 | some p=>
  rw[e] at h;cases h;obtain⟨h1,h2⟩:=List.getElem?_zip_eq_some.mp e;obtain⟨h3,h4⟩:=List.getElem?_zip_eq_some.mp h2;exact⟨_,_,_,h1,h3,h4,rfl⟩
theorem YR.wG {a1 a2 a3:Addr} {xs ys zs:List D} (s1:Src K O H t1 a1 xs) (s2:Src K O H t2 a2 ys) (s3:Src K O H t3 a3 zs):YR K O H (V0 K t1 a1 t2 a2 t3 a3) (yH xs ys zs):=by
 intro O' H' q i;obtain⟨v1,q1,r1⟩:=s1.go q;obtain⟨v2,q2,r2⟩:=s2.go q;obtain⟨v3,q3,r3⟩:=s3.go q;refine⟨λ d e=>?_,λ e=>⟨v1,v2,v3,q1,q2,q3,?_⟩⟩
 ·obtain⟨x,y,z,e1,e2,e3,rfl⟩:=S5 e;obtain⟨u1,g1,w1⟩:=r1.get e1;obtain⟨u2,g2,w2⟩:=r2.get e2;obtain⟨u3,g3,w3⟩:=r3.get e3;refine⟨⟨v1,v2,v3,u1,u2,u3,q1,g1,q2,g2,q3,g3⟩,λ x H2 y=>?_⟩;obtain⟨p,x1,x2,x3,hp,rfl,rfl,k1,k2,k3⟩:=y;have k1:=k1 _ q1;have k2:=k2 _ q2;have k3:=k3 _ q3;rw[g1] at k1;cases k1;rw[g2] at k2;cases k2;rw[g3] at k3;cases k3;exact⟨Same.upd hp,f9 (SqT.of upd_same) ((aJ.cons w1 (.cons w2 (.cons w3 .nil))).same (Same.upd hp))⟩
 ·rw[<-r1.length,<-r2.length,<-r3.length];simp only[yH,z1g,List.length_zip] at e;omega
end
section
variable {X:Cx} {rO:List Expr} {kk:Nat} {pp:Pos} {a b c:Expr} {p pos:Pos} {fa:ao->R (List D)}
theorem nY {x:D} {c:Str} (h:dG x= .err c):False:=by cases x <;> cases h
theorem YZ (hg:Gl X "zip") (hm:X.mg "zip" =none) (ha:DA X [a,b,c] fa) (he:starEach [a,b,c] X.env=(false,eval a X.env)::starEach [b,c] X.env:=by rfl) (hpl:(backTo pos (starEach [b,c] X.env)).any (·.1)=false:=by rfl):
  DI X (.Tuple rO kk pp) (.Call (.Name "zip" p) [a,b,c] [] pos) (λ ρ=>(fa ρ).bind wG):=by
 refine PI.imp (YX hg hm ha he hpl) λ σ H Q q=>?_;obtain⟨ρ,O,j,q⟩:=q;refine go j q λ ds vs H1 e1 s1 r1 j1 h1=>?_;unfold wG at h1;split at h1
 ·rename_i x y z;obtain⟨v1,v2,v3,rfl,w1,w2,w3⟩:=r1.three;cases ex:dG x with
  |bad=>rw[ex] at h1;exact h1.elim
  |err c=>exact (nY ex).elim
  | ok xs=>
   cases ey:dG y with
   |bad=>rw[ex,R.aR,ey] at h1;exact h1.elim
   |err c=>exact (nY ey).elim
   | ok ys=>
    cases ez:dG z with
    |bad=>rw[ex,R.aR,ey,R.aR,ez] at h1;exact h1.elim
    |err c=>exact (nY ez).elim
    | ok zs=>
     rw[ex,R.aR,ey,R.aR,ez,R.aR] at h1;obtain⟨t1,a1,rfl,c1⟩:=uc w1 ex;obtain⟨t2,a2,rfl,c2⟩:=uc w2 ey;obtain⟨t3,a3,rfl,c3⟩:=uc w3 ez;obtain⟨vs1,k1,_⟩:=c1.ex;obtain⟨vs2,k2,_⟩:=c2.ex;obtain⟨vs3,k3,_⟩:=c3.ex;exact⟨t1,a1,t2,a2,t3,a3,rfl,⟨vs1,k1⟩,⟨vs2,k2⟩,⟨vs3,k3⟩,fin h1 (YR.wG c1 c2 c3)⟩
 ·exact h1.elim
end
def FJ (ns:List Int):List Int:=ns.mergeSort λ a b=>decide (a<=b)
theorem V5 (ns:List Int):(FJ ns).Perm ns:=List.mergeSort_perm _ _
theorem V6 (ns:List Int):(FJ ns).Pairwise (· <= ·):=by
 have h:=List.pairwise_mergeSort (le:=λ a b:Int=>decide (a<=b)) (λ a b c h1 h2=>by simp at *;omega) (λ a b=>by simp;omega) ns;exact h.imp λ h=>by simpa using h
theorem V7 {a b:List Int} (p:a.Perm b) (ha:a.Pairwise (· <= ·)) (hb:b.Pairwise (· <= ·)):a=b:=by
 induction a generalizing b with
 |nil=>exact (List.nil_perm.mp p).symm
 | cons x a ih=>
  cases b with
  |nil=>exact absurd (List.perm_nil.mp p) (by simp)
  | cons y b=>
   have ha':=List.pairwise_cons.mp ha;have hb':=List.pairwise_cons.mp hb;have h1:x=y:=by
    rcases List.mem_cons.mp (p.mem_iff.mp (List.mem_cons_self (a:=x) (l:=a))) with h |h
    ·exact h
    ·rcases List.mem_cons.mp (p.mem_iff.mpr (List.mem_cons_self (a:=y) (l:=b))) with k |k
     ·exact k.symm
     ·have:=ha'.1 y k;have:=hb'.1 x h;omega
   subst h1;rw[ih (List.perm_cons x |>.mp p) ha'.2 hb'.2]
theorem Jj {a b:List Int} (p:a.Perm b) (h:a.Pairwise (· <= ·)):a=FJ b:=V7 (p.trans (V5 b).symm) h (V6 b)
section
variable {X:Cx}
theorem Dn:∀{ns:List Int} {its:List Value},Vals (ns.map V.int) its->IntsAre its ns
 |[],_,r=>by cases r;exact .nil
 | n::ns,_,r=>by
  cases r with
  |cons h t=>obtain⟨tk,rfl⟩:=h;exact .cons n tk (Dn t)
theorem Nv:∀{ns:List Int} {its:List Value},IntsAre its ns->Vals (ns.map V.int) its
 |_,_,.nil=> .nil
 |_,_,.cons n t h=> .cons ⟨t,rfl⟩ (Nv h)
theorem wK {K:PySem.W.Frag} {O:Addr->Prop} {H:Hp}:∀{ds:List D} {ns:List Int} {vs:List V},intsOf ds=some ns->aJ K O H ds vs->vs=ns.map V.int
 |[],ns,vs,e,r=>by cases e;exact r.nil_inv
 | d ::ds,ns,vs,e,r=>by
  obtain⟨x,t,rfl,h1,h2⟩:=r.cons_inv;cases d with
  | int i=>
   have e:(intsOf ds).map (i:: ·)=some ns:=e;cases q:intsOf ds with
   |none=>rw[q] at e;cases e
   |some l=>rw[q] at e;cases e;rw[h1.int,wK q h2];rfl
  |_=>cases e
theorem qK {K:PySem.W.Frag} {O:Addr->Prop} {H:Hp}:∀{ns:List Int},aJ K O H (ns.map D.int) (ns.map V.int)
 |[]=> .nil
 |_::_=> .cons (bY _) qK
variable {pos:Pos}
theorem S6 (i k m:Nat) {x z:Str} {py pz:Pos} {kt} (hc:X.calm=true) (hN:X.N.Nodup) (hi:X.N[i]?=some x:=by rfl) (hk:X.N[k]?=some y:=by rfl) (hm:X.N[m]?=some z:=by rfl)
  (hx:Loc X.env.scope x:=by first |exact Or.inl rfl |exact Or.inr rfl) (hy:Loc X.env.scope y:=by first |exact Or.inl rfl |exact Or.inr rfl) (hz:Loc X.env.scope z:=by first |exact Or.inl rfl |exact Or.inr rfl)
  (hfx:X.fn x=true\/X.env.scope.names.lookup x=some .local:=by first |exact .inl rfl |exact .inr rfl) (Az:X.fn y=true\/X.env.scope.names.lookup y=some .local:=by first |exact .inl rfl |exact .inr rfl) (hfz:X.fn z=true\/X.env.scope.names.lookup z=some .local:=by first |exact .inl rfl |exact .inr rfl):
  XD X (.Tuple [.Name x px,.Name y py,.Name z pz] kt pos) (cD (cF 3 (aQ (aF i) (aQ (aF k) (aQ (aF m) nilG))))):=by
 intro pins s σ H v u Q I r h;obtain⟨H0,O0,O,ρ,d,ρ',j,rd,e,q⟩:=h;cases d with
 | tup ds=>
  match ds,e,rd with
  |[],e,_=>cases e
  |[_],e,_=>cases e
  |[_,_],e,_=>cases e
  |_::_::_::_::_,e,_=>simp[cD,cF] at e
  | [d1,d2,d3],e,rd=>
   obtain⟨a,xs,rfl,hq,rs⟩:=rd.tup;obtain⟨v1,v2,v3,rfl,r1,r2,r3⟩:=rs.three;cases e;refine pg_tup hc (pgs_cons (pg_name hN hi hx hfx) (pgs_cons (pg_name hN hk hy Az) (pgs_cons (pg_name hN hm hz hfz) pgs_nil))) rfl rfl pins s σ H _ u Q I r ⟨a,[v1,v2,v3],rfl,hq,rfl,v1,[v2,v3],rfl,v2,[v3],rfl,v3,[],rfl,rfl,?_⟩;exact q _ (((j.set (z1b hi).1 r1).set (z1b hk).1 r2).set (z1b hm).1 r3)
 |_=>cases e
end
def Ite (K:PySem.W.Frag) (t:Bool) (l:Addr):It:=
 ⟨λ i H=>∃xs x,Sq t K H l xs/\xs[i]?=some x,
  λ i H v H'=>∃p x,H p=none/\v= .ref p/\H'=upd H p (.tup [.int (i:Int),x])/\∀xs,Sq t K H l xs->xs[i]?=some x,
  λ i H=>∃xs,Sq t K H l xs/\xs.length<=i⟩
section
variable {X:Cx} {pins:List (Addr×Obj)} {σ:St} {H:Hp} {s:Shared} {A':Around} {E:Value->Shared->Prop}
theorem S7 {e:Addr} {xs:List V} {x:V} {old:Value} (I:Inv X pins σ H s) (fe:FpOk X pins H e) (fi:FpOk X pins H it) (ne:e≠it)
  (he:IsEnum s.heap e it k old) (hs:je t s.heap it l k) (q:Sq t X.K H l xs) (ex:xs[k]?=some x)
  (hQ:∀h' u,Inv X pins σ (upd H s.heap.objs.size (.tup [.int (k:Int),x])) {s with heap:=h',toks:=s.toks+1}->IsEnumOut h' e it ((k:Int)+1) u s.heap.objs.size->je t h' it l (k+1)->Q (.ref s.heap.objs.size) {s with heap:=h',toks:=s.toks+1}):
  wpAny (model X.prog X.w) A' (Builtin.«enumerate.__next__» ⟨[.ref e],[]⟩) (λ fin s'=>∃v,fin= .done (.ret v)/\Q v s') E s:=by
 obtain⟨us,r1,p1⟩:=I.sq q;obtain⟨u,hu,ru⟩:=r1.get ex;obtain⟨hp,g,d,tk,os⟩:=s;show wpAny _ _ (field (.ref e) 2 >>=_) _ _ _;refine wpAny_bind (wpAny_field he rfl (x:= .ref it) rfl ?_);refine wpAny_bind (pO hs p1 (v:=u) (by simpa using hu) λ g1 s1 b1=>?_);have I1:=I.fp fi b1
 replace b1:Heap.SameBut it hp g1:=b1
 have e1:IsEnum g1 e it k old:=(b1.2 e ne).trans he;show wpAny _ _ (field (.ref e) 3 >>=_) _ _ ⟨g1,g,d,tk,os⟩;refine wpAny_bind (wpAny_field e1 rfl (x:=rawInt k) rfl ?_);show wpAny _ _ (field (.ref e) 4 >>=_) _ _ ⟨g1,g,d,tk,os⟩;refine wpAny_bind (wpAny_field e1 rfl (x:= .none) rfl ?_);show wpAny _ _ (mkInt k >>=_) _ _ ⟨g1,g,d,tk,os⟩;refine wpAny_bind (wpAny_mkInt ?_);have I1':Inv X pins σ H ⟨g1,g,d,tk+1,os⟩:=Inv.tok (s:=⟨g1,g,d,tk,os⟩) I1 (tk+1);show wpAny _ _ (setField (.ref e) 3 (rawInt ((k:Int)+1)) >>=_) _ _ ⟨g1,g,d,tk+1,os⟩;refine wpAny_bind (wpAny_setField_rec e1 (by simp) λ g2 e2 b2=>?_);have I2:=I1'.fp fe b2
 replace b2:Heap.SameBut e g1 g2:=b2
 replace e2:IsEnum g2 e it ((k:Int)+1) old:=e2
 show wpAny _ _ (setField (.ref e) 4 .none >>=_) _ _ ⟨g2,g,d,tk+1,os⟩;refine wpAny_bind (wpAny_setField_rec e2 (by simp) λ g3 e3 b3=>?_);have I3:=I2.fp fe b3
 replace b3:Heap.SameBut e g2 g3:=b3
 replace e3:IsEnum g3 e it ((k:Int)+1) old:=e3
 show wpAny _ _ (newTuple [.int k tk,u] >>=_) _ _ ⟨g3,g,d,tk+1,os⟩;refine wpAny_bind (wpAny_newTuple ?_);have sz:g3.objs.size=hp.objs.size:=by rw[b3.1,b2.1,b1.1]
 have lt:e≠g3.objs.size:=Nat.ne_of_lt (z2c e3);have I4:Inv X pins σ (upd H g3.objs.size (.tup [.int (k:Int),x])) ⟨g3.push {cls:= .type "tuple",data:= .seq #[.int k tk,u]},g,d,tk+1,os⟩:=
  Inv.laid (s:=⟨g3,g,d,tk+1,os⟩) (t':=tk+1) I3 (λ b u e=>z1a _ e) (z0g _) ⟨R7,[.int k tk,u],.cons ⟨tk,rfl⟩ (.cons ru .nil),⟨_,z1f _ rfl,rfl,rfl,_,rfl⟩⟩
 have e4:IsEnum (g3.push {cls:= .type "tuple",data:= .seq #[.int k tk,u]}) e it ((k:Int)+1) old:=z1a _ e3;have s4:je t (g3.push {cls:= .type "tuple",data:= .seq #[.int k tk,u]}) it l (k+1):=s1.of λ o z=>z1a _ (b3.extBut _ _ (Ne.symm ne) (b2.extBut _ _ (Ne.symm ne) z));show wpAny _ _ (Builtin.SmallTypes.ownedTupleIsFree (.ref e) >>=_) _ _ ⟨g3.push {cls:= .type "tuple",data:= .seq #[.int k tk,u]},g,d,tk+1,os⟩
 generalize g3.push {cls:= .type "tuple",data:= .seq #[.int k tk,u]}=g4 at *
 refine wpAny_bind ?_;unfold Builtin.SmallTypes.ownedTupleIsFree;refine wpAny_bind (wpAny_field e4 rfl (x:= .none) rfl (wpAny_pure ?_));simp only[if_true];refine wpAny_bind (wpAny_rule (wpAny_bind (wpAny_field e4 rfl (x:=old) rfl ?_)));refine wpAny_bind (wpAny_setField_rec e4 (by simp) λ g5 e5 b5=>?_);have I5:=I4.fp (fe.upd lt) b5
 replace b5:Heap.SameBut e g4 g5:=b5
 replace e5:IsEnum g5 e it ((k:Int)+1) u:=e5
 show wpAny _ _ (Builtin.SmallTypes.ownedTupleHandOut (.ref e) (.ref g3.objs.size) >>=_) _ _ ⟨g5,g,d,tk+1,os⟩;refine wpAny_bind ?_;unfold Builtin.SmallTypes.ownedTupleHandOut;refine wpAny_bind (wpAny_setField_rec e5 (by simp) λ g6 e6 b6=>?_);have I6:=I5.fp (fe.upd lt) b6
 replace b6:Heap.SameBut e g5 g6:=b6
 replace e6:IsEnumOut g6 e it ((k:Int)+1) u g3.objs.size:=e6
 refine wpAny_setField_rec e6 (by simp) λ g7 e7 b7=>?_;have I7:=I6.fp (fe.upd lt) b7
 replace b7:Heap.SameBut e g6 g7:=b7
 replace e7:IsEnumOut g7 e it ((k:Int)+1) u g3.objs.size:=e7
 refine wpAny_bind (wpAny_letGo (wpAny_pure ⟨_,rfl,?_⟩));rw[sz] at I7 e7;show Q (.ref g3.objs.size) _;rw[sz];exact hQ g7 u I7 e7 (s4.of λ o z=>b7.extBut _ _ (Ne.symm ne) (b6.extBut _ _ (Ne.symm ne) (b5.extBut _ _ (Ne.symm ne) z)))
end
theorem S8 {kk} {e:Addr} (ne:e≠it):
  Turn P w K (.Tuple rO kk pp) (Ite K t l) [e,it] e (λ i h=>(∃old,IsEnum h e it i old)/\je t h it l i) where
 mem:=by simp
 obj:=λ i h st b hb=>by
  obtain⟨⟨old,he⟩,hs⟩:=st;simp only[List.mem_cons,List.not_mem_nil,or_false] at hb;rcases hb with rfl |rfl
  ·exact⟨_,he,λ v q=>by have q':Data.fields _=Data.cell v:=q;cases q'⟩
  ·exact hs.obj
 keep:=λ i h h' st k=>by
  obtain⟨⟨old,he⟩,hs⟩:=st;exact⟨⟨old,k _ (by simp) _ he⟩,hs.of λ o z=>k _ (by simp) o z⟩
 item :=by
  intro X hP hw hK hc i pins s σ H E I hf st hg;subst hP hw hK;obtain⟨⟨old,he⟩,hs⟩:=st;obtain⟨xs,x,q,ex⟩:=hg;have hT:s.TypeIs (.ref e) "enumerate" :=⟨_,he,rfl⟩;have hp:H s.heap.objs.size=none:=I.hok.fresh (z0g _);have nz:∀b,b∈[e,it]->b≠s.heap.objs.size:=λ b hb z=>by
   obtain⟨o,eo⟩:∃o,s.heap.get? b=some o:=by
    simp only[List.mem_cons,List.not_mem_nil,or_false] at hb;rcases hb with rfl |rfl
    ·exact⟨_,he⟩
    ·obtain⟨o,eo,_⟩:=hs.obj;exact⟨o,eo⟩
   exact absurd (z2c eo) (by rw[z];exact Nat.lt_irrefl _)
  unfold pyNext;refine wpAny_bind (wpAny_attempt (wpAny_callSpecial?_slot (name:=Str.ofString "__next__") hT F.slot_enumerate_next (wpAny_call_entry F.slot_enumerate_next hT F.entry_enumerate_next
   (S7 I (hf e (by simp)) (hf it (by simp)) ne he hs q ex λ h' u I' e' s'=>wpAny_pure ⟨_,rfl,?_⟩) (F.args_enumerate_next_1 _))))
  refine wpAny_letOwnedTupleGo_enum e' λ h'' e'' b''=>⟨.ref s.heap.objs.size,upd H s.heap.objs.size (.tup [.int (i:Int),x]),I'.fp ((hf e (by simp)).upd (nz e (by simp))) b'',rfl,⟨_,x,hp,rfl,rfl,λ xs' q'=>by rw[I.tZ q' q];exact ex⟩,⟨⟨u,by simpa using e''⟩,s'.of λ o z=>b''.extBut _ _ (Ne.symm ne) z⟩,λ b hb=>?_⟩;rw[upd_ne (nz b hb)];exact (hf b hb).1
 done:=by
  intro X hP hw hK hc i pins s σ H E I hf st hg;subst hP hw hK;obtain⟨⟨old,he⟩,hs⟩:=st;obtain⟨xs,q,en⟩:=hg;obtain⟨us,r1,p1⟩:=I.sq q;have hT:s.TypeIs (.ref e) "enumerate" :=⟨_,he,rfl⟩;unfold pyNext;refine wpAny_bind (wpAny_attempt (wpAny_callSpecial?_slot (name:=Str.ofString "__next__") hT F.slot_enumerate_next (wpAny_call_entry F.slot_enumerate_next hT F.entry_enumerate_next ?_ (F.args_enumerate_next_1 _))));show wpAny _ _ (field (.ref e) 2 >>=_) _ _ _;refine wpAny_bind (wpAny_field he rfl (x:= .ref it) rfl ?_);refine wpAny_bind (ni (I.ok.hd hc) hs p1 (by have:=r1.length;simp;omega) λ g1 x eb bA=>?_);obtain⟨o,ho,ec⟩:=bA;exact wpAny_bind (wpAny_isInstance (T:= "StopIteration") (b:=true) ⟨o,ho,ec⟩ isSubtype_stop (wpAny_pure ⟨rfl,I.fpE (hf it (by simp)) eb⟩))
 self:=λ _ _ _ _ _ st h=>by
  obtain⟨⟨old,he⟩,_⟩:=st;exact wpAny_pyIter_enum he h
theorem Ly (t:Bool) (l:Addr) (xs:Array Value):Meets (Builtin.«enumerate.__new__» ⟨[.type "enumerate",.ref l],[]⟩)
  (λ _ R s=>jf t s.heap l xs/\R (.ok (.ret (.ref (s.heap.push (itR t l)).objs.size))) {s with heap:=(s.heap.push (itR t l)).push {cls:= .type "enumerate",data:= .fields #[.none,.bool false,.ref s.heap.objs.size,rawInt 0,.none,.none]}}):=
 .of_wp λ prog w A R s h=>by
  obtain⟨hp,g,d,tk,os⟩:=s;obtain⟨k1,h⟩:=h;have hsub:=sub_enumerate;have L1:jf t (Shared.heap ⟨hp,g,d,tk,os⟩) l xs:=k1
  wp_walk using rP L1
  refine wpAny_stack_any λ st=>wpAny_pure ?_;split
  ·rename_i c _ _ _ _ _;cases (c ==Value.type "enumerate") <;> (wp_walk using rP L1;exact⟨_,rfl,h⟩)
  ·wp_walk using rP L1
   exact⟨_,rfl,h⟩
section
variable {prog:Program} {w:World} {A:Around} {E:Value->Shared->Prop} {s:Shared}
theorem Qn (k1:jf t s.heap l xs)
  (h:∀h',IsEnum h' (s.heap.objs.size+1) s.heap.objs.size 0 .none->je t h' s.heap.objs.size l 0->(∀c o,s.heap.get? c=some o->h'.get? c=some o)->Q (.ref (s.heap.objs.size+1)) {s with heap:=h'}):
  wpAny (model prog w) A (call (.type "enumerate") [.ref l]) Q E s:=by
 refine callType_new F.called_enumerate (by decide) (F.typeCall_enumerate_1 _) (F.newCall_enumerate_1 _) (λ obj=>F.args_object_init_2 obj _) F.entry_enumerate_new (Ly t l xs) ⟨k1,?_⟩;have z1:(s.heap.push (itR t l)).objs.size=s.heap.objs.size+1:=Heap.size_push ..;have a2:((s.heap.push (itR t l)).push {cls:= .type "enumerate",data:= .fields #[.none,.bool false,.ref s.heap.objs.size,rawInt 0,.none,.none]}).get? (s.heap.push (itR t l)).objs.size=some _:=z1f _ rfl;show _/\_;rw[z1] at a2 |-;exact⟨⟨_,a2,rfl⟩,h _ a2 (.new (z1a _ (z1f _ rfl))) λ c o e=>z1a _ (z1a _ e)⟩
end
section
variable {X:Cx} {rO:List Expr} {kk:Nat} {pp:Pos} {a:Expr} {p pos:Pos} {fa:ao->R (List D)}
def acp (K:PySem.W.Frag) (ta:TA):TI:=λ σ H R=>ta σ H λ vs H1=>∃t l,vs=[.ref l]/\(∃xs,Sq t K H1 l xs)/\R (Ite K t l) H1
theorem Y0 (hg:Gl X "enumerate") (hm:X.mg "enumerate" =none) (ha:PA X [a] ta) (he:starEach [a] X.env=(false,eval a X.env)::starEach [] X.env:=by rfl) (hpl:(backTo pos (starEach [] X.env)).any (·.1)=false:=by rfl):
    PI X (.Tuple rO kk pp) (.Call (.Name "enumerate" p) [a] [] pos) (acp X.K ta):=by
  intro pins s σ H R I h
  refine Call_ (ld_blt I hg hm boot_enumerate (PyProof.Rows.callWith_type1 (thn (ha pos pins s σ H _ I h) fun us s1 ⟨vs,H1,I1,r1,q1⟩=>?_) he hpl))
  obtain⟨t,l,e,⟨xs,w1⟩,q⟩:=q1
  subst e
  cases r1 with
  | cons r rr=>
    cases rr
    cases r
    obtain⟨vs1,_,p1⟩:=I1.sq w1
    refine Qn p1 fun h' e' s' k=>wpAny_pyIter_enum e' ⟨s1.heap.objs.size+1,[s1.heap.objs.size+1,s1.heap.objs.size],_,_,H1,rfl,I1.kept (t':=s1.toks) k,S8 ?_,⟨⟨_,e'⟩,s'⟩,fun c hc=>(by
        have hle:s1.heap.objs.size≤c:=by
          simp only[List.mem_cons,List.not_mem_nil,or_false] at hc
          rcases hc with rfl |rfl <;> first |exact Nat.le_refl _ |exact Nat.le_add_right _ _
        exact I1.fpOk hle (I1.hok.fresh hle)),q⟩
    all_goals (show @Ne Nat _ _;omega)
def iR:Nat->List D->List D
 |_,[]=>[]
 |n,d::ds=> .tup [.int (n:Int),d]::iR (n+1) ds
theorem FN:∀{ds:List D} {n i:Nat} {d:D},(iR n ds)[i]?=some d->∃x,ds[i]?=some x/\d= .tup [.int ((n+i:Nat):Int),x]
 |[],_,_,_,h=>by simp[iR] at h
 |x::ds,n,0,d,h=>by simp[iR] at h;exact⟨x,rfl,by rw[<-h];rfl⟩
 | x::ds,n,i+1,d,h=>by
  rw[iR,List.getElem?_cons_succ] at h;obtain⟨y,e1,e2⟩:=FN h;exact⟨y,by rw[List.getElem?_cons_succ];exact e1,by rw[e2,show n+1+i=n+(i+1) by omega]⟩
theorem FQ:∀{ds:List D} {n:Nat},(iR n ds).length=ds.length
 |[],_=>rfl
 |_::ds,n=>by rw[iR,List.length_cons,FQ,List.length_cons]
def kY:List D->R (List D)
 |[x]=>(dG x).bind λ xs=> .ok (iR 0 xs)
 |_=> .bad
theorem YR.enum {O:Addr->Prop} {a:Addr} {xs:List D} (s1:Src K O H t a xs):YR K O H (Ite K t a) (iR 0 xs):=by
 intro O' H' q i;obtain⟨v1,q1,r1⟩:=s1.go q;refine⟨λ d e=>?_,λ e=>⟨v1,q1,?_⟩⟩
 ·obtain⟨x,e1,rfl⟩:=FN e;obtain⟨u1,g1,w1⟩:=r1.get e1;refine⟨⟨v1,u1,q1,g1⟩,λ x H2 y=>?_⟩;obtain⟨p,x1,hp,rfl,rfl,k1⟩:=y;have k1:=k1 _ q1;rw[g1] at k1;cases k1;rw[Nat.zero_add];exact⟨Same.upd hp,f9 (SqT.of upd_same) ((aJ.cons (bY _) (.cons w1 .nil)).same (Same.upd hp))⟩
 ·rw[<-r1.length,<-FQ (n:=0)];exact e
theorem nj (hg:Gl X "enumerate") (hm:X.mg "enumerate" =none) (ha:DA X [a] fa) (he:starEach [a] X.env=(false,eval a X.env)::starEach [] X.env:=by rfl) (hpl:(backTo pos (starEach [] X.env)).any (·.1)=false:=by rfl):
  DI X (.Tuple rO kk pp) (.Call (.Name "enumerate" p) [a] [] pos) (λ ρ=>(fa ρ).bind kY):=by
 refine PI.imp (Y0 hg hm ha he hpl) λ σ H Q q=>?_;obtain⟨ρ,O,j,q⟩:=q;refine go j q λ ds vs H1 e1 s1 r1 j1 h1=>?_;unfold kY at h1;split at h1
 ·rename_i x;obtain⟨v1,rfl,w1⟩:=r1.one;cases ex:dG x with
  |bad=>rw[ex] at h1;exact h1.elim
  |err c=>exact (nY ex).elim
  | ok xs=>
   rw[ex,R.aR] at h1;obtain⟨t1,a1,rfl,c1⟩:=uc w1 ex;obtain⟨vs1,k1,_⟩:=c1.ex;exact⟨t1,a1,rfl,⟨vs1,k1⟩,fin h1 (YR.enum c1)⟩
 ·exact h1.elim
end
section
variable {prog:Program} {w:World} {A:Around} {E:Value->Shared->Prop} {s:Shared}
end
section
variable {X:Cx} {a:Expr} {p pos p2 pos2:Pos} {fa:ao->R (List D)}
def aaT (K:PySem.W.Frag) (ta:TA):TE:=λ σ H Q=>ta σ H λ vs H1=>∃j:Int,vs=[.int j]/\0<=j/\j<=1000/\∀q,H1 q=none->Q (.ref q) (upd H1 q (.rng 0 j))
theorem Jk (hg:Gl X "range") (hm:X.mg "range" =none) (ha:PA X [a] ta) (hs:starEach [a] X.env=[(false,eval a X.env)]:=by rfl):PE X (.Call (.Name "range" p) [a] [] pos) (aaT X.K ta):=by
 intro pins s σ H Q I h;refine Call_ (ld_blt I hg hm boot_range (PyProof.Rows.callWith_type1 (thn (ha pos pins s σ H _ I h) λ us s1 ⟨vs,H1,I1,r1,q1⟩=>?_) hs rfl));obtain⟨j,e,h0,h1,q⟩:=q1;subst e;cases r1 with
 | cons r rr=>
  cases rr;obtain⟨t,rfl⟩:=r;refine call_range_1 ?_;exact⟨.ref s1.heap.objs.size,upd H1 s1.heap.objs.size (.rng 0 j),I1.laid (λ b o e=>z1a _ e) (z0g _) ⟨_,_,_,z1f _ rfl⟩,rfl,q _ (I1.hok.fresh (z0g _))⟩
end
section
variable {X:Cx} {e:Expr} {f:ao->R D} {pos:Pos}
def Jl (i:Nat) (f:ao->R D):ao->So:=λ ρ=>match ρ[i]? with
 | some (some (.val (.int a)))=>fQ (f ρ) ρ λ d=>match d with
  | .int b=> .nx (ρ.set i (some (.val (.int (a+b)))))
  |_=> .bad
 |_=> .bad
theorem aaU (i:Nat) {x:Str} {pos':Pos} (hN:X.N.Nodup) (he:DE X e f) (hi:X.N[i]?=some x:=by rfl) (hx:Loc X.env.scope x:=by first |exact Or.inl rfl |exact Or.inr rfl)
  (hf:X.fn x=true\/X.env.scope.names.lookup x=some .local:=by first |exact .inl rfl |exact .inr rfl):DS X (.AugAssign (.Name x pos') .Add e pos) (Jl i f):=by
 refine PS.imp (ps_aug hN hi hx he ip_add hf) λ σ H E h=>?_;obtain⟨H0,O0,O,ρ,j,h⟩:=h;unfold Jl at h;cases e1:ρ[i]? with
 |none=>simp only[e1] at h;exact h.elim
 | some oe =>
  cases oe with
  |none=>simp only[e1] at h;exact h.elim
  | some en=>
   cases en with
   |lst _=>simp only[e1] at h;exact h.elim
   |qj _=>simp only[e1] at h;exact h.elim
   |rws _=>simp only[e1] at h;exact h.elim
   |obj _=>simp only[e1] at h;exact h.elim
   | val d=>
    cases d with
    | int a=>
     simp only[e1] at h;obtain⟨v,hv,rv⟩:=j.inn.env.get i _ e1;have rv:v= .int a:=Rep.int (K:=X.K) (O:=O) (H:=H) rv;subst rv;refine⟨.int a,hv,ρ,O,j.inn,?_⟩;unfold fQ at h;cases e2:f ρ with
     |bad=>rw[e2] at h;exact h
     |err c=>rw[e2] at h;exact h σ H O j
     | ok d=>
      rw[e2] at h;intro v' H' s r;cases d with
      |int b=>exact⟨a,b,rfl,r.int,h _ H' O ((j.grow s).set (z1b hi).1 (bY _)) (Same.dg s)⟩
      |_=>exact h.elim
    |_=>simp only[e1] at h;exact h.elim
def V8 (K:PySem.W.Frag) (mg:Str->Option Value) (x:Str) (ss:List Str):Prop:=∃a,mg x=some (.ref a)/\∀H,SqT K H a (ss.map V.str)
theorem FW {K:PySem.W.Frag} {O:Addr->Prop} {H:Hp}:∀{ss:List Str},aJ K O H (ss.map D.str) (ss.map V.str)
 |[]=> .nil
 |_::_=> .cons (CV _) FW
theorem Y4 {x:Str} {ss:List Str} {pos:Pos} (hg:Gl X x) (h:V8 X.K X.mg x ss) (hd:(x ==("__debug__" :Str))=false:=by decide):DE X (.Name x pos) (λ _=> .ok (.tup (ss.map D.str))):=by
 obtain⟨a,hm,hq⟩:=h;exact CW (pe_glob (v:= .ref a) hg hm rfl hd) λ _ H=>f9 (hq H) FW
end
theorem Y5 {mg:Str->Option Value} {x:Str} {ss:List Str} {a:Addr} {its:Array Value} {sl:Array (Option Value)} (X:K.In h) (G:h.Ns mainGlobals mg)
  (y:PySem.W.nsIn K mainGlobals x=some (some (.ref a))) (l:K.lookup a=some ⟨.type "tuple",none,.seq its n,sl⟩) (hz:its.size<=sizeLine) (hv:Vals (ss.map V.str) its.toList):V8 K mg x ss:=
 ⟨a,PySem.W.mg_of X G y,λ _=> .inr ⟨_,its,n,l,rfl,rfl,rfl,hz,hv⟩⟩
section
variable {X:Cx}
end
section
variable {X:Cx}
def X5 (X:Cx) (Re:Hp->(Addr->Prop)->Hp->D->V->Prop) (f:ao->R D):TE:=λ σ H Q=>∃ρ O,In X O H ρ σ/\good X (Re H) O (f ρ) σ H Q
def Jm (X:Cx) (Re:Hp->(Addr->Prop)->Hp->D->V->Prop) (e:Expr) (f:ao->R D):Prop:=PE X e (X5 X Re f)
def S9 (X:Cx) (H:Hp) (Ac:Hp->Addr->(Addr->Prop)->Hp->List D->List V->Prop):(Addr->Prop)->Hp->D->V->Prop:=λ O H' d v=>
 ∃Hs a ys ds,d= .lst ds/\v= .ref a/\Same H Hs/\Hs a=none/\X.K.lookup a=none/\Same Hs H'/\H' a=some (.lst ys)/\Ac Hs a O H' ds ys
structure X6 (K:PySem.W.Frag) (Re:Hp->(Addr->Prop)->Hp->D->V->Prop) (Ac:Hp->Addr->(Addr->Prop)->Hp->List D->List V->Prop):Prop where
 nil:∀{H2 a O H'},Ac H2 a O H' [] []
 same:∀{H2 a O H' H'' ds ys},Ac H2 a O H' ds ys->H' a=some (.lst ys)->Same H' H''->Ac H2 a O H'' ds ys
 len:∀{H2 a O H' ds ys},Ac H2 a O H' ds ys->ds.length=ys.length
 app:∀{H2 a O H7 H8 ds ys d v},Ac H2 a O H7 ds ys->H2 a=none->H7 a=some (.lst ys)->Same H2 H7->Same H7 H8->Re H7 (λ b=>O b\/b=a) H8 d v->
  c7 K (λ b=>O b\/b=a) H8 (λ b=>O b\/b=a) (upd H8 a (.lst (ys++[v])))->Ac H2 a O (upd H8 a (.lst (ys++[v]))) (ds++[d]) (ys++[v])
inductive V9 (XB:Cx) (Ac:Hp->Addr->(Addr->Prop)->Hp->List D->List V->Prop) (O1 O:Addr->Prop) (H2:Hp) (Dd:Addr) (fp:List Addr) (tn:Nat->Heap->Prop) (ρ0:ao) (xs:List D) (F:D->R (Option D)) (all:List D) (n:Nat) (s':Shared):Prop
 |mk (i:Nat) (σ':St) (H':Hp) (ys:List V) (ds rest:List D) (en:n=xs.length+1 - i) (hil:i<=xs.length) (I:Inv XB [] σ' H' s') (st:tn i s'.heap) (fr:∀b∈fp,H' b=none) (j:In XB O H' ρ0 σ') (sm:Same H2 H') (hD:H' Dd=some (.lst ys)) (rp:Ac H2 Dd O1 H' ds ys) (hm:jz F (xs.drop i)= .ok rest) (hr:ds++rest=all):V9 XB Ac O1 O H2 Dd fp tn ρ0 xs F all n s'
theorem FZ {Re:Hp->(Addr->Prop)->Hp->D->V->Prop} {Ac:Hp->Addr->(Addr->Prop)->Hp->List D->List V->Prop} (AC:X6 X.K Re Ac) {pos2:Pos} (ts:List Str) (caps:List Nat)
  (hc:X.calm=true) (hb:wu X.env.scope scope ts X.N=true) (hcap:(dI scope).map (λ x=>jx x X.N)=caps)
  (hi:DI X tg iter fi) (hk:lV ts.length gt) (hg:∀C s H ex,(cg X scope ts C s H ex).N.Nodup->DG (cg X scope ts C s H ex) tg gt) (ht:∀C s H ex,Fv (cg X scope ts C s H ex) ifs ft) (he:∀C s H ex,Jm (cg X scope ts C s H ex) Re elt fe)
  (hs:∀x,foldedSetIterable iter X.env x=pure x) {use:Option (Value->Sem Unit)} {Qr:Value->Shared->Prop} {pins:List (Addr×Obj)} {s:Shared} {O:Addr->Prop} {Q:VK} (I:Inv X pins σ H s) (j:In X O H ρ σ)
  (hQ:∀(v:V) (H':Hp) (s5:Shared) (C:Addr) (m:Str->Option Value) (f:Flow) (acc:Value),Q v H'->Inv X pins σ H' s5->s5.heap.Ns C m->FpOk X pins H' C->RelV v acc->compPost (model X.prog X.w) X.A X.xe use Qr acc C (.ok f) s5)
  (h:good X (S9 X H Ac) O (bF ts.length caps fi gt ft fe ρ) σ H Q):
  wpAny (model X.prog X.w) X.A (comprehension (.ListComp elt [⟨tg,iter,ifs,0⟩] scope pos) scope X.env pos2 (newList []) false (eval iter X.env) use) Qr X.xe s:=by
 have B:=acg hb;refine wpAny_comprehension_free (cl:=gq X.env.cells scope.names []) (use:=use) rfl hs (Qc λ x hx e=>?_) B.kind B.loc ?_
 ·obtain⟨n,k⟩:=x;have e:k= .free:=e;subst e;exact I.ok.has n (B.out n (qz hx))
 refine thn (hi pins s σ H (λ J H1=>∃xs,YR X.K O H1 J xs/\In X O H1 ρ σ/\Same H H1/\good X (S9 X H Ac) O ((jz (m6 gt ft fe (yw ts.length caps ρ)) xs).bind (cap .lst)) σ H1 Q) I (Pu.go j h λ xs J H1 e1 s1 y1 j1 h1=>⟨xs,y1,j1,s1,h1⟩)) λ xv s1 h1=>thn h1 λ itv s2 h2=>?_;obtain⟨it,fp,tn,J,H2,e,I2,T,st2,f2,xs,yr,j2,smH,g2⟩:=h2;subst e;rw[<-Qe hcap] at g2
 generalize eρ:pull X.N (dI scope) ts.length (ρ.map uJ)=ρ0 at g2
 obtain⟨all,hall,hlen,g3⟩:∃all,jz (m6 gt ft fe ρ0) xs= .ok all/\all.length<=1000000/\good X (S9 X H Ac) O (.ok (.lst all)) σ H2 Q:=by
  cases e:jz (m6 gt ft fe ρ0) xs with
  |bad=>rw[e] at g2;exact g2.elim
  |err c=>exact absurd e Ay
  | ok all=>
   rw[e] at g2;have g2:good X (S9 X H Ac) O (if all.length<=1000000 then .ok (.lst all) else .bad) σ H2 Q:=g2;by_cases hl:all.length<=1000000
   ·rw[if_pos hl] at g2;exact⟨all,rfl,hl,g2⟩
   ·rw[if_neg hl] at g2;exact g2.elim
 have hlt:∀b∈fp,b < s2.heap.objs.size:=λ b hb=>by
  obtain⟨o,e,_⟩:=T.obj 0 _ st2 b hb;exact z2c e
 refine wpAny_newObj_type (RB ?_)
 generalize hC:(s2.heap.push {cls:= .type "list",dict:=none,data:= .seq ([]:List Value).toArray}).objs.size=C
 have hC':C=s2.heap.objs.size+1:=by rw[<-hC];exact Heap.size_push ..
 generalize e4:pushCells ((s2.heap.push {cls:= .type "list",dict:=none,data:= .seq ([]:List Value).toArray}).push {cls:= .type "dict",data:= .dict #[]}) scope.names=h4
 show codeAny (model X.prog X.w) X.A (.compStart (.ListComp elt [⟨tg,iter,ifs,0⟩] scope pos) 0 (.ref it) (.ref s2.heap.objs.size) (fM scope X.env C)) (compPost (model X.prog X.w) X.A X.xe use Qr (.ref s2.heap.objs.size) C) {s2 with heap:=h4};have Nx:H2 s2.heap.objs.size=none:=I2.hok.fresh (z0g _);have hOn:¬O s2.heap.objs.size:=j2.lQ Nx;have hDk:X.K.lookup s2.heap.objs.size=none:=by
  cases q:X.K.lookup s2.heap.objs.size with
  |none=>rfl
  |some o=>exact absurd (z2c (I2.kIn _ _ q)) (Nat.lt_irrefl _)
 have I4:=Yz (ts:=ts) I2 B f2 hlt hC' e4.symm;have sD:Same H2 (upd H2 s2.heap.objs.size (.lst [])):=Same.upd Nx;have lρ0:ρ0.length=(ts++dI scope).length:=by rw[<-eρ,uI,z1d]
 generalize eD:s2.heap.objs.size=Dd at *
 have aaV:∀{H':Hp},Same H2 H'->c7 X.K O H2 (λ a=>O a\/a=Dd) H':=λ sm=>⟨(Same.dg (K:=X.K) (O:=O) sm).ext,λ a z=>z.elim .inl λ e=> .inr (by rw[e];exact⟨Nx,hDk⟩),(Same.dg (K:=X.K) (O:=O) sm).dom⟩;have alO:∀{H':Hp} {ys:List V},Same H2 H'->H' Dd=some (.lst ys)->∀a,(O a\/a=Dd)->∃o,H' a=some o:=λ sm e a z=>z.elim (λ q=>let ⟨o,h⟩:=j2.al a q;⟨o,sm _ _ h⟩) λ q=>by rw[q];exact⟨_,e⟩
 have j4:In (cg X scope ts C s2 H2 fp) (λ a=>O a\/a=Dd) (upd H2 Dd (.lst [])) ρ0 (pull X.N (dI scope) ts.length σ):=by
  rw[<-eρ];exact In.go (aaL B j2.vals) Fw (aaV sD) (alO sD upd_same)
 have hv0:∀(i:Nat) e,ρ0[i]?=some (some e)->e.M8=true:=by rw[<-eρ];exact Fw
 have hn0:∀i,i < ts.length->ρ0[i]?=some none:=by rw[<-eρ];exact λ i h=>RG h
 have acq:∀b o,s2.heap.get? b=some o->h4.get? b=some o:=λ b o e=>by
  rw[<-e4];exact pushCells_keeps _ _ b o (z1a _ (z1a _ e))
 have st4:tn 0 h4:=T.keep _ _ _ st2 λ b _ o e=>acq b o e;have stat:∀{H':Hp},(∀b∈fp,H' b=none)->∀b∈fp,FpOk (cg X scope ts C s2 H2 fp) [] H' b:=λ {H'} hn b hb=>by
  have hl: @LT.lt Nat _ b Dd:=hlt b hb;obtain⟨_,a1,a2,a3,a4,_⟩:=f2 b hb;refine⟨hn b hb,by show @Ne Nat b C;omega,λ z=>?_,.inl hb,λ x c h=>?_,λ p hp=>absurd (show p∈([]:List (Addr×Obj)) from hp) (by simp)⟩
  ·rcases List.mem_cons.mp (I2.stkSub b z) with z |z
   ·exact a1 z
   ·exact a2 z
  ·rcases jA B I2.ok.has h with⟨_,q⟩ |⟨_,q⟩
   ·show @Ne Nat c b;omega
   ·exact a4 x c q
 have fr4:∀b∈fp,(upd H2 Dd (.lst [])) b=none:=λ b hb=>by
  have hl: @LT.lt Nat _ b Dd:=hlt b hb;rw[upd_ne (show @Ne Nat b Dd by omega)];exact (f2 b hb).1
 have loop : ∀ s0:Shared,s0={s2 with heap:=h4}->codeAny (model X.prog X.w) X.A (.compLoop (.ListComp elt [⟨tg,iter,ifs,0⟩] scope pos) 0 (.ref it) (.ref Dd) (fM scope X.env C)) (compPost (model X.prog X.w) X.A X.xe use Qr (.ref Dd) C) s0:=by
  intro s0 e0;refine codeAny_loop rfl (λ n s'=>V9 (cg X scope ts C s2 H2 fp) Ac O (λ a=>O a\/a=Dd) H2 Dd fp tn ρ0 xs (m6 gt ft fe ρ0) all n s') (λ n s' hI=>?_) (xs.length+1)
   ⟨0,_,_,[],[],all,rfl,Nat.zero_le _,e0▸I4,e0▸st4,fr4,j4,sD,upd_same,AC.nil,by simpa using hall,rfl⟩
  obtain⟨i,σ',H',ys,ds,rest,rfl,hil,I',st',fr',j',sm',hD',rp',hm',hr'⟩:=hI;show wpAny (model X.prog X.w) X.A ((compTurn (.ListComp elt [⟨tg,iter,ifs,0⟩] scope pos) 0 (.ref it) (.ref Dd) (fM scope X.env C)).onRaise (λ x=>do noteFrame x (fM scope X.env C);theTreesLotGoes x)) _ _ s';refine wpAny_noted ?_;rw[compTurn_list];have RJ:=yr _ H' (aaV sm') i;refine wpAny_bind (wpAny_standAt (wpAny_bind ?_));by_cases hlt':i < xs.length
  ·-- a turn
   have ex:xs[i]?=some xs[i]:=by simp[hlt']
   have ed:xs.drop i=xs[i]::xs.drop (i+1):=List.drop_eq_getElem_cons hlt';rw[ed] at hm';obtain⟨o,rest',k1,k2,k3⟩:=RD hm';obtain⟨jgo,jy⟩:=RJ.1 _ ex;refine wpAny_mono (T.item (cg X scope ts C s2 H2 fp) rfl rfl rfl hc i [] s' σ' H' (λ _ _=>False) I' (stat fr') st' jgo) (λ r s4 ⟨u,hr,h4'⟩=>?_) λ _ _ z=>z.elim;subst hr;refine wpAny_bind (wpAny_mono h4' (λ _ s5 ⟨x,H5,I5,r5,y5,st5,fr5⟩=>?_) λ _ _ z=>z.elim);obtain⟨Bm,ac9⟩:=jy x H5 y5;have I5':=I5.pinned (stat fr5) (T.obj _ _ st5);have k1:(gt xs[i] ρ0).bind (λ ρ1=>(ft ρ1).bind λ b=>if b=true then (fe ρ1).bind λ d=> .ok (some d) else .ok none)= .ok o:=k1;cases q1:gt xs[i] ρ0 with
   |bad=>rw[q1] at k1;cases k1
   |err c=>rw[q1] at k1;cases k1
   | ok ρ1 =>
    rw[q1] at k1;have k1:(ft ρ1).bind (λ b=>if b=true then (fe ρ1).bind λ d=> .ok (some d) else .ok none)= .ok o:=k1;refine wpAny_bind (wpAny_mono (hg C s2 H2 fp B.nd _ s5 σ' H5 x u (λ σ6 H6=>H6=H5/\In (cg X scope ts C s2 H2 fp) (λ a=>O a\/a=Dd) H5 ρ1 σ6) I5' r5 ⟨ρ0,_,xs[i],ρ1,j'.same Bm,ac9,q1,λ σ6 j6=>⟨rfl,j6⟩⟩) (λ _ s6 ⟨σ6,H6,I6,eH,j6⟩=>?_) λ _ _ z=>(show False from z).elim);subst eH;cases q2:ft ρ1 with
    |bad=>rw[q2] at k1;cases k1
    |err c=>rw[q2] at k1;cases k1
    | ok bb =>
     rw[q2] at k1;have k1:(if bb=true then (fe ρ1).bind λ d=>R.ok (some d) else .ok none)= .ok o:=k1;have gtest:tG (cg X scope ts C s2 H2 fp) rB ft σ6 H6 (λ b H7=>b=bb/\Same H6 H7):=⟨ρ1,_,j6,by rw[q2];exact λ b H7 s7 e7=>⟨e7.symm,s7⟩⟩;refine wpAny_bind (wpAny_mono (ht C s2 H2 fp _ s6 σ6 H6 _ I6 gtest) (λ ok s7 ⟨H7,I7,ok7,wL⟩=>?_) λ _ _ z=>(show False from z).elim);subst ok7;have back:∀{H8:Hp} {s8:Shared} {ys':List V} {ds':List D},Inv (cg X scope ts C s2 H2 fp) ([]++pinsAt fp s5.heap) σ6 H8 s8->Same H2 H8->In (cg X scope ts C s2 H2 fp) (λ a=>O a\/a=Dd) H8 ρ0 σ6->H8 Dd=some (.lst ys')->Ac H2 Dd O H8 ds' ys'->ds'++rest'=all->
       ∃m,m < xs.length+1 - i/\V9 (cg X scope ts C s2 H2 fp) Ac O (λ a=>O a\/a=Dd) H2 Dd fp tn ρ0 xs (m6 gt ft fe ρ0) all m s8:=by
      intro H8 s8 ys' ds' I8 Ny j8 X7 rp8 hr8;refine⟨xs.length+1 - (i+1),by omega,i+1,σ6,H8,ys',ds',rest',rfl,by omega,I8.unpinned,T.keep _ _ _ st5 λ b hb o e=>(I8.pin (b,o) (List.mem_append_right _ (List.mem_append_right _ (mem_pinsAt hb e)))).1,λ b hb=>?_,j8,Ny,X7,rp8,k2,hr8⟩;obtain⟨o,e,d⟩:=T.obj _ _ st5 b hb;exact (I8.pin (b,o) (List.mem_append_right _ (List.mem_append_right _ (mem_pinsAt hb e)))).2.1
     have j60:In (cg X scope ts C s2 H2 fp) (λ a=>O a\/a=Dd) H6 ρ0 σ6:=In.back (n:=ts.length) j6 hn0 (λ k hk'=>hk _ _ _ q1 k hk') lρ0;cases ok with
     | false=>
      have k1:R.ok none=R.ok o:=k1;cases k1;refine wpAny_pure ⟨rfl,?_⟩;refine back I7 (sm'.trans (Bm.trans wL)) (j60.same wL) (wL _ _ (Bm _ _ hD')) (AC.same rp' hD' (Bm.trans wL)) ?_;rw[<-hr',k3];rfl
     | true =>
      have k1:(fe ρ1).bind (λ d=>R.ok (some d))= .ok o:=k1;cases q3:fe ρ1 with
      |bad=>rw[q3] at k1;cases k1
      |err c=>rw[q3] at k1;cases k1
      | ok d =>
       rw[q3] at k1;have k1:R.ok (some d)=R.ok o:=k1;cases k1;have ada:X5 (cg X scope ts C s2 H2 fp) Re fe σ6 H7 (λ v H8=>Same H7 H8/\Re H7 (λ a=>O a\/a=Dd) H8 d v):=⟨ρ1,_,j6.same wL,by rw[q3];exact λ v H8 s8 r8=>⟨s8,r8⟩⟩;refine wpAny_bind (wpAny_bind (wpAny_mono (he C s2 H2 fp _ s7 σ6 H7 _ I7 ada) (λ xv s8 ⟨v8,H8,I8,r8,Ny,adb⟩=>?_) λ _ _ z=>(show False from z).elim));have X7:H8 Dd=some (.lst ys):=Ny _ _ (wL _ _ (Bm _ _ hD'));have rp7:Ac H2 Dd O H7 ds ys:=AC.same rp' hD' (Bm.trans wL);have hD7:H7 Dd=some (.lst ys):=wL _ _ (Bm _ _ hD');have hds:ds++d::rest'=all:=by rw[<-hr',k3];rfl
       have hyl:ys.length < sizeLine:=by
        have:=dX;have e1:=AC.len rp7;have e2:=congrArg List.length hds;rw[z1d,List.length_cons] at e2;omega
       refine wpAny_bind (wpAny_mono (mt_append (X:=cg X scope ts C s2 H2 fp) _ s8 σ6 H8 (.ref Dd) [v8] (.ref Dd) [xv] (λ _ H9=>H9=upd H8 Dd (.lst (ys++[v8]))) I8 rfl (.cons r8 .nil) ⟨_,ys,v8,rfl,rfl,X7,hyl,rfl⟩) (λ _ s9 ⟨_,H9,I9,_,eH9⟩=>?_) λ _ _ z=>(show False from z).elim);subst eH9;have ade:Same H2 H8:=sm'.trans (Bm.trans (wL.trans Ny));have aaW:c7 X.K (λ a=>O a\/a=Dd) H8 (λ a=>O a\/a=Dd) (upd H8 Dd (.lst (ys++[v8]))):=by
        refine⟨⟨λ b zs h=>?_,λ b zs n h=>?_⟩,λ a z=> .inl z,λ a z=>?_⟩
        ·have nb:b≠Dd:=λ e=>by
          rw[e] at h;rcases h with h |⟨o,h⟩ <;> rw[X7] at h <;> cases h
         rcases h with h |⟨o,h⟩
         ·exact .inl (by rw[upd_ne nb];exact h)
         ·exact .inr ⟨o,by rw[upd_ne nb];exact h⟩
        ·have nb:b≠Dd:=λ e=>n (.inr e);rcases h with h |⟨o,h⟩
         ·exact .inl (by rw[upd_ne nb];exact h)
         ·exact .inr ⟨o,by rw[upd_ne nb];exact h⟩
        ·by_cases ea:a=Dd
         ·rw[ea,upd_same] at z;cases z
         ·rw[upd_ne ea] at z;exact z
       have sm9:Same H2 (upd H8 Dd (.lst (ys++[v8]))):=λ b o e=>by
        rw[upd_ne (ne_of_none e Nx)];exact ade _ _ e
       refine wpAny_pure (wpAny_pure ⟨rfl,?_⟩);refine back I9 sm9 (In.go (j60.same (wL.trans Ny)) hv0 aaW (alO sm9 upd_same)) upd_same (AC.app rp7 Nx hD7 (sm'.trans (Bm.trans wL)) Ny adb aaW) ?_;rw[List.append_assoc];exact hds
  ·-- the end
   have ei:i=xs.length:=by omega
   subst ei;have hrest:rest=[]:=by
    have hm':jz (m6 gt ft fe ρ0) (xs.drop xs.length)= .ok rest:=hm';rw[List.drop_length] at hm';cases hm';rfl
   subst hrest;rw[List.append_nil] at hr';subst hr';refine wpAny_mono (T.done (cg X scope ts C s2 H2 fp) rfl rfl rfl hc _ [] s' σ' H' (λ _ _=>False) I' (stat fr') st' (RJ.2 (z0g _))) (λ r s5 ⟨hr,I5⟩=>?_) λ _ _ z=>z.elim;subst hr;refine wpAny_pure ?_;obtain⟨m,hns,_⟩:=I5.loc;have hCn:H' C=none:=I5.free;have I6:Inv X pins σ H' s5:=by
    refine I2.call' (s':=s5) (ch:=fp) I5.os ⟨λ b o e n hb hx=>I5.base.keep b o e n hb hx,λ b o e n hb hx=>I5.base.slot b o e n hb hx,I5.base.free,λ b o e hx=>I5.base.there b o e hx,I5.base.tups,I5.base.frzs,I5.base.tbls⟩ (λ b u e=>I5.hok b u e) I5.bare λ b hb=>⟨(f2 b hb).2.2.2.1,(f2 b hb).2.1,(f2 b hb).2.2.2.2.1,(f2 b hb).2.2.2.2.2⟩
   exact hQ (.ref Dd) H' s5 C m _ (.ref Dd) (g3 _ _ sm' ⟨H2,Dd,_,_,rfl,rfl,smH,Nx,hDk,sm',hD',rp'⟩) I6 hns (I2.fpOk (show @LE.le Nat _ _ C by omega) hCn) rfl
 exact codeAny_compStart_list (loop _ rfl) (T.self _ 0 _ _ _ st4 (loop _ rfl))
def reP (K:PySem.W.Frag):Hp->(Addr->Prop)->Hp->D->V->Prop:=λ _ O H d v=>Rep K O H d v
def acP (K:PySem.W.Frag):Hp->Addr->(Addr->Prop)->Hp->List D->List V->Prop:=λ _ a O H ds ys=>aJ K (λ b=>O b\/b=a) H ds ys
theorem DE.toP {e:Expr} {f:ao->R D} (h:DE X e f):Jm X (reP X.K) e f:=PE.imp h λ σ H Q q=>by
 obtain⟨ρ,O,j,q⟩:=q;exact⟨ρ,O,j,q⟩
theorem Tc:X6 K (reP K) (acP K) where
 nil:=aJ.nil
 same:=λ h _ s=>aJ.same s h
 len:=λ h=>aJ.length h
 app:=λ h _ _ _ s r rc=>((aJ.same s h).append (.cons r .nil)).go rc
theorem good.rel {β:Type} {Rl Rm:(Addr->Prop)->Hp->α->β->Prop} {O:Addr->Prop} {r:R α} {Q:β->Hp->Prop} (w:∀a b H',Same H H'->Rm O H' a b->Rl O H' a b) (h:good X Rl O r σ H Q):good X Rm O r σ H Q:=by
 cases r with
 |ok a=>exact λ b H' s q=>h b H' s (w a b H' s q)
 |err c=>exact h
 |bad=>exact h
theorem Wa {pos2:Pos} (ts:List Str) (caps:List Nat)
  (hc:X.calm=true) (hb:wu X.env.scope scope ts X.N=true) (hcap:(dI scope).map (λ x=>jx x X.N)=caps)
  (hi:DI X tg iter fi) (hk:lV ts.length gt) (hg:∀C s H ex,(cg X scope ts C s H ex).N.Nodup->DG (cg X scope ts C s H ex) tg gt) (ht:∀C s H ex,Fv (cg X scope ts C s H ex) ifs ft) (he:∀C s H ex,DE (cg X scope ts C s H ex) elt fe)
  (hs:∀x,foldedSetIterable iter X.env x=pure x) {use:Option (Value->Sem Unit)} {Qr:Value->Shared->Prop} {pins:List (Addr×Obj)} {s:Shared} {O:Addr->Prop} {Q:VK} (I:Inv X pins σ H s) (j:In X O H ρ σ)
  (hQ:∀(v:V) (H':Hp) (s5:Shared) (C:Addr) (m:Str->Option Value) (f:Flow) (acc:Value),Q v H'->Inv X pins σ H' s5->s5.heap.Ns C m->FpOk X pins H' C->RelV v acc->compPost (model X.prog X.w) X.A X.xe use Qr acc C (.ok f) s5)
  (h:good X (rD X) O (bF ts.length caps fi gt ft fe ρ) σ H Q):
  wpAny (model X.prog X.w) X.A (comprehension (.ListComp elt [⟨tg,iter,ifs,0⟩] scope pos) scope X.env pos2 (newList []) false (eval iter X.env) use) Qr X.xe s:=by
 refine FZ Tc ts caps hc hb hcap hi hk hg ht (λ C s H ex=>(he C s H ex).toP) hs I j hQ (good.rel (λ d v H' sm q=>?_) h);obtain⟨Hs,a,ys,ds,rfl,rfl,s1,n1,k1,s2,e3,r⟩:=q;refine lD (SqL.of e3) (λ z=>?_) (r.fewer λ a z=> .inl z);obtain⟨u,e⟩:=j.al a z;rw[s1 _ _ e] at n1;cases n1
theorem bM (ts:List Str) (caps:List Nat)
  (hc:X.calm=true) (hb:wu X.env.scope scope ts X.N=true) (hcap:(dI scope).map (λ x=>jx x X.N)=caps)
  (hi:DI X tg iter fi) (hk:lV ts.length gt) (hg:∀C s H ex,(cg X scope ts C s H ex).N.Nodup->DG (cg X scope ts C s H ex) tg gt) (ht:∀C s H ex,Fv (cg X scope ts C s H ex) ifs ft) (he:∀C s H ex,DE (cg X scope ts C s H ex) elt fe)
  (hs:∀x,foldedSetIterable iter X.env x=pure x:=by intro _;rfl):
  DE X (.ListComp elt [⟨tg,iter,ifs,0⟩] scope pos) (bF ts.length caps fi gt ft fe):=by
 intro pins s σ H Q I h;obtain⟨ρ,O,j,h⟩:=h;rw[eval_ListComp];exact Wa ts caps hc hb hcap hi hk hg ht he hs (use:=none) (Qr:=EP X pins σ Q) I j (λ v H' s5 C m f acc hv I6 hns fp rv=>⟨m,hns,λ h' sb=>⟨v,H',I6.fp fp sb,rv,hv⟩⟩) h
end
section
variable {ρ ρ1:ao} {fa:ao->R (List D)} {F:List D->R D} {ds:List D} {n:Nat} {d:D} {c:Str} {f:ao->R D} {gt:D->ao->R ao} {p:ao->R Bool} {s t:ao->So} {o:So}
end
section
variable {M:Model} {A:Around} {E:Value->Shared->Prop} {s:Shared}
end
section
variable {P:Program} {w:World} {fs fs':List Addr} {H H' H0:Hp} {s s' s0:Shared} {a C:Addr} {T:Option Addr} {h':Heap} {t':Addr}
end
section
variable {P:Program} {w:World} {K:PySem.W.Frag} {mg:Str->Option Value} {base:Heap}
end
section
variable {X:Cx} {k n m:Nat} {F:List D->R D} {x:Str} {p pos:Pos} {e:Expr} {es:List Expr} {fa:ao->R (List D)}
end
section
variable {X:Cx} {c:Str} {C:Addr} {np cpos pos:Pos} {e:Expr} {fa:ao->R (List D)}
end
section
variable {X:Cx} {pins:List (Addr×Obj)} {σ:St} {H:Hp} {s:Shared}
end
section
variable {X:Cx} {pins:List (Addr×Obj)} {σ:St} {H:Hp} {s:Shared} {E:Value->Shared->Prop}
end
section
variable {X:Cx} {t n:Str} {CT:Addr} {np hpos pos:Pos} {body suite:List Stmt} {b₀:Stmt} {g h:ao->So} {sub:Str->Str->Bool}
end
section
variable {prog:Program} {w:World} {A:Around} {E:Value->Shared->Prop} {s:Shared} {K:PySem.W.Frag} {x C:Addr} {ox:Obj} {od:Option Obj}
end
section
variable {X:Cx} {sub:Str->Str->Bool}
end
section
variable {X:Cx} {tg a:Expr} {p pos:Pos} {fa:ao->R (List D)}
end
section
variable {X:Cx}
end
def Tb (ts:List (Addr×Str)) (H:Hp):Prop:=∀p∈ts,∃(ps:Array Value) (tq:Tok),H p.1=some (.tbl ps)/\ps[0]?=some (.str p.2 tq)
theorem Tb.un {fs ex:List Addr} {H':Hp} (t:Tb ts H) (u:Un fs ex H H' h h'):Tb ts H':=λ p hp=>by
 obtain⟨ps,tq,e,q⟩:=t p hp;obtain⟨more,e'⟩:=u.tbls _ _ e;refine⟨_,tq,e',?_⟩;obtain⟨hl,_⟩:=Array.getElem?_eq_some_iff.mp q;rw[Array.getElem?_append_left hl];exact q
theorem Tb.same {H':Hp} (t:Tb ts H) (s:Same H H'):Tb ts H':=λ p hp=>let ⟨ps,tq,e,q⟩:=t p hp;⟨ps,tq,s _ _ e,q⟩
theorem Bo {α β:Type} {F:α->β->Prop}:∀{es:List α} {vs:List β} {i:Nat} {e:α},Paired F es vs->es[i]?=some e->∃v,vs[i]?=some v/\F e v
 |_,_,_,_,.nil,h=>by simp at h
 |_,_,0,_,.cons r _,h=>by simp at h;subst h;exact⟨_,rfl,r⟩
 | _,_,i+1,e,.cons _ t,h=>by
  obtain⟨v,h1,h2⟩:=Bo (i:=i) (e:=e) t (by simpa using h);exact⟨v,by simpa using h1,h2⟩
theorem Qo {β:Type} {F:α->β->Prop}:∀{es:List α} {vs:List β},Paired F es vs->es.length=vs.length
 :=by
 intro es vs h
 induction h with
 |nil=>rfl
 |cons r t ih=>rw[List.length_cons,List.length_cons,ih]
theorem Bp {β:Type} {F:α->β->Prop}:∀{es fs:List α} {vs ws:List β},Paired F es vs->Paired F fs ws->Paired F (es++fs) (vs++ws)
 :=by
 intro es fs vs ws h q
 induction h with
 |nil=>exact q
 |cons r t ih=>exact .cons r ih
abbrev aaX (K:PySem.W.Frag) (O:Addr->Prop) (H:Hp):Ent->V->Prop:=λ e v=>mW K O H e v/\e.own=false
theorem rT {K:PySem.W.Frag} {O:Addr->Prop} {H:Hp}:∀{ds:List D} {vs:List V},aJ K O H ds vs->Paired (aaX K O H) (ds.map .val) vs
 |[],vs,r=>by rw[r.nil_inv];exact .nil
 | d::ds,vs,r=>by
  obtain⟨x,t,rfl,h1,h2⟩:=r.cons_inv;exact .cons ⟨h1,rfl⟩ (rT h2)
theorem zT {X:Cx} {O:Addr->Prop} {es:List Ent} {m:Nat} (hl:X.N.length=es.length+m) (r:Paired (aaX X.K O H) es vs) (al:∀a,O a->∃o,H a=some o):
  At X H O O H (es.map some++List.replicate m none) (vs.map some++List.replicate m none):=by
 have hlen:=Qo r;have get:∀(i:Nat) e,(es.map some++List.replicate m none)[i]?=some (some e)->∃v,(vs.map some++List.replicate m none)[i]?=some (some v)/\mW X.K O H e v/\e.own=false:=λ i e q=>by
  by_cases hi:i < es.length
  ·rw[List.getElem?_append_left (by simpa using hi),z2b] at q;cases z:es[i]? with
   |none=>rw[z] at q;cases q
   | some e'=>
    rw[z] at q;cases q;obtain⟨v,h1,h2,h3⟩:=Bo r z;exact⟨v,by rw[List.getElem?_append_left (by rw[z1g,<-hlen];exact hi),z2b,h1];rfl,h2,h3⟩
  ·rw[List.getElem?_append_right (by simpa using hi),List.getElem?_replicate] at q;split at q <;> cases q
 refine⟨Same.refl _,.refl,λ _ z=>z,⟨⟨λ i e q=>?_,λ i k e e' v _ hi _ oi=>?_,λ i k rows a rs e v _ hi=>by obtain⟨_,_,_,h3⟩:=get i _ hi;cases h3⟩,al,?_,?_⟩,λ i e a q ho=>?_,λ i rows a rs q=>by obtain⟨_,_,_,h3⟩:=get i _ q;cases h3⟩
 ·obtain⟨v,h1,h2,_⟩:=get i e q;exact⟨v,h1,h2⟩
 ·obtain⟨_,_,_,h3⟩:=get i e hi;rw[h3] at oi;cases oi
 ·rw[z1d,z1g,List.length_replicate,<-hlen];exact hl.symm
 ·rw[z1d,z1g,List.length_replicate];exact hl.symm
 ·obtain⟨_,_,_,h3⟩:=get i e q;rw[h3] at ho;cases ho
theorem zU {m:Nat} (h:N.length=vs.length+m):L2.start N vs=vs.map some++List.replicate m none:=by
 unfold L2.start;rw[show N.length - vs.length=m by omega]
def spT (ts:List (Addr×Str)) (K:PySem.W.Frag) (n:Nat) (F:List D->R D):Sp:=λ vs H Q E=>Tb ts H/\Ir K n F vs H Q E
section
variable {P:Program} {w:World} {K:PySem.W.Frag} {mg:Str->Option Value} {base:Heap}
def iC (m:Nat) (g:ao->So) (es:List Ent):R D:=match g (es.map some++List.replicate m none) with
 | .rt d=> .ok d
 | .nx _=> .ok .non
 |_=> .bad
theorem Nz {X:Cx} {O:Addr->Prop} {m:Nat} {g:ao->So} {es:List Ent} {Q:VK} (h:match iC m g es with | .ok d=>∀v H',Same H H'->Rep X.K O H' d v->Q v H' |_=>False):
  qD X H O O H {nx:=λ _ H'=>Q .non H',rt:=Q} (g (es.map some++List.replicate m none)):=by
 unfold iC at h;cases e2:g (es.map some++List.replicate m none) with
 |rt d=>rw[e2] at h;exact λ v H' s' r'=>h v H' s' r'
 |nx ρ'=>rw[e2] at h;exact λ σ' H' O' j' _=>h .non H' j'.same mV
 |bk _=>rw[e2] at h;exact h.elim
 |ct _=>rw[e2] at h;exact h.elim
 |ex _ _=>rw[e2] at h;exact h.elim
 |bad=>rw[e2] at h;exact h.elim
theorem NK {x:Str} {st:Stmt} {f:Addr} {m:Nat} {g:ao->So} (Fn:Fun K x qual st f fd) (S:FnScope N ps (defScope st)) (hn:ps.length=n) (hm:N.length=n+m)
  (hb:∀(cdv:Value) (A:Around) (outer:List PySem.Env) (s:Shared) (H:Hp) (E:XK),fd.code=cdv->Room k (A.deeper (envOfC qual (defScope st) s.heap.objs.size f cdv))->Tb ts H->lW (cxOf CX0 P w K mg base N qual (defScope st) f cdv A outer s H E).nox (defBody st) g):
  FnOk P w K mg base CX0 (k+1) f fd ps (spT ts K n (λ ds=>iC m g (ds.map .val))):=by
 obtain⟨oc,od,kV,doc,pm,an,cdv,ct,osl,rfl,lk,hcd⟩:=Fn.ex;refine fn_of lk hcd S (λ vs H Q E h=>?_) λ A outer s H vs Q E hr h=>?_
 ·obtain⟨_,O,ds,r,hl,_⟩:=h;rw[hn,<-hl,r.length]
 ·obtain⟨hT,O,ds,r,hl,al,h⟩:=h;have yW:N.length=vs.length+m:=by rw[hm,<-hl,r.length]
  refine⟨_,(hb cdv A outer s H E rfl hr hT).nox,H,O,O,(ds.map Ent.val).map some++List.replicate m none,?_,Nz h⟩;rw[zU yW];exact zT (X:=(cxOf CX0 P w K mg base N qual (defScope st) f cdv A outer s H E).nox) (by rw[z1g,r.length];exact yW) (rT r) al
end
def nq (P:Program) (w:World) (K:PySem.W.Frag) (mg:Str->Option Value) (base:Heap) (k:Nat) (x:Str) (n:Nat) (F:List D->R D) (fd:FuncData) (ps:List Str) (ts:List (Addr×Str)):Prop:=
 ∃f,FnOk P w K mg base CX0 k f fd ps (spT ts K n F)/\mg x=some (.ref f)/\PySem.W.keepIn K (.ref f)=true
section
variable {X:Cx} {k m n:Nat} {fd:FuncData} {ps ks:List Str} {F:List D->R D} {x:Str} {p pos:Pos} {e:Expr} {es:List Expr} {kws:List Keyword} {fa fk:ao->R (List D)} {ts:List (Addr×Str)}
theorem Bq (G:nq X.prog X.w X.K X.mg X.base k x n F fd ps ts) (hT:Tb ts X.H₀) (hr:Room m X.A) (hkm:k<=m) (hb:Binds X.K fd ps []) (ha:DA X (e::es) fa) (hg:Gl X x:=by rfl)
  (hdb:(x ==("__debug__" :Str))=false:=by decide) (he:starEach (e::es) X.env=(false,eval e X.env)::starEach es X.env:=by rfl) (hpl:(backTo pos (starEach es X.env)).any (·.1)=false:=by rfl):
  DE X (.Call (.Name x p) (e::es) [] pos) (aB (aV F n) fa):=by
 obtain⟨f,ok,hm,hk⟩:=G;intro pins s σ H Q I h;refine pe_call (dvs:=[]) (ok.mono hkm) hr hg hm hk hb .nil pass0 ha hdb he hpl pins s σ H Q I ?_;obtain⟨ρ,O,j,h⟩:=h;refine go j h λ ds vs H1 e1 s1 r1 j1 h1=>?_;unfold aV at h1;by_cases hl:ds.length=n
 ·rw[if_pos hl] at h1;rw[List.append_nil];refine⟨(hT.un I.base).same s1,O,ds,r1,hl,j1.al,?_⟩;cases q:F ds with
  |ok d=>rw[q] at h1;exact h1
  |err c=>rw[q] at h1;exact h1
  |bad=>rw[q] at h1;exact h1
 ·rw[if_neg hl] at h1;exact h1.elim
theorem Y6 {sa sb sc} (S:Sel sa sb sc) (G:nq X.prog X.w X.K X.mg X.base k x n F fd ps ts) (hT:Tb ts X.H₀) (hr:Room m X.A) (hkm:k<=m) (hb:KB X.K fd ps ks sa)
  (ha:DA X (e::es) fa) (hkw:DK X kws fk) (hg:Gl X x:=by rfl) (hall:(backToKw pos (keywordEach kws X.env)).all (·.1.isSome)=true:=by rfl) (hks:(backToKw pos (keywordEach kws X.env)).filterMap (·.1)=ks:=by rfl)
  (hdb:(x ==("__debug__" :Str))=false:=by decide) (he:starEach (e::es) X.env=(false,eval e X.env)::starEach es X.env:=by rfl)
  (hpl:((backTo pos (starEach (e::es) X.env)).any (·.1) || (backToKw pos (keywordEach kws X.env)).any (·.1.isNone))=false:=by rfl):
  DE X (.Call (.Name x p) (e::es) kws pos) (Ie F n ks.length sc fa fk):=by
 obtain⟨f,ok,hm,hk⟩:=G;have G:=ok.mono hkm;intro pins s σ H Q I h;refine wpAny_Call_Name_kw (ld_glob I hg hm ?_ hdb);obtain⟨ρ,O,j,h⟩:=h;have key:tG X (M9 X) fa σ H λ vs H1=>tG X (M9 X) fk σ H1 λ zs H2=>zs.length=ks.length/\spT ts X.K n F (vs++pickK .non sb zs) H2 Q E0:=by
  refine go j h λ ds vs H1 e1 s1 r1 j1 h1=>?_;refine go j1 h1 λ zd zs H2 e2 s2 r2 j2 h2=>?_;by_cases hz:zd.length=ks.length
  ·rw[if_pos hz] at h2;unfold aV at h2;by_cases hl:(ds++pickK .non sc zd).length=n
   ·rw[if_pos hl] at h2;refine⟨by rw[<-r2.length];exact hz,((hT.un I.base).same s1).same s2,O,_,(r1.same s2).append (S.reps r2),hl,j2.al,?_⟩;cases q:F (ds++pickK .non sc zd) with
    |ok d=>rw[q] at h2;exact h2
    |err c=>rw[q] at h2;exact h2
    |bad=>rw[q] at h2;exact h2
   ·rw[if_neg hl] at h2;exact h2.elim
  ·rw[if_neg hz] at h2;exact h2.elim
 refine PySem.W.callWith_KW (h₀:=X.base) I.ok.mod.kin hk hall (thn (ha pos pins s σ H _ I key) λ us s1 ⟨vs,H1,I1,r,q⟩=>?_) hpl he;refine thn (hkw pos pins s1 σ H1 _ I1 q) λ ws s2 ⟨zs,H2,I2,rz,q2⟩=>⟨I2.kIn,?_⟩;rw[hks];obtain⟨hz,q2⟩:=q2;have r2:=r.append (S.vals rz);have hl:(us++pickK .none sa ws).length=ps.length:=by rw[<-r2.length];exact G.len _ _ _ _ q2
 refine wpAny_call (codeAny_mono (G.run X.A X.stack s2 H2 ⟨us,ks.zip ws⟩ _ _ Q E0 hr I2.env0 (hb s2 us ws I2.kIn (by rw[z1d,R4] at hl;exact hl) (by rw[<-rz.length];exact hz)) r2 q2) λ r s' hq=>?_);cases r with
 |error e=>exact pass0 pins σ H2 s2 e s' I2 hq
 | ok fl=>
  cases fl with
  |ret u=>exact I2.after hq
  |next=>exact False.elim hq
  |brk=>exact False.elim hq
  |cont=>exact False.elim hq
end
theorem Lz {a b:Int} {s t:Tok} {c:Value} (l:List Value) (h:TriplesOk l):TriplesOk (l++[.int a s,.int b t,c]):=by
 fun_induction TriplesOk l with
 |case1=>simp[TriplesOk]
 |case2 x1 x2 x3 x4 x5 rest ih=>simp only[List.cons_append,TriplesOk];exact ih h
 |case3=>exact h.elim
theorem Td {a b:Int} {s t:Tok} {c cv:Value} (l:List Value) (h:TriplesOk l) (e:codeAmong pos (l++[.int a s,.int b t,c])=some cv):codeAmong pos l=some cv\/cv=c:=by
 fun_induction TriplesOk l with
 | case1=>
  simp only[List.nil_append,codeAmong] at e;split at e
  ·cases e;exact .inr rfl
  ·cases e
 | case2 x1 x2 x3 x4 x5 rest ih=>
  simp only[List.cons_append,codeAmong] at e |-;split at e
  ·rename_i z;rw[if_pos z];exact .inl e
  ·rename_i z;rw[if_neg z];exact ih h e
 |case3=>exact h.elim
inductive jF (H:Hp) (a:Addr) (name qual:Str) (params:Arguments) (body:List Stmt) (scope:Scope) (clos:List (Str×Addr)):Prop
 |mk (fo:Obj) (doc pm:Value) (c':Addr) (ctv:Value) (oc:Obj) (vs:Array Value) (t:Tok) (h1:H a=some (.frz fo (.own a))) (h2:fo.data= .func (PySem.W.fnX name qual params body scope clos .none .none doc pm none (.ref c') ctv)) (h3:H c'=some (.frz oc (.own c'))) (h4:oc.data= .fields vs) (h5:vs[1]?=some (.str qual t)):jF H a name qual params body scope clos
theorem jF.fz {H':Hp} {a:Addr} (h:jF H a name qual params body scope clos) (s:∀b o u,H b=some (.frz o u)->H' b=some (.frz o u)):jF H' a name qual params body scope clos:=
 by
 obtain⟨fo,doc,pm,c',ctv,oc,vs,t,h1,h2,h3,h4,h5⟩:=h;exact⟨fo,doc,pm,c',ctv,oc,vs,t,s _ _ _ h1,h2,s _ _ _ h3,h4,h5⟩
structure nZ (base:Heap) (mg:Str->Option Value) (c P:Addr):Prop where
 code:PySem.W.CodeHd base c P
 blt:∃bm ob,mg "__builtins__" =some (.ref bm)/\bm≠builtinsNs/\base.get? bm=some ob/\ob.cls= .type "module"/\ob.dict=some builtinsNs/\ob.data= .plain
section
variable {X:Cx} {pins:List (Addr×Obj)} {σ:St} {H:Hp} {s:Shared}
theorem Y7 {M:Model} {A:Around} {E:Value->Shared->Prop} {line:Nat} {c P:Addr} {ps:Array Value} {tq:Tok}
  (I:Inv X pins σ H s) (hB:nZ X.base X.mg c P) (hc:X.env.code= .ref c) (e0:H P=some (.tbl ps)) (q0:ps[0]?=some (.str qual tq)) (hcl:closureFor scope X.env=pure clos):
  wpAny M A (makeFunction name qual params (.stmts body) scope X.env [] [] [] pos line) (λ v s'=>∃a H1,v= .ref a/\Inv X pins σ H1 s'/\Same H H1/\jF H1 a name qual params body scope clos) E s:=by
 obtain⟨qs,hP,tr,al⟩:=I.hok P _ e0;have hgs:s.heap.Ns mainGlobals X.mg:=I.mod.glob.keeps I.bk;have C:PySem.W.CodeHd s.heap c P:=hB.code.keeps I.bk;obtain⟨bm,ob,b1,b2,b3,b4,b5,b6⟩:=hB.blt;have hgP:mainGlobals≠P:=λ q=>by
  obtain⟨o,es,ep,e,hd,_⟩:=hgs;rw[q,hP] at e;cases e;cases hd
 have hbP:bm≠P:=λ q=>by
  have e:=I.bk _ _ b3;rw[q,hP] at e;cases e;cases b4
 have hbG:bm≠mainGlobals:=λ q=>by
  obtain⟨o,es,ep,e,hd,_⟩:=I.mod.glob;rw[q,e] at b3;cases b3;rw[hd] at b6;cases b6
 have hbb:s.heap.BuiltinsAt X.mg P:=⟨bm,ob,b1,b2,hbG,hbP,I.bk _ _ b3,b4,b5,b6⟩;cases hf:codeAmong pos qs.toList with
 | some cv=>
  obtain⟨c',oc,vs,q,t,tq',rfl,h1,h2,h3,h4⟩:=al pos cv hf;rw[q0] at h4;cases h4;refine PySem.W.makeFunction_hit (mg:=X.mg) hcl I.ok.glob hgs hc C hP tr hf hbb λ ctv doc h' tk hk hsz=>?_;have I1:Inv X pins σ H {s with heap:=h',toks:=tk}:=I.kept (t':=tk) hk;have hn:H h'.objs.size=none:=I1.hok.fresh (z0g _);refine⟨h'.objs.size,upd H h'.objs.size (.frz _ (.own h'.objs.size)),rfl,I1.laid (t':=tk) (λ b u z=>z1a _ z) (z0g _) ⟨z1f _ rfl,_,z1f _ rfl⟩,Same.upd hn,?_⟩;exact⟨_,doc,_,c',ctv,oc,vs,t,upd_same,rfl,by rw[upd_ne (ne_of_none h1 hn)];exact h1,h2,h3⟩
 | none =>
  refine PySem.W.makeFunction_K (mg:=X.mg) hcl I.ok.glob hgs hc C hP tr hf hgP hbb λ c' ctv doc h' tk hx hge hlt hrec htb=>?_;obtain⟨c2,oc,vs,t,e2,hoc,hd,hv⟩:=hrec;cases e2;have hn:H c'=none:=I.hok.fresh hge;have old:∀b u,H b=some u->upd H c' (.frz oc (.own c')) b=some u:=λ b u z=>by rw[upd_ne (ne_of_none z hn)];exact z
  have I1 : Inv X pins σ (upd H c' (.frz oc (.own c'))) {s with heap:=h',toks:=tk}:=by
   refine I.call' (ch:=[]) rfl ⟨λ b o q n _ _=>hx b o (λ z=>by rw[z,e0] at n;cases n) q,λ b o q n _ _=>⟨o.slots,hx b o (λ z=>by rw[z,e0] at n;cases n) q⟩,λ b o q n _=>?_,λ b o q _=>?_,λ b xs q=>old _ _ q,λ b o u q=>old _ _ q,λ b p q=>⟨#[],by rw[old _ _ q];simp⟩⟩ (λ b u q=>?_) I.bare (λ b z=>absurd z (by simp))
   ·rw[upd_ne (Nat.ne_of_lt (z0d (z2c q) hge))];exact n
   ·by_cases hb:b=P
    ·rw[hb];exact⟨_,htb⟩
    ·exact⟨o,hx b o hb q⟩
   ·by_cases hb:b=c'
    ·subst hb;rw[upd_same] at q;cases q;exact⟨hoc,oc,hoc⟩
    ·rw [upd_ne hb] at q;by_cases hp:b=P
     ·subst hp;rw[e0] at q;cases q;refine⟨_,htb,?_,λ p cv z=>?_⟩
      ·have:=Lz (a:=pos.line) (s:=0) (b:=pos.col) (t:=0) (c:=Value.ref c') qs.toList tr;simpa[rawInt] using this
      ·have z':codeAmong p (qs.toList++[.int pos.line 0,.int pos.col 0,.ref c'])=some cv:=by simpa[rawInt] using z
       rcases Td _ tr z' with z1 |z1
       ·obtain⟨c3,o3,v3,q3,t3,tq3,y1,y2,y3⟩:=al p cv z1;exact⟨c3,o3,v3,q3,t3,tq3,y1,old _ _ y2,y3⟩
       ·exact⟨c',oc,vs,qual,t,tq,z1,upd_same,hd,hv,q0⟩
     ·exact (I.hok b u q).stay (λ d v hd z=>hx d v (λ y=>hd.elim (λ x=>hp (x.symm.trans y)) λ x=>by rw[y,e0] at x;cases x) z) (λ d z=>old _ _ z) (λ d xs z=>old _ _ z) λ d o u _ z=>old _ _ z
  have hn2:upd H c' (.frz oc (.own c')) h'.objs.size=none:=I1.hok.fresh (z0g _);refine⟨h'.objs.size,upd (upd H c' (.frz oc (.own c'))) h'.objs.size (.frz _ (.own h'.objs.size)),rfl,I1.laid (t':=tk) (λ b u z=>z1a _ z) (z0g _) ⟨z1f _ rfl,_,z1f _ rfl⟩,(Same.upd hn).trans (Same.upd hn2),?_⟩;exact⟨_,doc,_,c',ctv,oc,vs,t,upd_same,rfl,by rw[upd_ne (Nat.ne_of_lt hlt),upd_same],hd,hv⟩
def adf (i:Nat) (name qual:Str) (params:Arguments) (body:List Stmt) (scope:Scope) (clos:List (Str×Addr)):TS:=λ D σ H=>∀a H1,Same H H1->jF H1 a name qual params body scope clos->D.nx (σ.set i (some (.ref a))) H1
theorem aaY (i:Nat) {c P:Addr} (hN:X.N.Nodup) (hB:nZ X.base X.mg c P) (hT:Tb [(P,qual)] X.H₀) (hc:X.env.code= .ref c) (hcl:closureFor scope X.env=pure clos)
  (hi:X.N[i]?=some name:=by rfl) (hl:Loc X.env.scope name:=by first |exact Or.inl rfl |exact Or.inr rfl) (hq:qualnameIn X.env name name=qual:=by rfl) (hd0:params.defaults=[]:=by rfl) (hk0:params.kw_defaults=[]:=by rfl) (ha:annTrees params none X.env=[]:=by rfl)
  (hf:X.fn name=true\/X.env.scope.names.lookup name=some .local:=by first |exact .inl rfl |exact .inr rfl):PS X (.FunctionDef name params body [] none [] scope none name pos) (adf i name qual params body scope clos):=by
 intro pins s σ H D I h;obtain⟨ps,tq,e0,q0⟩:=(hT.un I.base) (P,qual) (by simp);refine PySem.W.nestDef_K hd0 hk0 ha ?_;rw[hq];refine wpAny_mono (Y7 I hB hc e0 q0 hcl) (λ v s1 ⟨a,H1,ev,I1,sm,fh⟩=>?_) λ _ _ z=>z;subst ev;exact store_ok I1 hN hi hl (v:= .ref a) rfl (λ s2 I2=>⟨_,H1,I2,h a H1 sm fh⟩) hf
end
def wM (P:Program) (w:World) (K:PySem.W.Frag) (mg:Str->Option Value) (base:Heap) (k:Nat) (G:List D->R D) (n:Nat) (a:Addr) (H:Hp):Prop:=
 ∀ (A:Around) (outer:List PySem.Env) (s:Shared) (H1:Hp) (us:List Value) (vs:List V) (Q:VK) (E:XK),Room k A->Env0 P w K mg base A outer s H1->(∀b o u,H b=some (.frz o u)->H1 b=some (.frz o u))->Vals vs us->Ir K n G vs H1 Q E->
  codeAny (model P w) A (.call (.ref a) ⟨us,[]⟩) (CR CX0 outer P w H1 s Q E) s
def yI (i a:Nat) (G:List D->R D) (n:Nat) (fa:ao->R (List D)):ao->R D:=λ ρ=>match ρ[i]? with
 |some (some (.obj (.fn b)))=>if b=a then (fa ρ).bind (aV G n) else .bad
 |_=> .bad
section
variable {X:Cx} {k m n:Nat} {G:List D->R D} {x:Str} {p pos:Pos} {e:Expr} {es:List Expr} {fa:ao->R (List D)} {a:Addr}
theorem Jo (i:Nat) (hc:wM X.prog X.w X.K X.mg X.base k G n a X.H₀) (hr:Room m X.A) (hkm:k<=m) (ha:DA X (e::es) fa) (hN:X.N[i]?=some x:=by rfl) (hv:Vis X.env.scope x:=by first |exact Or.inl rfl |exact Or.inr (Or.inl rfl) |exact Or.inr (Or.inr rfl))
  (hd:(x ==("__debug__" :Str))=false:=by decide) (hcd:(x ==("__classdict__" :Str))=false:=by decide) (he:starEach (e::es) X.env=(false,eval e X.env)::starEach es X.env:=by rfl) (hpl:(backTo pos (starEach es X.env)).any (·.1)=false:=by rfl):
  DE X (.Call (.Name x p) (e::es) [] pos) (yI i a G n fa):=by
 intro pins s σ H Q I h;obtain⟨ρ,O,j,h⟩:=h;unfold yI at h;split at h
 ·rename_i b q;by_cases hb:b=a
  ·subst hb;rw[if_pos rfl] at h;obtain⟨v,hv1,rfl,o,fd,ho,hod⟩:=j.env.get i _ q;have at':∀{s':Shared} {H':Hp},Inv X pins σ H' s'->Same H H'->PySem.W.FnAt b s'.heap:=λ {s' H'} I' sm=>by
    obtain⟨ho',_⟩:=I'.hok b _ (sm _ _ ho);obtain⟨v1,v2,v3,v4⟩:=o;have hod:v3= .func fd:=hod;subst hod;exact⟨v1,v2,fd,v4,ho'⟩
   refine wpAny_Call_Name_kw (thn (pe_var hN hv hd hcd pins s σ H (λ v H1=>v= .ref b/\H1=H) I ⟨_,hv1,rfl,rfl⟩) λ u s1 bA=>?_);obtain⟨v',H1,I1,r1,e1,e2⟩:=bA;subst e1 e2;cases (show u=Value.ref b from r1);have key:tG X (M9 X) fa σ H1 (λ vs H2=>Same H1 H2/\Ir X.K n G vs H2 Q E0):=by
    refine go j h λ ds vs H2 e1 s2 r2 j2 h2=>⟨s2,?_⟩;unfold aV at h2;by_cases hl:ds.length=n
    ·rw[if_pos hl] at h2;refine⟨O,ds,r2,hl,j2.al,?_⟩;cases q:G ds with
     |ok d=>rw[q] at h2;exact h2
     |err c=>rw[q] at h2;exact h2
     |bad=>rw[q] at h2;exact h2
    ·rw[if_neg hl] at h2;exact h2.elim
   refine PySem.W.callWith_F (at' I1 (Same.refl _)) (thn (ha pos pins s1 σ H1 _ I1 key) λ us s2 ⟨vs,H2,I2,r,sm,q2⟩=>⟨at' I2 sm,?_⟩) he hpl;refine wpAny_call (codeAny_mono (hc X.A X.stack s2 H2 us vs Q E0 (hr.mono hkm) I2.env0 I2.base.frzs r q2) λ r s' hq=>?_);cases r with
   |error e=>exact pass0 pins σ H2 s2 e s' I2 hq
   | ok fl=>
    cases fl with
    |ret u=>exact I2.after hq
    |next=>exact False.elim hq
    |brk=>exact False.elim hq
    |cont=>exact False.elim hq
  ·rw[if_neg hb] at h;exact h.elim
 ·exact h.elim
end
inductive SpS (P:Program) (w:World) (mg:Str->Option Value) (base:Heap) (k:Nat) (K:PySem.W.Frag) (n q:Nat) (F:Addr->(List D->R D)->List D->R D) (vs:List V) (H:Hp) (Q:VK):Prop
 | mk (O:Addr->Prop) (ds:List D) (xs:List V) (a:Addr) (G:List D->R D) (e:vs=xs++[.ref a]) (r:aJ K O H ds xs) (hl:ds.length=n) (al:∀b,O b->∃o,H b=some o) (ro:lO K H (.fn a) (.ref a)) (hc:wM P w K mg base k G q a H) (h:match F a G ds with
  | .ok d=>∀v H',Same H H'->Rep K O H' d v->Q v H'
  |_=>False):SpS P w mg base k K n q F vs H Q
def spS (P:Program) (w:World) (mg:Str->Option Value) (base:Heap) (k:Nat) (K:PySem.W.Frag) (n q:Nat) (F:Addr->(List D->R D)->List D->R D):Sp:=λ vs H Q _=>SpS P w mg base k K n q F vs H Q
section
variable {P:Program} {w:World} {K:PySem.W.Frag} {mg:Str->Option Value} {base:Heap}
theorem fnS {x:Str} {st:Stmt} {f:Addr} {kG m q:Nat} {g:Addr->(List D->R D)->ao->So} (Fn:Fun K x qual st f fd) (S:FnScope N ps (defScope st)) (hn:ps.length=n+1) (hm:N.length=n+1+m)
  (hb:∀(cdv:Value) (A:Around) (outer:List PySem.Env) (s:Shared) (H:Hp) (E:XK) (a:Addr) (G:List D->R D),Room k (A.deeper (envOfC qual (defScope st) s.heap.objs.size f cdv))->wM P w K mg base kG G q a H->lW (cxOf CX0 P w K mg base N qual (defScope st) f cdv A outer s H E).nox (defBody st) (g a G)):
  FnOk P w K mg base CX0 (k+1) f fd ps (spS P w mg base kG K n q (λ a G ds=>iC m (g a G) (ds.map .val++[.obj (.fn a)]))):=by
 obtain⟨oc,od,kV,doc,pm,an,cdv,ct,osl,rfl,lk,hcd⟩:=Fn.ex;refine fn_of lk hcd S (λ vs H Q E h=>?_) λ A outer s H vs Q E hr h=>?_
 ·obtain⟨O,ds,xs,a,G,rfl,r,hl,_⟩:=h;rw[hn,z1d,<-r.length,hl];rfl
 ·obtain⟨O,ds,xs,a,G,rfl,r,hl,al,ro,hc,h⟩:=h;have yW:N.length=(xs++[V.ref a]).length+m:=by rw[hm,z1d,<-r.length,hl];rfl
  refine⟨_,(hb cdv A outer s H E a G hr hc).nox,H,O,O,(ds.map Ent.val++[Ent.obj (.fn a)]).map some++List.replicate m none,?_,Nz h⟩;rw[zU yW];refine zT (X:=(cxOf CX0 P w K mg base N qual (defScope st) f cdv A outer s H E).nox) (by rw[z1d,z1g,r.length];rw[z1d] at yW;exact yW) (Bp (rT r) (.cons ⟨ro,rfl⟩ .nil)) al
end
def del (H:Hp) (c:Addr):Hp:=λ b=>if b=c then none else H b
theorem iT {c:Addr}:del H c c=none:=if_pos rfl
theorem cY {b c:Addr} (h:b≠c):del H c b=H b:=if_neg h
theorem Wb {b c:Addr} {u:HO} (h:del H c b=some u):b≠c/\H b=some u:=by
 by_cases e:b=c
 ·rw[e,iT] at h;cases h
 ·rw[cY e] at h;exact⟨e,h⟩
section
variable {P:Program} {w:World} {H:Hp} {h:Heap} {c:Addr} {co:Obj} {u:Option Value}
theorem NP (x:HOk P w H h) (hc:H c=some (.frz co (.own c))) (hd:co.data= .cell u):HOk P w (del H c) h:=λ b v q=>by
 obtain⟨nb,q⟩:=Wb q;refine (x b v q).stay (λ _ _ _ z=>z) (λ d z=>?_) (λ d xs z=>?_) λ d o v' hv z=>?_
 ·rw[cY (λ e=>by rw[e,hc] at z;cases z)];exact z
 ·rw[cY (λ e=>by rw[e,hc] at z;cases z)];exact z
 ·rw[cY (λ e=>by rw[e,hc] at z;cases z;obtain⟨vs,y⟩:=hv;rw[hd] at y;cases y)];exact z
theorem NQ (x:HOk P w H h) (hn:H c=none) (ho:h.get? c=some co):HOk P w (upd H c (.frz co (.own c))) h:=λ b v q=>by
 have old:∀b u,H b=some u->upd H c (.frz co (.own c)) b=some u:=λ b u z=>by rw[upd_ne (ne_of_none z hn)];exact z
 by_cases hb:b=c
 ·subst hb;rw[upd_same] at q;cases q;exact⟨ho,co,ho⟩
 ·rw[upd_ne hb] at q;exact (x b v q).stay (λ _ _ _ z=>z) (λ d z=>old _ _ z) (λ d xs z=>old _ _ z) λ d o v' _ z=>old _ _ z
theorem NT {O:Addr->Prop} (hc:H c=some (.frz co (.own c))):Ext O H (del H c):=by
 refine⟨λ b xs z=>?_,λ b xs _ z=>?_⟩
 ·have nb:b≠c:=λ e=>by rcases z with z |⟨o,z⟩ <;> rw[e,hc] at z <;> cases z
  rcases z with z |⟨o,z⟩
  ·exact .inl (by rw[cY nb];exact z)
  ·exact .inr ⟨o,by rw[cY nb];exact z⟩
 ·have nb:b≠c:=λ e=>by rcases z with z |⟨o,z⟩ <;> rw[e,hc] at z <;> cases z
  rcases z with z |⟨o,z⟩
  ·exact .inl (by rw[cY nb];exact z)
  ·exact .inr ⟨o,by rw[cY nb];exact z⟩
end
section
variable {M:Model} {A:Around} {E:Value->Shared->Prop} {s:Shared}
theorem Br {env env':PySem.Env} (f f':Str×Value->PUnit->Sem (ForInStep PUnit)) (hf:∀n v u,f (n,v) u=(do storeName env n v;pure (.yield ⟨⟩))) (hf':∀n v u,f' (n,v) u=(do storeName env' n v;pure (.yield ⟨⟩))):
  ∀binds:List (Str×Value),(∀x∈binds,∀v,storeName env x.1 v=storeName env' x.1 v)->(forIn binds (⟨⟩:PUnit) f:Sem PUnit)=forIn binds (⟨⟩:PUnit) f'
 |[],_=>rfl
 | (n,v)::r,h=>by
  rw[List.forIn_cons,List.forIn_cons,hf,hf',h (n,v) List.mem_cons_self v];simp only[bind_assoc,pure_bind];rw[Br f f' hf hf' r λ x hx=>h x (z2f _ hx)]
theorem NZ {env:PySem.Env} {n:Str} {v:Value} (hk:env.scope.kind= .function) (h:env.scope.names.lookup n=some .local):storeName env n v=nsSet env.locals n v:=by
 have h:env.kindOf n=some .local:=h;simp[storeName,h,hk]
theorem N5 {env:PySem.Env} {n:Str} {v:Value} {d:Addr} (hk:env.scope.kind= .function) (h:env.scope.names.lookup n=some .cell) (hd:env.cells.lookup n=some d):storeName env n v=cellSet d (some v):=by
 have h:env.kindOf n=some .cell:=h;simp[storeName,h,hk,cellOf,hd]
theorem LC {globals:Addr} {binds:List (Str×Value)} {func:Option Addr} {code:Value} {builtins:Addr} {Q:PySem.Env->Shared->Prop}
  (hk:scope.kind= .function)
  (hkind:∀x∈binds,scope.names.lookup x.1=some .local\/(scope.names.lookup x.1=some .cell/\((cellsFrom (s.heap.objs.size+1) scope.names []).lookup x.1).isSome=true))
  (hQ:∀s',InCallC s s.heap.objs.size (bindL (λ q=>scope.names.lookup q) binds λ _=>none) (cellsFrom (s.heap.objs.size+1) scope.names []) (bindC (λ q=>scope.names.lookup q) binds λ _=>none) s'->
   Q (newEnv scope s.heap.objs.size globals (cellsFrom (s.heap.objs.size+1) scope.names []++clos) qual func code none builtins) s'):
  wpAny M A (newFunctionEnv scope globals clos binds qual func code none builtins) Q E s:=by
 simp only[newFunctionEnv,Option.isSome_none,Bool.false_eq_true,if_false];refine wpAny_bind (wpAny_alloc ?_);refine wpAny_bind (wpAny_layCells _ (λ name kind cells=>by cases hkc:kind ==NameKind.cell <;> simp[hkc]) _ _ _ _ ?_);have ok:=cellsFrom_ok scope.names (s.heap.push {cls:= .type "frame",data:= .dict #[]}) (s.heap.objs.size+1) [] ⟨λ _ _ hm=>(nomatch hm),List.Pairwise.nil⟩ (by rw[Heap.size_push];exact z0g _);rw[Heap.size_push] at ok;rw[show ({s with heap:=s.heap.push {cls:= .type "frame",data:= .dict #[]}}:Shared).heap.objs.size=s.heap.objs.size+1 from Heap.size_push ..];rw[dM];have eq:=Br (env:=newEnv scope s.heap.objs.size globals (cellsFrom (s.heap.objs.size+1) scope.names []++clos) qual func code none builtins) (env':=newEnv scope s.heap.objs.size globals (cellsFrom (s.heap.objs.size+1) scope.names []) qual func code none builtins)
  (λ x _=>do storeName (newEnv scope s.heap.objs.size globals (cellsFrom (s.heap.objs.size+1) scope.names []++clos) qual func code none builtins) x.1 x.2;pure (.yield ⟨⟩))
  (λ x _=>do storeName (newEnv scope s.heap.objs.size globals (cellsFrom (s.heap.objs.size+1) scope.names []) qual func code none builtins) x.1 x.2;pure (.yield ⟨⟩)) (λ _ _ _=>rfl) (λ _ _ _=>rfl) binds (λ x hx v=>by
   rcases hkind x hx with z |⟨z,z2⟩
   ·rw[NZ hk z,NZ hk z];rfl
   ·obtain⟨d,hd⟩:=Option.isSome_iff_exists.mp z2;have e1:(cellsFrom (s.heap.objs.size+1) scope.names []++clos).lookup x.1=some d:=by rw[List.lookup_append,hd];rfl
    rw[N5 hk z e1,N5 hk z hd])
 refine wpAny_bind ?_;show wpAny M A (forIn binds (⟨⟩:PUnit) (λ x _=>do storeName (newEnv scope s.heap.objs.size globals (cellsFrom (s.heap.objs.size+1) scope.names []++clos) qual func code none builtins) x.1 x.2;pure (.yield ⟨⟩))) _ E _;rw[eq];exact wpAny_bindParams (s₀:=s) (env:=newEnv scope s.heap.objs.size globals (cellsFrom (s.heap.objs.size+1) scope.names []) qual func code none builtins)
  _ (λ _ _ _=>rfl) hk binds (λ _=>none) (λ _=>none) _ _
  ⟨⟨⟨_,_,rfl⟩,(Heap.Ns.new s.heap (.type "frame")).keeps (pushCells_keeps _ _),λ b o e=>pushCells_keeps _ _ b o (z1a _ e),z0g _⟩,
   λ n c hc=>(ok.empty n c (mem_of_lookup hc)).1,ok.apart,λ n c hm=>(ok.empty n c hm).2⟩
  hkind λ s' x=>wpAny_pure (hQ s' x)
end
structure Dq (N P:List Str) (y:Str) (sc:Scope):Prop where
 kind:sc.kind= .function
 co:sc.isCoroutine=false
 gen:sc.isGenerator=false
 nd:N.Nodup
 pre:N.take (P.length+1)=P++[y]
 par:∀x∈P,sc.names.lookup x=some .local\/sc.names.lookup x=some .cell
 Ft:sc.names.lookup y=some .free
 only:∀z∈sc.names,z.2= .free->z.1=y
 Xz:∀z∈sc.names,z.2= .cell->sc.names.lookup z.1=some .cell
section
variable (P:Program) (w:World) (K:PySem.W.Frag) (mg:Str->Option Value) (base:Heap) (N:List Str) (qual:Str) (scope:Scope) (f:Addr) (cd:Value) (A:Around) (outer:List PySem.Env) (s:Shared) (H:Hp) (y:Str) (c:Addr)
abbrev uQ:PySem.Env:=PySem.W.envX qual scope s.heap.objs.size f cd (cellsFrom (s.heap.objs.size+1) scope.names []++[(y,c)])
def uR:Cx where
 prog:=P
 w:=w
 K:=K
 mg:=mg
 base:=base
 A:=A.deeper (uQ qual scope f cd s y c)
 N:=N
 s₀:=s
 H₀:=H
 env:=uQ qual scope f cd s y c
 outer:=outer
 stack:=uQ qual scope f cd s y c::outer
 ex:=[]
 calm:=true
 fn:=λ x=>decide (x≠y)
 pn:=[]
 xe:=λ _ _=>False
end
section
variable {P:Program} {w:World} {K:PySem.W.Frag} {mg:Str->Option Value} {base:Heap}
theorem aaZ {f:Addr} {cd:Value} {A:Around} {outer:List PySem.Env} {s s1:Shared} {us:List Value} {c:Addr} {vy:V} {uy:Value}
  (S:Dq N ps y scope) (hd:A.handled=none) (e0:Env0 P w K mg base A outer s H) (hl:vs.length=ps.length) (r:Vals vs us) (hc:s.heap.IsCell c (some uy)) (hy:RelV vy uy) (hHc:H c=none)
  (x:InCallC s s.heap.objs.size (bindL (λ q=>scope.names.lookup q) (ps.zip us) λ _=>none) (cellsFrom (s.heap.objs.size+1) scope.names []) (bindC (λ q=>scope.names.lookup q) (ps.zip us) λ _=>none) s1):
  Inv (uR P w K mg base N qual scope f cd A outer s H y c) [] (start N (vs++[vy])) H s1:=by
 have hpl:ps.length+1<=N.length:=by have:=congrArg List.length S.pre;rw[List.length_take,z1d,List.length_singleton] at this;omega
 obtain⟨h1,tk,rfl,hk⟩:=x.done;have noA:∀b:Addr,b∉(uR P w K mg base N qual scope f cd A outer s H y c).ex:=λ b z=>absurd (show b∈([]:List Addr) from z) (by simp);have clt:c < s.heap.objs.size:=hc.lt;have cells:∀z d,(uQ qual scope f cd s y c).cells.lookup z=some d->((cellsFrom (s.heap.objs.size+1) scope.names []).lookup z=some d/\scope.names.lookup z=some .cell)\/(z=y/\d=c):=λ z d q=>by
  have q:(cellsFrom (s.heap.objs.size+1) scope.names []++[(y,c)]).lookup z=some d:=q;rw[List.lookup_append] at q;cases e:(cellsFrom (s.heap.objs.size+1) scope.names []).lookup z with
  | some d'=>
   rw[e] at q;have q:d'=d:=by simpa using q
   subst q;obtain⟨m1,_⟩:=jc _ _ (PySem.mem_of_lookup e);exact .inl ⟨rfl,S.Xz _ m1 rfl⟩
  | none=>
   rw[e] at q;have q:List.lookup z [(y,c)]=some d:=by simpa using q
   rw[List.lookup_cons] at q;cases hz:z ==y with
   |true=>rw[hz] at q;cases q;exact .inr ⟨by simpa using hz,rfl⟩
   |false=>rw[hz] at q;cases q
 have kept:(uQ qual scope f cd s y c).cells.lookup y=some c:=by
  show (cellsFrom (s.heap.objs.size+1) scope.names []++[(y,c)]).lookup y=some c;rw[List.lookup_append];cases e:(cellsFrom (s.heap.objs.size+1) scope.names []).lookup y with
  | some d=>
   obtain⟨m1,_⟩:=jc _ _ (PySem.mem_of_lookup e);have:=S.Xz _ m1 rfl;rw[S.Ft] at this;cases this
  |none=>simp[List.lookup_cons]
 refine⟨⟨e0.mod,S.kind,rfl,rfl,z0g _,λ z z' d h1 h2=>?_,λ z hz=>?_,λ z d hf h=>?_,λ _=>hd,Around.frames_deeper e0.frames,.inr ⟨rfl,rfl⟩,λ b z=>absurd z (noA b),e0.bs,e0.bsz,λ b _ _=>noA b,λ b z=>absurd z (noA b),e0.funs,e0.frf⟩,
  rfl,e0.bare,Un.kept hk,⟨_,x.toInCall.ns,λ i z v h1 h2 h3=>?_⟩,λ z d h=>?_,e0.hok.fresh (z0g _),λ z d h=>?_,λ p hp=>absurd (show p∈([]:List (Addr×Obj)) from hp) (by simp),e0.hok.kept hk,?_⟩
 ·rcases cells z d h1 with⟨q1,_⟩ |⟨q1,q2⟩ <;> rcases cells z' d h2 with⟨q3,_⟩ |⟨q3,q4⟩
  ·exact name_of_addr x.apart (PySem.mem_of_lookup q1) (PySem.mem_of_lookup q3)
  ·have:=x.above z d (PySem.mem_of_lookup q1);rw[q4] at this;exact absurd (Nat.lt_trans clt this) (Nat.lt_irrefl _)
  ·have:=x.above z' d (PySem.mem_of_lookup q3);rw[q2] at this;exact absurd (Nat.lt_trans clt this) (Nat.lt_irrefl _)
  ·rw[q1,q3]
 ·have hz:scope.names.lookup z=some .cell\/scope.names.lookup z=some .free:=hz;rcases hz with hz |hz
  ·obtain⟨d,e⟩:=cell_has (n:=s.heap.objs.size+1) hz;exact⟨d,by show (cellsFrom (s.heap.objs.size+1) scope.names []++[(y,c)]).lookup z=some d;rw[List.lookup_append,e];rfl⟩
  ·have e:=S.only _ (PySem.mem_of_lookup hz) rfl;have e:z=y:=e;rw[e];exact⟨c,kept⟩
 ·have hf:z≠y:=of_decide_eq_true hf;rcases cells z d h with⟨q1,_⟩ |⟨q1,_⟩
  ·exact z0e (x.above z d (PySem.mem_of_lookup q1))
  ·exact absurd q1 hf
 ·have hi:i < vs.length+1:=by
   unfold L2.start at h2;by_cases hi:i < vs.length+1
   ·exact hi
   ·rw[List.getElem?_append_right (by simpa using hi)] at h2;rw[List.getElem?_replicate] at h2;split at h2 <;> cases h2
  have ha:(vs++[vy])[i]?=some v:=by
   unfold L2.start at h2;rw[List.getElem?_append_left (by simpa using hi),z2b] at h2;cases e:(vs++[vy])[i]? with
   |none=>rw[e] at h2;cases h2
   |some a=>rw[e] at h2;cases h2;rfl
  have hp:(ps++[y])[i]?=some z:=by
   rw[<-S.pre,List.getElem?_take_of_lt (by omega)];exact h1
  by_cases hiv:i < vs.length
  ·rw [List.getElem?_append_left hiv] at ha;rw[List.getElem?_append_left (by omega)] at hp;obtain⟨u,hu,rv⟩:=r.get ha;have ndP:ps.Nodup:=by
    have q:(ps++[y]).Nodup:=by rw[<-S.pre];exact S.nd.sublist (List.take_sublist _ _)
    exact (List.nodup_append.mp q).1
   refine⟨u,rv,?_⟩;rcases S.par z (List.mem_of_getElem? hp) with k |k
   ·exact .inl ⟨k,bindL_get ndP hp hu k⟩
   ·obtain⟨d,e⟩:=cell_has (n:=s.heap.objs.size+1) k;refine .inr ⟨.inl k,d,?_,?_⟩
    ·show (cellsFrom (s.heap.objs.size+1) scope.names []++[(y,c)]).lookup z=some d;rw[List.lookup_append,e];rfl
    ·have q:=x.cell z d e;rw[bindC_get ndP hp hu (by rw[k];decide)] at q;exact q
  ·have ei:i=vs.length:=by omega
   subst ei;rw[List.getElem?_append_right (z0g _)] at ha;rw[hl,List.getElem?_append_right (z0g _)] at hp;have ha:vy=v:=by simpa using ha
   have hp:y=z:=by simpa using hp
   subst ha hp;exact⟨uy,hy,.inr ⟨.inr S.Ft,c,kept,hc.keeps hk⟩⟩
 ·rcases cells z d h with⟨q1,_⟩ |⟨_,q2⟩
  ·exact⟨_,x.cell z d q1⟩
  ·rw[q2];exact⟨_,hc.keeps hk⟩
 ·rcases cells z d h with⟨q1,_⟩ |⟨_,q2⟩
  ·exact e0.hok.fresh (z0e (x.above z d (PySem.mem_of_lookup q1)))
  ·rw[q2];exact hHc
 ·unfold L2.start;show _=N.length;rw[z1d,z1g,List.length_replicate,z1d,List.length_singleton];omega
theorem aa0 {m:Nat} {g:ao->So} {my:Int} {a c:Addr} {co:Obj} {uy:Value}
  (S:Dq N ps y scope) (hn:ps.length=n) (hm:N.length=n+1+m)
  (hbind:∀(doc pm:Value) (cl:List (Str×Addr)) (cdv ct:Value) (us:List Value),us.length=ps.length->bindArgs (PySem.W.fnX name qual params body scope cl .none .none doc pm none cdv ct) ⟨us,[]⟩=pure (ps.zip us))
  (hb:∀(cdv:Value) (A:Around) (outer:List PySem.Env) (s:Shared) (H:Hp) (f c:Addr),Room k (A.deeper (uQ qual scope f cdv s y c))->lW (uR P w K mg base N qual scope f cdv A outer s H y c) body g)
  (fh:jF H a name qual params body scope [(y,c)]) (hc:H c=some (.frz co (.own c))) (hcd:co.data= .cell (some uy)) (hy:RelV (.int my) uy):
  wM P w K mg base (k+1) (λ ds=>iC m g (ds.map .val++[.val (.int my)])) n a H:=by
 intro A outer s H1 us vs Q E hr e0 hz r sp;obtain⟨O,ds,rs,hl,al,sp⟩:=sp;have sp:(match iC m g (ds.map Ent.val++[Ent.val (.int my)]) with | .ok d=>∀v H',Same H1 H'->Rep K O H' d v->Q v H' |_=>False):=sp;obtain⟨fo,doc,pm,c',ctv,oc,vq,t,f1,f2,f3,f4,f5⟩:=fh.fz hz;have hc1:=hz _ _ _ hc;obtain⟨hco,_⟩:=e0.hok c _ hc1;obtain⟨hfo,_⟩:=e0.hok a _ f1;obtain⟨hoc,_⟩:=e0.hok c' _ f3;have KX:K.In s.heap:=e0.mod.kin.keeps λ b o e=>(e0.bs b o e).1;have lim:s.heap.NoLimit:=e0.mod.nolimit.keeps λ b o e=>(e0.bs b o e).1;have e1:Env0 P w K mg base A outer s (del H1 c):=⟨e0.frames,e0.mod,λ b o e=>⟨(e0.bs b o e).1,by
  by_cases q:b=c
  ·rw[q];exact iT
  ·rw[cY q];exact (e0.bs b o e).2⟩,e0.bsz,e0.funs,λ b hb=>by
  by_cases q:b=c
  ·rw[q];exact iT
  ·rw[cY q];exact e0.frf b hb,NP e0.hok hc1 hcd,e0.bare⟩
 have hlu:us.length=ps.length:=by rw[<-r.length,<-rs.length,hl,hn]
 have hkind:∀z∈ps.zip us,scope.names.lookup z.1=some .local\/(scope.names.lookup z.1=some .cell/\((cellsFrom (s.heap.objs.size+1) scope.names []).lookup z.1).isSome=true):=λ ⟨q,v⟩ hy=>by
  rcases S.par q (List.of_mem_zip hy).1 with z |z
  ·exact .inl z
  ·exact .inr ⟨z,PySem.W.cellsFrom_some _ _ _ (.inl z)⟩
 refine codeAny_call_function hr.depth hfo f2 S.co S.gen rfl ⟨c',oc,vq,t,rfl,hoc,f4,f5⟩ ?_;rw[hbind doc pm _ _ _ us hlu];refine wpAny_pure (LC S.kind hkind λ s1 x=>?_);refine⟨lim.keeps x.toInCall.keep,codeAny_func ?_⟩;have I:Inv (uR P w K mg base N qual scope a (.ref c') A outer s (del H1 c) y c) [] (start N (vs++[.int my])) (del H1 c) s1:=
  aaZ S hr.hd e1 (by rw[<-rs.length,hl,hn]) r ⟨co,hco,hcd⟩ hy iT x
 have yW:N.length=(vs++[V.int my]).length+m:=by rw[hm,z1d,<-rs.length,hl];rfl
 have rs':aJ K (λ b=>O b/\b≠c) (del H1 c) ds vs:=aJ.ext (NT hc1) (λ b xs nb _ z=>nb z.1) ds vs rs;have J:At (uR P w K mg base N qual scope a (.ref c') A outer s (del H1 c) y c) (del H1 c) (λ b=>O b/\b≠c) (λ b=>O b/\b≠c) (del H1 c) ((ds.map Ent.val++[Ent.val (.int my)]).map some++List.replicate m none) (start N (vs++[.int my])):=by
  rw[zU yW];refine zT (by show N.length=_;rw[z1d,z1g,rs.length];rw[z1d] at yW;exact yW) (Bp (rT rs') (.cons ⟨(bY (K:=K) (O:=λ b=>O b/\b≠c) (H:=del H1 c) my:mW K (λ b=>O b/\b≠c) (del H1 c) (.val (.int my)) (.int my)),rfl⟩ .nil)) λ b z=>?_;obtain⟨o,q⟩:=al b z.1;exact⟨o,by rw[cY z.2];exact q⟩
 have run:=hb (.ref c') A outer s (del H1 c) a c (hr.deeper _) [] s1 _ _ {nx:=λ _ H'=>iC m g (ds.map .val++[.val (.int my)])= .ok .non/\Same (del H1 c) H',rt:=λ v H'=>∃d,iC m g (ds.map .val++[.val (.int my)])= .ok d/\Same (del H1 c) H'/\Rep K (λ b=>O b/\b≠c) H' d v} I ⟨_,_,_,_,J,by
  unfold iC at sp |-;cases e2:g ((ds.map Ent.val++[Ent.val (.int my)]).map some++List.replicate m none) with
  |rt d=>exact λ v H' s' r'=>⟨d,by simp only[e2],s',r'⟩
  |nx ρ'=>exact λ σ' H' O' j' _=>⟨by simp only[e2],j'.same⟩
  |bk _=>rw[e2] at sp;exact sp.elim
  |ct _=>rw[e2] at sp;exact sp.elim
  |ex _ _=>rw[e2] at sp;exact sp.elim
  |bad=>rw[e2] at sp;exact sp.elim⟩
 have cfr:c∉frs outer:=λ z=>by rw[e0.frf c z] at hc1;cases hc1
 have fin:∀{σ':St} {H':Hp} {v:V} {u:Value} {s':Shared} {d:D},Inv (uR P w K mg base N qual scope a (.ref c') A outer s (del H1 c) y c) [] σ' H' s'->RelV v u->iC m g (ds.map .val++[.val (.int my)])= .ok d->Same (del H1 c) H'->Rep K (λ b=>O b/\b≠c) H' d v->CE outer P w H1 s Q u s':=λ {σ' H' v u s' d} J rv ed sm rd=>by
  have hn':H' c=none:=J.base.free c co hco iT (by simp[uR]);have hc':s'.heap.get? c=some co:=J.base.keep c co hco iT cfr (by simp[uR]);have ol:∀b,b≠c->upd H' c (.frz co (.own c)) b=H' b:=λ b z=>upd_ne z;have kIn:K.In s'.heap:=J.kIn;refine⟨v,upd H' c (.frz co (.own c)),J.os,J.bare,⟨λ b o q nb hb hx=>?_,λ b o q nb hb hx=>?_,λ b o q nb hx=>?_,λ b o q hx=>J.base.there b o q hx,λ b xs q=>?_,λ b o u q=>?_,λ b ps q=>?_⟩,NQ J.hok hn' hc',rv,?_⟩
  ·exact J.base.keep b o q (show del H1 c b=none by by_cases z:b=c;(rw[z];exact iT);rw[cY z];exact nb) hb hx
  ·exact J.base.slot b o q (show del H1 c b=none by by_cases z:b=c;(rw[z];exact iT);rw[cY z];exact nb) hb hx
  ·have nc:b≠c:=λ z=>by rw[z,hc1] at nb;cases nb
   rw[ol b nc];exact J.base.free b o q (show del H1 c b=none by rw[cY nc];exact nb) hx
  ·have nc:b≠c:=λ z=>by rw[z,hc1] at q;cases q
   rw[ol b nc];exact J.base.tups b xs (show del H1 c b=some _ by rw[cY nc];exact q)
  ·by_cases nc:b=c
   ·rw[nc,hc1] at q;cases q;rw[nc,upd_same]
   ·rw[ol b nc];exact J.base.frzs b o u (show del H1 c b=some _ by rw[cY nc];exact q)
  ·have nc:b≠c:=λ z=>by rw[z,hc1] at q;cases q
   rw[ol b nc];exact J.base.tbls b ps (show del H1 c b=some _ by rw[cY nc];exact q)
  ·rw [ed] at sp;have s2:Same H' (upd H' c (.frz co (.own c))):=Same.upd hn';refine sp v _ (λ b o q=>?_) ?_
   ·by_cases nc:b=c
    ·rw[nc,hc1] at q;cases q;rw[nc,upd_same]
    ·exact s2 _ _ (sm b o (by rw[cY nc];exact q))
   ·refine Rep.ext ⟨λ b xs z=>Same.rd s2 z,λ b xs _ z=>Same.rd s2 z⟩ (λ b xs nb hq z=>?_) d v rd;by_cases nc:b=c
    ·subst nc;rcases hq with (hq |⟨o,hq⟩) |⟨o,its,n',hq,h4,_⟩
     ·rw[hn'] at hq;cases hq
     ·rw[hn'] at hq;cases hq
     ·have:=kIn _ _ hq;rw[hc'] at this;cases this;simp_all
    ·exact nb ⟨z,nc⟩
 refine wpAny_mono run (λ fl s' hs=>?_) λ e s' hs=>hs.elim;cases fl with
 | ret u=>
  obtain⟨v,σ',H',J,rv,d,q1,q2,q3⟩:=hs;exact fin J rv q1 q2 q3
 | next=>
  obtain⟨σ',H',J,q1,q2⟩:=hs;exact fin (v:=V.non) (u:=Value.none) J rfl q1 q2 mV
 |brk=>obtain⟨_,_,_,q⟩:=hs;exact False.elim q
 |cont=>obtain⟨_,_,_,q⟩:=hs;exact False.elim q
end
section
variable {X:Cx} {name qual:Str} {params:Arguments} {body:List Stmt} {scope:Scope} {y xS:Str} {c fS:Addr} {Jp:FuncData} {Ga:List Str} {kS kG n q iy:Nat} {FS:Addr->(List D->R D)->List D->R D} {GG:Int->List D->R D} {p pos:Pos} {e:Expr} {es:List Expr} {ta:TA}
inductive X8 (K:PySem.W.Frag) (name qual:Str) (params:Arguments) (body:List Stmt) (scope:Scope) (y:Str) (c:Addr) (iy n:Nat) (FS:Addr->(List D->R D)->List D->R D) (GG:Int->List D->R D) (σ:St) (Q:VK) (vs:List V) (H1:Hp):Prop
 |mk (O:Addr->Prop) (ds:List D) (xs:List V) (a:Addr) (my:Int) (d:D) (e:vs=xs++[.ref a]) (r:aJ K O H1 ds xs) (hl:ds.length=n) (al:∀b,O b->∃o,H1 b=some o) (fh:jF H1 a name qual params body scope [(y,c)]) (hσ:σ[iy]?=some (some (.int my))) (hF:∀a,FS a (GG my) ds= .ok d) (hQ:∀v H',Same H1 H'->Rep K O H' d v->Q v H'):X8 K name qual params body scope y c iy n FS GG σ Q vs H1
def acr (K:PySem.W.Frag) (name qual:Str) (params:Arguments) (body:List Stmt) (scope:Scope) (y:Str) (c:Addr) (iy n:Nat) (FS:Addr->(List D->R D)->List D->R D) (GG:Int->List D->R D) (ta:TA):TE:=λ σ H Q=>ta σ H λ vs H1=>X8 K name qual params body scope y c iy n FS GG σ Q vs H1
theorem Wc (Sw:FnOk X.prog X.w X.K X.mg X.base CX0 kS fS Jp Ga (spS X.prog X.w X.mg X.base kG X.K n q FS)) (hr:Room kS X.A) (hg:Gl X xS) (hm:X.mg xS=some (.ref fS)) (hk:PySem.W.keepIn X.K (.ref fS)=true) (hb:Binds X.K Jp Ga [])
  (Wd:∀my a c H co uy,jF H a name qual params body scope [(y,c)]->H c=some (.frz co (.own c))->co.data= .cell (some uy)->RelV (.int my) uy->wM X.prog X.w X.K X.mg X.base kG (GG my) q a H)
  (hc:X.env.cells.lookup y=some c) (Yb:X.env.scope.names.lookup y=some .cell) (hfn:X.fn y=true) (hiy:X.N[iy]?=some y) (ha:PA X (e::es) ta) (hdb:(xS ==("__debug__" :Str))=false:=by decide)
  (he:starEach (e::es) X.env=(false,eval e X.env)::starEach es X.env:=by rfl) (hpl:(backTo pos (starEach es X.env)).any (·.1)=false:=by rfl):
  PE X (.Call (.Name xS p) (e::es) [] pos) (acr X.K name qual params body scope y c iy n FS GG ta):=by
 intro pins s σ H Q I h;refine wpAny_Call_Name_kw (ld_glob I hg hm ?_ hdb);refine PySem.W.callWith_K (h₀:=X.base) I.ok.mod.kin hk (thn (ha pos pins s σ H _ I h) λ us s1 ⟨vs,H1,I1,r,hq⟩=>⟨I1.kIn,?_⟩) he hpl;obtain⟨O,ds,xs,a,my,d,rfl,rs,hl,al,fh,hσ,hF,hQ⟩:=hq;obtain⟨m,hn,hl'⟩:=I1.loc;obtain⟨uy,ry,look⟩:=hl' iy y (.int my) hiy hσ (.inr (.inl Yb));have hcell:s1.heap.IsCell c (some uy):=by
  rcases look with⟨z,_⟩ |⟨_,c2,z,hz⟩
  ·have z:X.env.scope.names.lookup y=some .local:=z;rw[Yb] at z;cases z
  ·rw[hc] at z;cases z;exact hz
 obtain⟨co,hco,hcd⟩:=hcell;have hnc:H1 c=none:=I1.freeC y c hc;have cab:X.s₀.heap.objs.size<=c:=I1.ok.cab y c hfn hc;have sm:Same H1 (upd H1 c (.frz co (.own c))):=Same.upd hnc;have nfr:∀b∈frs X.stack,b≠c:=λ b hb z=>by
  rcases List.mem_cons.mp (I1.stkSub b hb) with e |hb'
  ·exact I1.cne y c hc (z.symm.trans e)
  ·obtain⟨_,o,ho,_⟩:=I1.ok.funs.mem hb';exact absurd (z0d (z2c ho) cab) (by rw[z];exact Nat.lt_irrefl _)
 have e0:=I1.env0;have e1:Env0 X.prog X.w X.K X.mg X.base X.A X.stack s1 (upd H1 c (.frz co (.own c))):=⟨e0.frames,e0.mod,λ b o z=>⟨(e0.bs b o z).1,by
  rw[upd_ne (λ w=>by
   have:=z2c (I1.ok.bs b o z).1;rw[w] at this;exact absurd (z0d this cab) (Nat.lt_irrefl _))]
  exact (e0.bs b o z).2⟩,e0.bsz,e0.funs,λ b hb=>by rw[upd_ne (nfr b hb)];exact e0.frf b hb,NQ e0.hok hnc hco,e0.bare⟩
 obtain⟨fo,doc,pm,c',ctv,oc,vq,t,f1,f2,f3,f4,f5⟩:=id fh;have fh1:=fh.fz λ b o u z=>sm b _ z;have sp:spS X.prog X.w X.mg X.base kG X.K n q FS (xs++[.ref a]) (upd H1 c (.frz co (.own c))) (λ v H'=>Same (upd H1 c (.frz co (.own c))) H'/\Rep X.K O H' d v) E0:=by
  refine⟨O,ds,xs,a,GG my,rfl,rs.same sm,hl,λ b z=>let ⟨o,w⟩:=al b z;⟨o,sm _ _ w⟩,⟨rfl,fo,_,sm _ _ f1,f2⟩,Wd my a c _ co uy fh1 upd_same hcd ry,?_⟩;rw[hF a];exact λ v H' s' r'=>⟨s',r'⟩
 have hll:us.length=Ga.length:=by rw[<-r.length];exact Sw.len _ _ _ _ sp
 have hbb:=hb s1 us I1.kIn (by rw[List.append_nil];exact hll);rw[List.append_nil] at hbb;refine wpAny_call (codeAny_mono (Sw.run X.A X.stack s1 _ ⟨us,[]⟩ us _ _ E0 hr e1 hbb r sp) λ rr s' hq=>?_);cases rr with
 |error ev=>exact hq.elim
 | ok fl =>
  cases fl with
  |next=>exact False.elim hq
  |brk=>exact False.elim hq
  |cont=>exact False.elim hq
  | ret u =>
   obtain⟨v,H',os,bare,un,hok,rv,q1,q2⟩:=hq;have hc':H' c=some (.frz co (.own c)):=un.frzs c co _ upd_same;have up:∀b,b≠c->upd H1 c (.frz co (.own c)) b=H1 b:=λ b z=>upd_ne z;have un':Un (frs X.stack) [] H1 (del H' c) s1.heap s'.heap:=by
    refine⟨λ b o z nb hb hx=>?_,λ b o z nb hb hx=>?_,λ b o z nb hx=>?_,un.there,λ b xs z=>?_,λ b o u z=>?_,λ b ps z=>?_⟩
    ·by_cases bc:b=c
     ·subst bc;rw[hco] at z;cases z;exact (hok b _ hc').1
     ·exact un.keep b o z (by rw[up b bc];exact nb) hb hx
    ·exact un.slot b o z (by rw[up b (nfr b hb)];exact nb) hb hx
    ·by_cases bc:b=c
     ·rw[bc];exact iT
     ·rw[cY bc];exact un.free b o z (by rw[up b bc];exact nb) hx
    ·have bc:=ne_of_none z hnc;rw[cY bc];exact un.tups b xs (by rw[up b bc];exact z)
    ·have bc:=ne_of_none z hnc;rw[cY bc];exact un.frzs b o u (by rw[up b bc];exact z)
    ·have bc:=ne_of_none z hnc;rw[cY bc];exact un.tbls b ps (by rw[up b bc];exact z)
   have J:Inv X pins σ (del H' c) s':=I1.call' os un' (NP hok hc' hcd) bare λ b z=>absurd z (by simp);refine⟨v,del H' c,J,rv,hQ v _ (λ b o z=>?_) ?_⟩
   ·have bc:=ne_of_none z hnc;rw[cY bc];exact q1 b o (by rw[up b bc];exact z)
   ·exact Rep.ext (NT hc') (λ b xs nb _ z=>nb z) d v q2
end
open Classical in
def allOf (f:Addr->R D):R D:=if h:∃d,∀a,f a= .ok d then .ok h.choose else .bad
theorem Wf {f:Addr->R D} {d:D} (h:∀a,f a= .ok d):allOf f= .ok d:=by
 have e:∃d,∀a,f a= .ok d:=⟨d,h⟩;unfold allOf;rw[dif_pos e];have:=e.choose_spec 0;rw[h 0] at this;exact this.symm
theorem Wg {f:Addr->R D} {d:D} (h:allOf f= .ok d) (a:Addr):f a= .ok d:=by
 unfold allOf at h;by_cases e:∃d,∀a,f a= .ok d
 ·rw[dif_pos e] at h;cases h;exact e.choose_spec a
 ·rw[dif_neg e] at h;cases h
def Qp (i iy:Nat) (f1 f2 f3:ao->R D) (FS:Addr->(List D->R D)->List D->R D) (GG:Int->List D->R D):ao->So:=λ ρ=>match ρ[i]?,ρ[iy]? with
 | some none,some (some (.val (.int my)))=>(match f1 ρ,f2 ρ,f3 ρ with
  | .ok a,.ok b,.ok d=>(match allOf (λ x=>FS x (GG my) [a,b,d]) with
   | .ok r=> .rt r
   |_=> .bad)
  |_,_,_=> .bad)
 |_,_=> .bad
section
variable {X:Cx} {name qual:Str} {params:Arguments} {body:List Stmt} {scope:Scope} {y xS:Str} {c cc P fS:Addr} {Jp:FuncData} {Ga:List Str} {kS kG q:Nat} {FS:Addr->(List D->R D)->List D->R D} {GG:Int->List D->R D} {p p4 pos pos2 aa1:Pos} {e1 e2 e3:Expr} {f1 f2 f3:ao->R D}
theorem In.adg {O:Addr->Prop} {v:V} (j:In X O H ρ σ) (hn:ρ[i]?=some none):In X O H ρ (σ.set i (some v)):=by
 have ne:∀(k:Nat) e,ρ[k]?=some (some e)->i≠k:=λ k e h z=>by rw[<-z,hn] at h;cases h
 refine⟨⟨λ k e h=>?_,λ k l e e' u hkl hk hl ok ol sk sl=>?_,λ k l rows a rs e u hkl hk sk ha hl ol sl=>?_⟩,j.al,by rw[List.length_set];exact j.len,j.jU⟩
 ·rw[z1e (ne k e h)];exact j.env.get k e h
 ·rw[z1e (ne k e hk)] at sk;rw[z1e (ne l e' hl)] at sl;exact j.env.sep k l e e' u hkl hk hl ok ol sk sl
 ·rw[z1e (ne k _ hk)] at sk;rw[z1e (ne l e hl)] at sl;exact j.env.lg k l rows a rs e u hkl hk sk ha hl ol sl
theorem Wh (i iy:Nat) (hN:X.N.Nodup) (hB:nZ X.base X.mg cc P) (hT:Tb [(P,qual)] X.H₀) (hcode:X.env.code= .ref cc) (Sw:FnOk X.prog X.w X.K X.mg X.base CX0 kS fS Jp Ga (spS X.prog X.w X.mg X.base kG X.K 3 q FS)) (hr:Room kS X.A) (hm:X.mg xS=some (.ref fS)) (hk:PySem.W.keepIn X.K (.ref fS)=true) (hb:Binds X.K Jp Ga [])
  (Wd:∀my a c H co uy,jF H a name qual params body scope [(y,c)]->H c=some (.frz co (.own c))->co.data= .cell (some uy)->RelV (.int my) uy->wM X.prog X.w X.K X.mg X.base kG (GG my) q a H)
  (h1:DE X e1 f1) (h2:DE X e2 f2) (h3:DE X e3 f3)
  (hcl:closureFor scope X.env=pure [(y,c)]) (hc:X.env.cells.lookup y=some c) (Yb:X.env.scope.names.lookup y=some .cell) (hfn:X.fn y=true) (hii:i≠iy) (hnv:Vis X.env.scope name)
  (hiy:X.N[iy]?=some y:=by rfl) (hi:X.N[i]?=some name:=by rfl) (hl:Loc X.env.scope name:=by first |exact Or.inl rfl |exact Or.inr rfl) (hq:qualnameIn X.env name name=qual:=by rfl) (hd0:params.defaults=[]:=by rfl) (hk0:params.kw_defaults=[]:=by rfl) (ha:annTrees params none X.env=[]:=by rfl)
  (hg:Gl X xS:=by rfl) (hdb:(xS ==("__debug__" :Str))=false:=by decide) (hdn:(name ==("__debug__" :Str))=false:=by decide) (hdc:(name ==("__classdict__" :Str))=false:=by decide)
  (he1:starEach [e1,e2,e3,.Name name p4] X.env=(false,eval e1 X.env)::starEach [e2,e3,.Name name p4] X.env:=by rfl) (he2:starEach [e2,e3,.Name name p4] X.env=(false,eval e2 X.env)::starEach [e3,.Name name p4] X.env:=by rfl)
  (he3:starEach [e3,.Name name p4] X.env=(false,eval e3 X.env)::starEach [.Name name p4] X.env:=by rfl) (he4:starEach [.Name name p4] X.env=(false,eval (.Name name p4) X.env)::starEach [] X.env:=by rfl)
  (hpl:(backTo pos2 (starEach [e2,e3,.Name name p4] X.env)).any (·.1)=false:=by rfl) (hf:X.fn name=true\/X.env.scope.names.lookup name=some .local:=by first |exact .inl rfl |exact .inr rfl):
  lW X [.FunctionDef name params body [] none [] scope none name pos,.Return (some (.Call (.Name xS p) [e1,e2,e3,.Name name p4] [] pos2)) aa1] (Qp i iy f1 f2 f3 FS GG):=by
 have A:=pa_cons h1 (pa_cons h2 (pa_cons h3 (pa_cons (pe_var (X:=X) (pos:=p4) hi hnv hdn hdc) pa_nil he4) he3) he2) he1;refine PSs.imp (pss_cons (aaY i hN hB hT hcode hcl hi hl hq hd0 hk0 ha hf) (pss_one (ps_ret (Wc (iy:=iy) (p:=p) (pos:=pos2) Sw hr hg hm hk hb Wd hc Yb hfn hiy A hdb he1 hpl)))) λ σ H E h=>?_;obtain⟨H0,O0,O,ρ,j,h⟩:=h;intro a H1 sm fh;unfold Qp at h;split at h
 ·rename_i my en em;have hil:i < X.N.length:=(z1b hi).1;obtain⟨v,hv,rv⟩:=j.inn.env.get iy _ em;have rv:v= .int my:=Rep.int (show Rep X.K O H (.int my) v from rv);subst rv;split at h
  ·rename_i d1 d2 d3 q1 q2 q3;cases q4:allOf (λ x=>FS x (GG my) [d1,d2,d3]) with
   |bad=>rw[q4] at h;exact h.elim
   |err _=>rw[q4] at h;exact h.elim
   | ok d=>
    rw[q4] at h;have jn:In X O H1 ρ (σ.set i (some (.ref a))):=In.adg (j.inn.same sm) en;refine⟨ρ,O,jn,?_⟩;rw[q1];intro v1 H2 s2 r1;refine⟨ρ,O,jn.same s2,?_⟩;rw[q2];intro v2 H3 s3 r2;refine⟨ρ,O,(jn.same s2).same s3,?_⟩;rw[q3];intro v3 H4 s4 r3;have jl:i < σ.length:=by rw[j.inn.len];exact hil
    refine⟨.ref a,z2a jl,?_⟩;have s14:Same H1 H4:=(s2.trans s3).trans s4;refine⟨O,[d1,d2,d3],[v1,v2,v3],a,my,d,rfl,.cons (r1.same (s3.trans s4)) (.cons (r2.same s4) (.cons r3 .nil)),rfl,(jn.same s14).al,fh.fz λ b o u z=>s14 _ _ z,?_,Wg q4,λ v' H' s' r'=>?_⟩
    ·rw[z1e hii];exact hv
    ·exact h v' H' (j.same.trans (sm.trans (s14.trans s'))) (r'.fewer j.sub)
  ·exact h.elim
 ·exact h.elim
end
def lF (a:Addr) (o:Option HO) (T:Addr) (q:Str):Hp:=λ b=>if b=T then some (.tbl #[.str q 0]) else if b=a then o else none
theorem Te {mg mb:Str→Option Value} {fa a c T:Addr} {q:Str} {x:Str} {sp:Sp} {s₁:Shared} {vs:List Value} {ns:List Int}
    (KX:K.In s₁.heap) (hns:s₁.heap.Ns mainGlobals mg) (hb:s₁.heap.Ns builtinsNs mb) (hbb:∀x:Str,x≠"__name__"→mb x=bootBuiltins x) (hlim:s₁.heap.NoLimit) (hg:s₁.gens= #[])
    (ha:s₁.heap.get? a=some {cls:= .type "list",data:= .seq vs.toArray}) (hi:IntsAre vs ns) (hl:ns.length≤sizeLine) (hr:Room k callerA)
    (hC:PySem.W.CodeHd s₁.heap c T) (hT:s₁.heap.get? T=some (PySem.W.tabObj #[])) (hnt:PySem.W.noTabs K=true)
    (hbm:∃bm ob,mg "__builtins__" =some (.ref bm)∧bm≠builtinsNs∧s₁.heap.get? bm=some ob∧ob.cls= .type "module"∧ob.dict=some builtinsNs∧ob.data= .plain)
    (F:∀base:Heap,K.In base→base.Ns mainGlobals mg→nZ base mg c T→FnOk P w K mg base CX0 k fa fd [x] sp) (hbind:∀(s:Shared) (u:Value),BindsTo s fd ⟨[u],[]⟩ [(x,u)])
    (hsp:∀H:Hp,Tb [(T,q)] H→SqL K H a (ns.map V.int)→sp [.ref a] H (fun v _=>v= .bl true) fun _ _ _=>False):
    codeAny (model P w) callerA (.call (.ref fa) ⟨[.ref a],[]⟩) (fun r s'=>r= .ok (.ret (.bool true))∧OldK s₁.heap s'.heap∧s'.os=s₁.os∧AllBare s'.gens) s₁:=by
  have rv:=vals_ints hi
  have lenV:=hi.length
  have aT:a≠T:=fun z=>by rw[z,hT] at ha;cases ha
  have core : ∀o:Option HO,(o=none∨o=some (.frz {cls:= .type "list",data:= .seq vs.toArray} (.lst (ns.map V.int))))→SqL K (lF a o T q) a (ns.map V.int)→(o≠none→K.lookup a=none)→
      codeAny (model P w) callerA (.call (.ref fa) ⟨[.ref a],[]⟩) (fun r s'=>r= .ok (.ret (.bool true))∧OldK s₁.heap s'.heap∧s'.os=s₁.os∧AllBare s'.gens) s₁:=by
    intro o ho hS hK
    have hH:∀b u,lF a o T q b=some u→(b=T∧u= .tbl #[.str q 0])∨(b=a∧u= .frz {cls:= .type "list",data:= .seq vs.toArray} (.lst (ns.map V.int))∧o≠none):=fun b u z=>by
      unfold lF at z
      by_cases h1:b=T
      · rw[if_pos h1] at z;cases z;exact .inl ⟨h1,rfl⟩
      · rw[if_neg h1] at z
        by_cases h2:b=a
        · rw[if_pos h2] at z
          rcases ho with ho |ho
          · rw[ho] at z;cases z
          · rw[ho] at z;cases z;exact .inr ⟨h2,rfl,by rw[ho];simp⟩
        · rw[if_neg h2] at z;cases z
    have hok:HOk P w (lF a o T q) s₁.heap:=fun b u z=>by
      rcases hH b u z with⟨rfl,rfl⟩ |⟨rfl,rfl,_⟩
      · exact⟨#[],hT,trivial,fun p cv y=>by cases y⟩
      · exact⟨ha,by rw[List.length_map];exact hl,vs,_,rv,ha⟩
    have tb:Tb [(T,q)] (lF a o T q):=fun p hp=>by
      have e:p=(T,q):=by simpa using hp
      subst e
      exact⟨#[.str q 0],0,if_pos rfl,rfl⟩
    have base_of:∀{b:Addr} {u:Obj},s₁.heap.get? b=some u→lF a o T q b=none→(hidT s₁.heap (lF a o T q)).get? b=some u:=fun e n=>hidT_get e n
    have free:∀{b:Addr} {u:Obj},s₁.heap.get? b=some u→u.cls≠.type "list"→u.cls≠.none→lF a o T q b=none:=fun {b u} e n1 n2=>by
      cases z:lF a o T q b with
      |none=>rfl
      | some y=>
        rcases hH b y z with⟨rfl,_⟩ |⟨rfl,_,_⟩
        · rw[hT] at e;cases e;exact absurd rfl n2
        · rw[ha] at e;cases e;exact absurd rfl n1
    have acs:∀{b:Addr} {u:Obj} {es:Array DictEntry} {ep:Nat},s₁.heap.get? b=some u→u.data= .dict es ep→lF a o T q b=none:=fun {b u es ep} e d=>by
      cases z:lF a o T q b with
      |none=>rfl
      | some y=>
        rcases hH b y z with⟨rfl,_⟩ |⟨rfl,_,_⟩
        · rw[hT] at e;cases e;cases d
        · rw[ha] at e;cases e;cases d
    have nsK:∀{b:Addr} {m:Str→Option Value},s₁.heap.Ns b m→(hidT s₁.heap (lF a o T q)).Ns b m:=fun {b m} ⟨u,es,ep,e,d,r⟩=>⟨u,es,ep,base_of e (acs e d),d,r⟩
    have hKb:K.In (hidT s₁.heap (lF a o T q)):=fun b u e=>base_of (KX b u e) (by
      cases z:lF a o T q b with
      |none=>rfl
      | some y=>
        rcases hH b y z with⟨rfl,_⟩ |⟨rfl,_,no⟩
        · have e1:=KX b u e
          rw[hT] at e1;cases e1
          have h2:=List.all_eq_true.mp hnt (b,PySem.W.tabObj #[]) (PySem.W.mem_of_lookupK e)
          exact absurd (show false=true from h2) Bool.false_ne_true
        · rw[hK no] at e;cases e)
    have hM:Mod K mg (hidT s₁.heap (lF a o T q)):=⟨hKb,nsK hns,⟨mb,nsK hb,hbb⟩,let ⟨mc,h1,h2⟩:=hlim;⟨mc,nsK h1,h2⟩⟩
    have nb:nZ (hidT s₁.heap (lF a o T q)) mg c T:=by
      refine⟨?_,?_⟩
      · obtain⟨oc,v,file,tf,flags,tg,inF,text,tt,e1,e2,r⟩:=hC
        exact⟨oc,v,file,tf,flags,tg,inF,text,tt,base_of e1 (free e1 (by rw[e2];nofun) (by rw[e2];nofun)),e2,r⟩
      · obtain⟨bm,ob,b1,b2,b3,b4,r⟩:=hbm
        exact⟨bm,ob,b1,b2,base_of b3 (free b3 (by rw[b4];nofun) (by rw[b4];nofun)),b4,r⟩
    have e0:Env0 P w K mg (hidT s₁.heap (lF a o T q)) callerA [] s₁ (lF a o T q):=⟨rfl,hM,fun b o e=>of_hidT e,Nat.le_of_eq (hidT_size _ _),trivial,fun b hb=>absurd (show b∈([]:List Addr) from hb) (by simp),hok,.of_eq hg⟩
    refine codeAny_mono ((F _ hKb (nsK hns) nb).run callerA [] s₁ (lF a o T q) ⟨[.ref a],[]⟩ [.ref a] [.ref a] _ _ hr e0 (hbind s₁ (.ref a)) (.cons rfl .nil) (hsp _ tb hS)) fun r s' h=>?_
    cases r with
    |error e=>exact h.elim
    | ok fl =>
      cases fl with
      |next=>exact False.elim h
      |brk=>exact False.elim h
      |cont=>exact False.elim h
      | ret u =>
        obtain⟨v,H',os,bare,un,hok',r',z⟩:=h
        have z:v= .bl true:=z
        subst z
        obtain rfl:u=Value.bool true:=r'
        have each:∀b o,s₁.heap.get? b=some o→s'.heap.get? b=some o∨(b=T∧o=PySem.W.tabObj #[]∧∃qs,s'.heap.get? b=some (PySem.W.tabObj qs)):=fun b ob e=>by
          cases z:lF a o T q b with
          |none=>exact .inl (un.keep b ob e z (by intro y;exact absurd (show b∈([]:List Addr) from y) (by simp)) (by simp))
          | some y=>
            rcases hH b y z with⟨rfl,rfl⟩ |⟨rfl,rfl,_⟩
            · obtain⟨more,z2⟩:=un.tbls _ _ z
              obtain⟨qs,e2,_⟩:=hok' _ _ z2
              rw[hT] at e;cases e
              exact .inr ⟨rfl,rfl,qs,e2⟩
            · have z2:=un.frzs _ _ _ z
              obtain⟨e1,_⟩:=hok _ _ z
              obtain⟨e2,_⟩:=hok' _ _ z2
              rw[e] at e1;cases e1
              exact .inl e2
        refine⟨rfl,⟨fun b ob e=>?_,fun b ob e=>?_⟩,os,bare⟩
        · rcases each b ob e with z |⟨rfl,rfl,qs,z⟩
          · exact .inl z
          · exact .inr (.inl ⟨(hC.tab hT).isCodeTable,rfl,#[],qs,rfl,by rw[Array.empty_append];exact z⟩)
        · rcases each b ob e with z |⟨rfl,rfl,qs,z⟩
          · exact⟨_,z⟩
          · exact⟨_,z⟩
  cases hk:K.lookup a with
  | some o=>
    have e:=KX a o hk
    rw[ha] at e
    cases e
    exact core none (.inl rfl) (.inr ⟨_,vs.toArray,_,hk,rfl,rfl,rfl,by rw[List.size_toArray,lenV];exact hl,by simpa using rv⟩) fun z=>absurd rfl z
  |none=>exact core _ (.inr rfl) (.inl (.inr ⟨_,(if_neg aT).trans (if_pos rfl)⟩)) fun _=>hk
def wN (K:PySem.W.Frag) (mg:Str->Option Value) (x:Str) (c:Addr):Prop:=∀f oc od fd osl,mg x=some (.ref f)->K.lookup f=some ⟨oc,od,.func fd,osl⟩->fd.code= .ref c
theorem acu {l:PySem.W.OpenLaw} {p:Program} {loose:List Str} {XP:(Str->Option Value)->Heap->Prop} {YP:World->Heap->Prop} {d:DefRec} {K:Params->PySem.W.Frag} {x q:Str} {FL:List D->R D}
  (hn:l.most=some n) (hn2:n<=sizeLine) (hdf:d.params.defaults=[]) (hr:Room k callerA)
  (hY:∀(w:World) (h:Heap),YP w h->(K w.params).In h) (hnt:∀w:World,PySem.W.noTabs (K w.params)=true) (hrec:∃dy∈recsOf p,dy.name=y)
  (F:∀(w:World) (mg:Str->Option Value) (fa:Addr) (h:Heap),(K w.params).In h->h.Ns mainGlobals mg->mg d.name=some (.ref fa)->
   ∃ fd:FuncData,(∀(s:Shared) (u:Value),BindsTo s fd ⟨[u],[]⟩ [(x,u)])/\
    ∀(base:Heap) (c T:Addr),(K w.params).In base->base.Ns mainGlobals mg->nZ base mg c T->wN (K w.params) mg y c->FnOk l.prog w (K w.params) mg base CX0 k fa fd [x] (spT [(T,q)] (K w.params) 1 FL))
  (hL:∀ns:List Int,ns.length<=n->FL [.lst (ns.map D.int)]= .ok (.bl true)):
  PySem.W.WalkO p loose XP YP l.row.toRowW d [] (λ f vs=>PySem.call f vs):=by
 refine Att.attach_call hn hdf λ w s₀ s₁ mg mb fa o pm cd doc a vs ns G Y ho hd hcd hmg hobj hints hlen hg=>?_;have KX:=hY w _ Y;obtain⟨fd,hb,hF⟩:=F w mg fa _ KX G.T.g hmg;obtain⟨dy,RQ,rfl⟩:=hrec;obtain⟨f',o',fd',c,T,t1,t2,t3,t4,t5,t6⟩:=G.T.tab dy RQ;have hci:wN (K w.params) mg dy.name c:=λ f oc od fd2 osl e1 e2=>by
  rw[t1] at e1;cases e1;have e3:=KX _ _ e2;rw[t2] at e3;cases e3;cases t3;exact t4
 exact Te (q:=q) KX G.T.g G.T.b G.T.builtins G.T.nolimit hg hobj hints (z0b hlen hn2) hr (PySem.W.CodeHd.of t5 t6) t6.2 (hnt w) G.T.bmain (λ base h1 h2 h3=>hF base c T h1 h2 h3 hci) hb λ H tb hS=>⟨tb,sp_law hS (hL ns hlen)⟩
section
variable {X:Cx} {e lo hi:Expr} {f g:ao->R D} {fl fu:ao->R (Option Int)} {pos p2 p3 p4:Pos}
def Dr (d:D) (lo hi:Option Int):R D:=match d with
 | .lst ds=> .ok (.lst (jE ds lo hi))
 |_=> .bad
def eN (f:ao->R D) (fl fu:ao->R (Option Int)):ao->R D:=λ ρ=>(f ρ).bind λ d=>(fl ρ).bind λ l=>(fu ρ).bind λ u=>Dr d l u
theorem rW {lo hi:Option Expr} (he:DE X e f) (hl:Np X lo fl) (hu:Np X hi fu):DE X (.Subscript e (.Slice lo hi none p2) pos) (eN f fl fu):=by
 refine PE.imp (pe_slice sl_list he hl hu) λ σ H Q h=>?_;obtain⟨ρ,O,j,h⟩:=h;refine go j h λ d v H1 e1 s1 r1 j1 h1=>?_;refine go j1 h1 λ l l' H2 e2 s2 r2 j2 h2=>?_;refine go j2 h2 λ u u' H3 e3 s3 r3 j3 h3=>?_;have r2:l=l':=r2;have r3:u=u':=r3;subst r2 r3;cases d with
 | lst ds=>
  have r1':=(r1.same s2).same s3;obtain⟨a,xs,rfl,hq,hn,rs⟩:=r1'.lst;have hlen:=rs.length;refine⟨a,xs,rfl,hq,λ p hp=>?_⟩;refine h3 _ _ (Same.upd hp) (Rep.jr hp (j3.lQ hp) ?_);unfold jE cutV;rw[hlen];exact (rs.drop _).take _
 |_=>exact h3.elim
theorem Y8 {kk} {te:TE} (he:PE X e te):PE X (.Subscript e (.Slice none none (some (.UnaryOp .USub (.Constant (.int 1) kk p3) p4)) p2) pos) (λ σ H Q=>te σ H λ x H1=>∃a xs,x= .ref a/\SqL X.K H1 a xs/\∀p,H1 p=none->Q (.ref p) (upd H1 p (.lst xs.reverse))):=by
 intro pins s σ H Q I h;refine Subscript_ (thn (he pins s σ H _ I h) λ v s1 bA=>?_);obtain⟨x,H1,I1,r1,q1⟩:=bA;obtain⟨a,xs,rfl,hq,q⟩:=q1;cases r1;refine wpAny_Slice ?_;rw[evalPart_none,evalPart_some];refine wpAny_pure (wpAny_pure ?_);refine thn (pe_un (X:=X) un_neg pe_int pins s1 σ H1 (λ y H2=>y= .int (-1)/\H2=H1) I1 ⟨1,rfl,rfl,rfl⟩) λ vs s2 bA=>?_;obtain⟨y,H2,I2,r2,ey,eH⟩:=bA;subst ey;subst eH;obtain⟨t,rfl⟩:=r2;have I4:Inv X pins σ H2 {s2 with heap:=s2.heap.push {cls:= .type "slice",data:= .fields #[.none,.none,.int (-1) t]}}:=I2.kept (t':=s2.toks) λ b ob q=>z1a _ q;obtain⟨its,rv,ht,hz⟩:=I4.list hq;have hlen:=rv.length;show wpAny (model X.prog X.w) X.A (subscriptTail e (.Slice none none (some (.UnaryOp .USub (.Constant (.int 1) kk p3) p4)) p2) (.ref a) (.ref s2.heap.objs.size)) (EP X pins σ Q) X.xe {s2 with heap:=s2.heap.push {cls:= .type "slice",data:= .fields #[.none,.none,.int (-1) t]}};refine tail_any (ops:=[.ref a,.ref s2.heap.objs.size]) ht.isList.typeIs slot_list_getitem.lookup (wpAny_getItem_list_slice ht.isList (Heap.IsSliceOf.new ..) .none .none (.int (-1) t) (by simp) ?_ (by rw[z1c];omega)) (by with_unfolding_all rfl);rw[PySem.W.krv_pick];refine⟨.ref _,_,I4.laid (t':=s2.toks) (o:= .lst xs.reverse) (λ b ob q=>z1a _ q) (z0g _) ?_,rfl,q _ (I4.hok.fresh (z0g _))⟩;exact⟨by rw[List.length_reverse];exact hz,its.reverse,0,Vals.rev rv,(by have e:its.toArray.toList.reverse=its.reverse:=(by simp);rw[e];exact z1f _ rfl)⟩
def acv:D->R D
 | .lst ds=> .ok (.lst ds.reverse)
 |_=> .bad
def Ih (f:ao->R D):ao->R D:=λ ρ=>(f ρ).bind acv
theorem Y9 {kk} (he:DE X e f):DE X (.Subscript e (.Slice none none (some (.UnaryOp .USub (.Constant (.int 1) kk p3) p4)) p2) pos) (Ih f):=by
 refine PE.imp (Y8 he) λ σ H Q h=>?_;obtain⟨ρ,O,j,h⟩:=h;refine go j h λ d v H1 e1 s1 r1 j1 h1=>?_;cases d with
 | lst ds=>
  obtain⟨a,xs,rfl,hq,hn,rs⟩:=r1.lst;exact⟨a,xs,rfl,hq,λ p hp=>h1 _ _ (Same.upd hp) (Rep.jr hp (j1.lQ hp) rs.reverse)⟩
 |_=>exact h1.elim
def wO (i:Nat) (f:ao->R D):ao->R D:=λ ρ=>match ρ[i]? with
 |some (some (.lst ds))=>(f ρ).bind λ d=>bZ (.lst ds) d
 |_=> .bad
theorem wQ (i:Nat) {x:Str} (hb:DE X e f) (hs:PlainIx e:=by exact λ _ _=>rfl) (hN:X.N[i]?=some x:=by rfl) (hv:Vis X.env.scope x:=by first |exact Or.inl rfl |exact Or.inr (Or.inl rfl) |exact Or.inr (Or.inr rfl))
  (hd:(x ==("__debug__" :Str))=false:=by decide) (hcd:(x ==("__classdict__" :Str))=false:=by decide):DE X (.Subscript (.Name x px) e pos) (wO i f):=by
 refine PE.imp (pe_ix ix_seq (pe_var hN hv hd hcd) hb hs) λ σ H Q h=>?_;obtain⟨ρ,O,j,h⟩:=h;unfold wO at h;split at h
 ·rename_i ds q;obtain⟨v,hv1,a,xs,rfl,hO,hH,rs⟩:=j.env.get i _ q;refine⟨.ref a,hv1,?_⟩;refine go j h λ d y H1 e1 s1 r1 j1 h1=>?_;cases d with
  | int k=>
   have h':good X (rD X) O (match L2.atI ds k with |some d=>R.ok d |none=>R.bad) σ H1 Q:=h1;cases e2:L2.atI ds k with
   |none=>rw[e2] at h';exact h'.elim
   | some d=>
    rw[e2] at h';obtain⟨v,e3,rv⟩:=(rs.same s1).atI e2;exact .inl ⟨a,xs,k,v,rfl,r1.int,SqL.of (s1 _ _ hH),e3,fin h' rv⟩
  |_=>exact h1.elim
 ·exact h.elim
end
section
variable {X:Cx} {pos:Pos}
def Jq (i k:Nat):ao->So:=λ ρ=>match ρ[i]?,ρ[k]? with
 |some (some (.lst ds)),some (some (.lst es))=>if ds.length < 1000000 then .nx ((ρ.set i (some (.lst (ds++[.lst es])))).set k (some (.val (.lst es)))) else .bad
 |_,_=> .bad
theorem At.give {H0:Hp} {O0 O:Addr->Prop} (j:At X H0 O0 O H ρ σ) {es:List D} {b:Addr} (hk:ρ[k]?=some (some (.lst es))) (hb:σ[k]?=some (some (.ref b))):
  At X H0 O0 (λ a=>O a/\a≠b) H (ρ.set k (some (.val (.lst es)))) σ/\c7 X.K O H (λ a=>O a/\a≠b) H:=by
 obtain⟨RL,XF⟩:=j.mine k _ b hk rfl hb;have rc:c7 X.K O H (λ a=>O a/\a≠b) H:=⟨⟨λ _ _ z=>z,λ _ _ _ z=>z⟩,λ a z=> .inl z.1,λ _ z=>z⟩;have hkl:k < ρ.length:=(z1b hk).1;obtain⟨v,hv,b',xs,e1,hO,hH,rs⟩:=j.inn.env.get k _ hk;rw[hb] at hv;cases hv;cases e1;have un:∀{m:Nat} {x:Ent},(ρ.set k (some (.val (.lst es))))[m]?=some (some x)->x.own=true->ρ[m]?=some (some x):=λ {m x} h ho=>by
  by_cases hmk:m=k
  ·subst hmk;rw[z2a hkl] at h;cases h;cases ho
  ·rw[z1e (Ne.symm hmk)] at h;exact h
 refine⟨⟨j.same,j.dg.trans rc,λ a z=>⟨j.sub a z,λ e=>XF (e▸z)⟩,⟨⟨λ m e q=>?_,λ m l e e' u hml hm hl om ol sm sl=>?_,λ m l rows a rs' e u hml hm sm ha hl ol sl=>?_⟩,λ a z=>j.inn.al a z.1,j.inn.len,by rw[List.length_set];exact j.inn.jU⟩,λ m e a q ho hs=>?_,λ m rows a rs' q hs=>?_⟩,rc⟩
 ·by_cases hmk:m=k
  ·subst hmk;rw[z2a hkl] at q;cases q;exact⟨_,hb,lD (SqL.of hH) (λ z=>z.2 rfl) (rs.go rc)⟩
  ·rw[z1e (Ne.symm hmk)] at q;obtain⟨v,q1,q2⟩:=j.inn.env.get m e q;refine⟨v,q1,?_⟩;have nb:e.own=true->v≠.ref b:=λ oe z=>by subst z;exact j.inn.env.sep m k _ _ _ hmk q hk oe rfl q1 hb
   cases e with
   |val d=>exact Rep.go rc q2
   |obj t=>exact q2
   | rws rows=>
    obtain⟨a,rs',e2,R⟩:=q2;have RM:σ[m]?=some (some (.ref a)):=by rw[<-e2];exact q1
    refine⟨a,rs',e2,R.at_,⟨R.oa,λ z=>nb rfl (by rw[e2,z])⟩,R.nd,R.len,λ n r row z1 z2=>?_⟩;obtain⟨o1,ys,z3,z4⟩:=R.row n r row z1 z2;exact⟨⟨o1,λ z=>(j.inn.env.lg m k rows a rs' _ (.ref b) hmk q RM R.at_ hk rfl hb).1 r (List.mem_of_getElem? z1) (by rw[z])⟩,ys,z3,z4.go rc⟩
   | lst ds=>
    obtain⟨a,ys,e2,o2,h2,r2⟩:=q2;exact⟨a,ys,e2,⟨o2,λ z=>nb rfl (by rw[e2,z])⟩,h2,r2.go rc⟩
   | qj kvs=>
    obtain⟨a,ys,e2,o2,h2,kk,r2⟩:=q2;exact⟨a,ys,e2,⟨o2,λ z=>nb rfl (by rw[e2,z])⟩,h2,kk,r2.go rc⟩
 ·exact j.inn.env.sep m l e e' u hml (un hm om) (un hl ol) om ol sm sl
 ·exact j.inn.env.lg m l rows a rs' e u hml (un hm rfl) sm ha (un hl ol) ol sl
 ·by_cases hmk:m=k
  ·subst hmk;rw[z2a hkl] at q;cases q;cases ho
  ·rw[z1e (Ne.symm hmk)] at q;exact j.mine m e a q ho hs
 ·exact j.rK m rows a rs' (un q rfl) hs
theorem Za (i k:Nat) {x:Str} {py apos cpos:Pos} (hik:i≠k) (hN:X.N[i]?=some x:=by rfl) (hNk:X.N[k]?=some y:=by rfl) (hv:Vis X.env.scope x:=by first |exact Or.inl rfl |exact Or.inr (Or.inl rfl) |exact Or.inr (Or.inr rfl)) (hvk:Vis X.env.scope y:=by first |exact Or.inl rfl |exact Or.inr (Or.inl rfl) |exact Or.inr (Or.inr rfl))
  (hd:(x ==("__debug__" :Str))=false:=by decide) (hcd:(x ==("__classdict__" :Str))=false:=by decide) (hdk:(y ==("__debug__" :Str))=false:=by decide) (adh:(y ==("__classdict__" :Str))=false:=by decide)
  (hbase:attributeBase (.Name x px) "append" X.env (eval (.Name x px) X.env)=eval (.Name x px) X.env:=by rfl)
  (hfew:((backTo cpos (starEach [.Name y py] X.env)).all (λ x=> !x.1) && (backToKw cpos (keywordEach [] X.env)).all (λ x=>x.1.isSome)
   && decide ([Expr.Name y py].length+([]:List Keyword).length+(if ([]:List Keyword).isEmpty then 0 else 1) < 30))=true:=by rfl)
  (hline:(apos.endLine ==cpos.line)=true:=by rfl) (hs1:starEach [.Name y py] X.env=(false,eval (.Name y py) X.env)::starEach [] X.env:=by rfl) (hplain:(backTo cpos (starEach [] X.env)).any (·.1)=false:=by rfl)
  (hs:swapsWith (.Call (.Attribute (.Name x px) "append" apos) [.Name y py] [] cpos) none pos.line X.env=pure false:=by rfl):
  DS X (.Expr (.Call (.Attribute (.Name x px) "append" apos) [.Name y py] [] cpos) pos) (Jq i k):=by
 refine PS.imp (ps_expr (pe_bm PySem.F.plainAttrs_list PySem.F.slot_list_append PySem.F.type_list_append mt_append (pe_var hN hv hd hcd) (pa_cons (pe_var hNk hvk hdk adh) pa_nil hs1) hbase hfew hline hs1 hplain) hs) λ σ H E h=>?_;obtain⟨H0,O0,O,ρ,j,h⟩:=h;unfold Jq at h;split at h
 ·rename_i ds es q1 q2;by_cases hl:ds.length < 1000000
  ·rw[if_pos hl] at h;obtain⟨v,hv1,a,xs,rfl,hO,hH,rs⟩:=j.inn.env.get i _ q1;obtain⟨v,hv2,b,ys,rfl,hO2,hH2,vG⟩:=j.inn.env.get k _ q2;have hab:a≠b:=λ z=>j.inn.env.sep i k _ _ _ hik q1 q2 rfl rfl hv1 (by rw[z];exact hv2);refine⟨.ref a,hv1,.inl ⟨rfl,xs,SqL.of hH⟩,.ref b,hv2,?_⟩;have hlen:=rs.length;refine⟨a,xs,.ref b,rfl,rfl,hH,by have:=dX;omega,?_⟩;obtain⟨j1,r1⟩:=j.give q2 hv2;have RM:(ρ.set k (some (.val (.lst es))))[i]?=some (some (.lst ds)):=by rw[z1e (Ne.symm hik)];exact q1
   obtain⟨j2,r2⟩:=j1.chg (o:= .lst (xs++[.ref b])) (en:= .lst (ds++[.lst es])) RM rfl hv1 ⟨hO,hab⟩ hH trivial rfl λ r=>⟨a,xs++[.ref b],rfl,⟨hO,hab⟩,upd_same,by
    have z1:aJ X.K (λ c=>O c/\c≠b) H (ds++[.lst es]) (xs++[.ref b]):=(rs.go r1).append (.cons (lD (SqL.of hH2) (λ z=>z.2 rfl) (vG.go r1)) .nil);exact z1.go r⟩
   rw[List.set_comm _ _ (Ne.symm hik)] at j2;exact h _ _ _ j2 (r1.trans r2)
  ·rw[if_neg hl] at h;exact h.elim
 ·exact h.elim
end
section
open PySem
theorem Qq (l b:Addr) (items:Array Value) (n:Nat) (items2:Array Value) (n2:Nat) (dd:Option Addr) (sl:Array (Option Value)) (hs0:¬(!items.isEmpty && Builtin.List.listTooLong (items.size+items2.size))=true) (hs1:items.size<=sizeLine) (hs2:items.size+items2.size<=sizeLine+1):
  Meets (Builtin.«list.__iadd__» ⟨[.ref l,.ref b],[]⟩) (λ _ R s=>s.heap.get? l=some {cls:= .type "list",dict:=none,data:= .seq items n,slots:= #[]}/\s.heap.get? b=some {cls:= .type "list",dict:=dd,data:= .seq items2 n2,slots:=sl}/\R (.ok (.ret (Value.ref l))) {s with heap:=s.heap.update l (Obj.mapSeq λ x=>x++items2),toks:=s.toks}):=
 .of_wp λ prog w A R s h=>by
  obtain⟨hp,g,d,tk,os⟩:=s;obtain⟨hl,hb,h⟩:=h;have f1:=AutoSeq1.idx_int;have f2:=AutoSeq1.sub_tuple_tuple;have f3:=AutoSeq1.sub_list_list;have f4:=AutoSeq1.sub_tuple_list;have f5:=AutoSeq1.sub_list_tuple;
  have hz':(items++items2).size<=sizeLine+1:=by rw[Array.size_append];exact hs2
  wp_walk using (wpAny_updateSeq hl rfl (hz:=hs1) (_hz':=hz')),wpAny_loadPart' hl,wpAny_loadPart' hb;exact⟨_,rfl,h⟩
end
section
variable {X:Cx} {e:Expr} {f:ao->R D} {pos:Pos}
theorem Zb:PIp X .Add (λ x y H Q=>∃a b xs ys,x= .ref a/\y= .ref b/\H a=some (.lst xs)/\SqL X.K H b ys/\xs.length+ys.length<=1000000/\Q (.ref a) (upd H a (.lst (xs++ys)))):=by
 intro pins s σ H x y v u Q I rx ry h;obtain⟨a,b,xs,ys,rfl,rfl,ha,hb,hz,q⟩:=h;cases rx;cases ry;obtain⟨its,n,r,ho,hzl⟩:=I.lst ha;obtain⟨its2,r2,p2,hz2⟩:=I.list hb;obtain⟨⟨cls2,dd2,data2,sl2⟩,ho2,hc2,n2,hd2⟩:=id p2.isList;simp only at hc2 hd2;subst hc2 hd2;have l1:=r.length;have l2:=r2.length;have hsl:=dX;have hT:s.TypeIs (.ref a) "list" :=⟨_,ho,rfl⟩;have hT2:s.TypeIs (.ref b) "list" :=⟨_,ho2,rfl⟩;unfold inplaceOp;refine wpAny_holding ?_;have hfi:fillsInplaceSlot (.type "list") "add" (Operator.Add == .Add)=pure false:=by
  unfold fillsInplaceSlot;show (typeLookup (.type "list") (dunderI "add") >>=λ fi=>pure (fi.isSome && !isSeqSlot fi))=pure false;rw[PySem.F.slot_list_iadd.lookup,pure_bind,show isSeqSlot (some (.builtin "list.__iadd__"))=true from by decide +kernel];rfl
 refine wpAny_bind (wpAny_typeOf hT (wpAny_bind (wpAny_of_eq hfi ?_)));show wpAny _ _ (if false=true then _ else _) _ _ s;rw[if_neg Bool.false_ne_true];refine wpAny_bind (binaryOp1_none (nm:= "add") hT hT2 PySem.noFill_list_add ?_);refine wpAny_bind (wpAny_of_eq (PySem.seqSlot_of (T:= "list") (name:=dunderI "add") (id:= "list.__iadd__") PySem.F.slot_list_iadd.lookup (by decide +kernel)) ?_);refine wpAny_bind (wpAny_rule ?_);refine call_meets PySem.F.slot_list_iadd hT PySem.F.entry_list_iadd (PySem.F.args_list_iadd_2 _ _) (Qq a b its.toArray n its2.toArray n2 dd2 sl2 ?_ (by rw[z1c];omega) (by rw[z1c,z1c];omega)) ⟨ho,ho2,?_⟩
 ·rw[z1c,z1c];have:Builtin.List.listTooLong (its.length+its2.length)=false:=by unfold Builtin.List.listTooLong;exact decide_eq_false (by omega)
  rw[this];simp
 ·refine⟨.ref a,upd H a (.lst (xs++ys)),I.lset (its':=its++its2) ha ho (by simp) (r.append r2) (by rw[z1d];omega),rfl,q⟩
def zV (i:Nat) (f:ao->R D):ao->So:=λ ρ=>match ρ[i]? with
 | some (some (.lst ds))=>fQ (wz (f ρ)) ρ λ d=>match d with
  | .lst es=>if ds.length+es.length<=1000000 then .nx (ρ.set i (some (.lst (ds++es)))) else .bad
  |_=> .bad
 |_=> .bad
theorem N6 (i:Nat) {x:Str} {pos':Pos} (hN:X.N.Nodup) (he:DE X e f) (hi:X.N[i]?=some x:=by rfl) (hx:Loc X.env.scope x:=by first |exact Or.inl rfl |exact Or.inr rfl)
  (hf:X.fn x=true\/X.env.scope.names.lookup x=some .local:=by first |exact .inl rfl |exact .inr rfl):DS X (.AugAssign (.Name x pos') .Add e pos) (zV i f):=by
 refine PS.imp (ps_aug hN hi hx he Zb hf) λ σ H E h=>?_;obtain⟨H0,O0,O,ρ,j,h⟩:=h;unfold zV at h;split at h
 ·rename_i ds q;obtain⟨v,hv1,a,xs,rfl,hO,hH,rs⟩:=j.inn.env.get i _ q;refine⟨.ref a,hv1,ρ,O,j.inn,?_⟩;unfold fQ at h;cases e1:f ρ with
  |bad=>rw[e1] at h;exact h.elim
  |err c=>rw[e1] at h;exact h.elim
  | ok d =>
   rw[e1] at h;intro w H1 s1 rw1;cases d with
   | lst es=>
    have h:qD X H0 O0 O H E (if ds.length+es.length<=1000000 then .nx (ρ.set i (some (.lst (ds++es)))) else .bad):=h;by_cases hl:ds.length+es.length<=1000000
    ·rw[if_pos hl] at h;have j1:=j.grow s1;obtain⟨b,ys,rfl,hb,hnb,vG⟩:=rw1.lst;have rs1:=rs.same s1;have hH1:=s1 _ _ hH;refine⟨a,b,xs,ys,rfl,rfl,hH1,hb,by rw[<-rs1.length,<-vG.length];exact hl,?_⟩;obtain⟨j2,r2⟩:=j1.chg (o:= .lst (xs++ys)) (en:= .lst (ds++es)) q rfl hv1 hO hH1 trivial rfl λ r=>⟨a,xs++ys,rfl,hO,upd_same,(rs1.append vG).go r⟩;have eσ:σ.set i (some (V.ref a))=σ:=by
      apply List.ext_getElem?;intro m;by_cases hm:m=i
      ·subst hm;rw[z2a (z1b hv1).1,hv1]
      ·rw[z1e (Ne.symm hm)]
     rw[eσ];exact h _ _ _ j2 ((Same.dg s1).trans r2)
    ·rw[if_neg hl] at h;exact h.elim
   |_=>exact h.elim
 ·exact h.elim
end
def Its (lo:Int) (n:Nat) (c:Int):It:=⟨λ i _=>i < n,λ i H x H'=>H'=H/\x= .int (lo+i*c),λ i _=>n<=i⟩
theorem Tf (it:Addr) (lo:Int) (n:Nat) (c:Int):Turn P w K tg (Its lo n c) [it] it (λ i h=>IsRangeIter h it (lo+(i:Nat)*c) ((n:Int) - (i:Nat)) c) where
 mem:=by simp
 obj :=λ i h st b hb=>by
  have e:b=it:=by simpa using hb
  subst e;exact⟨_,st,λ v z=>by
   have z':Data.fields _=Data.cell v:=z;cases z'⟩
 keep:=λ i h h' st k=>k it (by simp) _ st
 item:=by
  intro X hP hw hK hc i pins s σ H E I hf st hg;subst hP hw hK;obtain⟨f0,f1,f2,f3,f4,f5⟩:=hf it (by simp);have W:=Walks.range (prog:=X.prog) (w:=X.w) (I.ok.hd hc) it lo c n;refine W.item i s _ _ hg st λ v h' tk hv st' kk=>?_;obtain⟨t,rfl⟩:=hv;have I1:Inv X pins σ H {s with heap:=h',toks:=tk}:=I.turned (λ b o hb e=>kk b o (by simpa using hb) e) f0 f1 f3 f4 f5;exact⟨_,rfl,go_of (s:={s with heap:=h',toks:=tk}) (n:= "range_iterator") st' rfl rfl (by decide) ⟨.int (lo+i*c),H,I1,⟨t,rfl⟩,⟨rfl,rfl⟩,st',λ b hb=>(hf b hb).1⟩⟩
 done:=by
  intro X hP hw hK hc i pins s σ H E I hf st hg;subst hP hw hK;obtain⟨f0,f1,f2,f3,f4,f5⟩:=hf it (by simp);exact wpAny_pyNext_range_end (I.ok.hd hc) st (by have:n<=i:=hg;omega) λ h' eb=>⟨rfl,I.turned (t':=s.toks) (λ b o hb e=>eb b o hb e) f0 f1 f3 f4 f5⟩
 self:=λ _ _ _ _ _ st h=>wpAny_pyIter_rangeiter st h
def wR (hi:Int) (n:Nat):List D:=(List.range n).map λ (i:Nat)=>D.int (hi - (i:Int))
theorem YR.step {O:Addr->Prop} (hi:Int) (n:Nat):YR K O H (Its hi n (-1)) (wR hi n):=by
 intro O' H' _;intro i;refine⟨λ d e=>?_,λ e=>?_⟩
 ·unfold wR at e;rw[z2b] at e;cases q:(List.range n)[i]? with
  |none=>rw[q] at e;cases e
  | some k=>
   rw[q] at e;have hk:i < n/\i=k:=by simpa[List.getElem?_range] using (z1b q)
   obtain⟨h1,rfl⟩:=hk;cases e;refine⟨h1,λ x H2 y=>?_⟩;obtain⟨rfl,rfl⟩:=y;exact⟨Same.refl _,by rw[show hi+(i:Int)*(-1)=hi - (i:Int) by omega];exact bY _⟩
 ·show n<=i;unfold wR at e;simpa using e
section
variable {X:Cx} {tg a b c:Expr} {p pos p2 pos2:Pos} {fa:ao->R (List D)} {ta:TA}
def adA:List D->R (List D)
 |[.int i,.int j,.int k]=>if k= -1/\-(2 ^ 62)<=i/\i < 2 ^ 62/\-(2 ^ 62)<=j/\j < 2 ^ 62 then .ok (wR i (i - j).toNat) else .bad
 |_=> .bad
end
section
variable {prog:Program} {w:World} {A:Around} {E:Value->Shared->Prop} {s:Shared}
theorem Bs (r:Addr) (j:Int) (t u v:Tok) (h0:0<=j) (h1:j<=1000):Meets (Builtin.«range.__reversed__» ⟨[.ref r],[]⟩) (λ _ R s=>IsRange s.heap r 0 j 1 t u v/\R (.ok (.ret (.ref s.heap.objs.size))) {s with heap:=s.heap.push {cls:= .type "range_iterator",data:= .fields #[rawInt (j - 1),rawInt j,rawInt (-1)]}}):=
 .of_wp λ prog w A R s h=>by
  obtain⟨hp,g,d,tk,os⟩:=s;obtain⟨hr,h⟩:=h;have e1:Builtin.Range.rangeSize 0 j 1=j:=by rw[rangeSize_one];split <;> omega
  have e2:(Builtin.Range.rangeFitsLong 0 && Builtin.Range.rangeFitsLong j && Builtin.Range.rangeFitsLong 1 && Builtin.Range.rangeFitsLong (-1) && Builtin.Range.rangeFitsLong (0 - 1) && Builtin.Range.rangeFitsLong j)=true:=by
   simp only[Builtin.Range.rangeFitsLong,Bool.and_eq_true,decide_eq_true_eq];omega
  have e3:(0:Int)+(j - 1)*1=j - 1:=by omega
  unfold Builtin.«range.__reversed__» Builtin.Range.rangeFields
  wp_walk using wpAny_loadPart' hr
  rw[e1];simp only[e2,e3,Bool.not_true,Bool.false_eq_true,if_false,if_true];unfold newFields;refine wpAny_bind (wpAny_newObj_type (wpAny_pure ⟨_,rfl,h⟩) (by size_fits))
theorem Bt:isSubtype (.type "range_iterator") (.type "reversed")=pure false:=by rw[isSubtype_type];kernel_rfl
theorem Ds {r:Addr} {j:Int} {t u v:Tok} {Q₁:Value->Shared->Prop} (h0:0<=j) (h1:j<=1000) (hr:IsRange s.heap r 0 j 1 t u v)
  (h:Q₁ (.ref s.heap.objs.size) {s with heap:=s.heap.push {cls:= .type "range_iterator",data:= .fields #[rawInt (j - 1),rawInt j,rawInt (-1)]}}):
  codeAny (model prog w) A (.call (.builtin "reversed.__new__") ⟨[.type "reversed",.ref r],[]⟩) (wants Q₁ E) s:=by
 have hT:s.TypeIs (.ref r) "range" :=⟨_,hr,rfl⟩;refine codeAny_of_tree ?_;show wpAny _ A.in1 (do checkBuiltinCall "reversed.__new__" ⟨[.type "reversed",.ref r],[]⟩;again (.builtin "reversed.__new__" ⟨[.type "reversed",.ref r],[]⟩)) _ _ s;refine wpAny_bind (wpAny_of_eq (PySem.F.newCall_reversed_1 _) (wpAny_pure ⟨plainId_quiet PySem.F.plain_reversed_new _,codeAny_builtin PySem.F.entry_reversed_new ?_⟩));rw[Around.under_plainId PySem.F.plain_reversed_new _];unfold Builtin.«reversed.__new__»;refine wpAny_bind (wpAny_of_eq (newClass_reversed _) ?_)
 try dsimp only
 refine wpAny_bind (wpAny_of_eq (a:=()) (by first |rfl |kernel_rfl) ?_);refine wpAny_bind (wpAny_of_eq (a:=()) (by first |rfl |kernel_rfl) ?_)
 try dsimp only
 refine wpAny_bind (wpAny_specialOf hT PySem.F.slot_range_reversed.lookup ?_)
 try dsimp only
 refine wpAny_bind (wpAny_of_eq (PySem.F.slot_range_reversed.bind _) ?_)
 try dsimp only
 first
 |rw [if_neg (show ¬((Value.builtin "range.__reversed__" ==Value.none)=true) from Bool.false_ne_true)]
 |(show wpAny _ _ (if (Value.builtin "range.__reversed__" ==Value.none)=true then _ else _) _ _ _;rw[if_neg (show ¬((Value.builtin "range.__reversed__" ==Value.none)=true) from Bool.false_ne_true)])
 refine wpAny_bind (wpAny_rule ?_);refine wpAny_bind (m:=runValue (.call (.builtin "range.__reversed__") ⟨[.ref r],[]⟩)) (show wpAny _ _ (call (.builtin "range.__reversed__") [.ref r]) _ _ _ from call_meets PySem.F.slot_range_reversed hT PySem.F.entry_range_reversed (PySem.F.args_range_reversed_1 _) (Bs r j t u v h0 h1) ⟨hr,?_⟩)
 first
 |exact wpAny_pure h
 |exact wpAny_bind (wpAny_pure (wpAny_pure h))
theorem Dt {r:Addr} {j:Int} {t u v:Tok} (h0:0<=j) (h1:j<=1000) (hr:IsRange s.heap r 0 j 1 t u v)
  (h:Q (.ref s.heap.objs.size) {s with heap:=s.heap.push {cls:= .type "range_iterator",data:= .fields #[rawInt (j - 1),rawInt j,rawInt (-1)]}}):wpAny (model prog w) A (call (.type "reversed") [.ref r]) Q E s:=by
 refine callType_other (U:= "range_iterator") (Q₁:=λ obj s₁=>obj= .ref s.heap.objs.size/\s₁={s with heap:=s.heap.push {cls:= .type "range_iterator",data:= .fields #[rawInt (j - 1),rawInt j,rawInt (-1)]}}) (by decide +kernel) PySem.F.create_reversed ⟨_,_,PySem.F.mro_reversed⟩ PySem.F.made_reversed Bt (PySem.F.typeCall_reversed_1 _) (Ds h0 h1 hr ⟨rfl,rfl⟩) ?_
 rintro obj s₁ ⟨rfl,rfl⟩
 exact⟨⟨_,z1f _ rfl,rfl⟩,h⟩
end
section
variable {X:Cx} {tg a:Expr} {p pos p2 pos2:Pos} {fa:ao->R (List D)}
def Jr:List D->R (List D)
 |[.int j]=>if 0<=j/\j<=1000 then .ok (wR (j - 1) j.toNat) else .bad
 |_=> .bad
theorem Zc (hg:Gl X "reversed") (hm:X.mg "reversed" =none) (hg2:Gl X "range") (hm2:X.mg "range" =none) (ha:DA X [a] fa) (hs:starEach [a] X.env=[(false,eval a X.env)]:=by rfl)
  (he:starEach [.Call (.Name "range" p2) [a] [] pos2] X.env=(false,eval (.Call (.Name "range" p2) [a] [] pos2) X.env)::starEach [] X.env:=by rfl) (hpl:(backTo pos (starEach [] X.env)).any (·.1)=false:=by rfl):
  DI X tg (.Call (.Name "reversed" p) [.Call (.Name "range" p2) [a] [] pos2] [] pos) (λ ρ=>(fa ρ).bind Jr):=by
 intro pins s σ H R I h;have A:=pa_cons (Jk (p:=p2) (pos:=pos2) hg2 hm2 ha hs) pa_nil he;obtain⟨ρ,O,jn,h⟩:=h;have key:tCons (aaT X.K (tG X (M9 X) fa)) tNil σ H (λ vs H1=>∃q j,vs=[.ref q]/\H1 q=some (.rng 0 j)/\0<=j/\j<=1000/\R (Its (j - 1) j.toNat (-1)) H1):=by
  refine go jn h λ ds vs H1 e1 s1 r1 j1 h1=>?_;unfold Jr at h1;split at h1
  ·rename_i j;by_cases hh:0<=j/\j<=1000
   ·rw[if_pos hh] at h1;obtain⟨v,rfl,w⟩:=r1.one;exact⟨j,by rw[w.int],hh.1,hh.2,λ q hq=>⟨q,j,rfl,upd_same,hh.1,hh.2,h1 _ _ (Same.upd hq) (YR.step _ _)⟩⟩
   ·rw[if_neg hh] at h1;exact h1.elim
  ·exact h1.elim
 refine Call_ (ld_blt I hg hm boot_reversed (PyProof.Rows.callWith_type1 (thn (A pos pins s σ H _ I key) λ us s1 ⟨vs,H1,I1,r1,q1⟩=>?_) he hpl));obtain⟨q,j,e,hq,h0,h1,q⟩:=q1;subst e;cases r1 with
 | cons r rr=>
  cases rr;cases r;obtain⟨t,u,v,hr⟩:=I1.hok _ _ hq;refine Dt h0 h1 hr ?_;have hit:IsRangeIter (s1.heap.push {cls:= .type "range_iterator",data:= .fields #[rawInt (j - 1),rawInt j,rawInt (-1)]}) s1.heap.objs.size (j - 1) j (-1):=z1f _ rfl;refine wpAny_pyIter_rangeiter (s:={s1 with heap:=s1.heap.push {cls:= .type "range_iterator",data:= .fields #[rawInt (j - 1),rawInt j,rawInt (-1)]}}) hit ?_;refine⟨s1.heap.objs.size,[s1.heap.objs.size],_,_,H1,rfl,I1.kept (t':=s1.toks) λ b o e=>z1a _ e,Tf _ (j - 1) j.toNat (-1),?_,λ b hb=>?_,q⟩
  ·show IsRangeIter _ _ (j - 1+((0:Nat):Int)*(-1)) (((j.toNat:Nat):Int) - ((0:Nat):Int)) (-1);rw[show j - 1+((0:Nat):Int)*(-1)=j - 1 by simp,show ((j.toNat:Nat):Int) - ((0:Nat):Int)=j by omega];exact hit
  ·have e:b=s1.heap.objs.size:=by simpa using hb
   subst e;exact I1.fpOk (z0g _) (I1.hok.fresh (z0g _))
end
end Pu
namespace Pu
open PySem PySem.Spec PySem.W L2
open PyProof.Rows hiding St
variable {a:Addr} {ts:List (List Int)} {ns:List Int}
def eY:List Int->List Int->Bool
 |[],[]=>false
 |[],_::_=>true
 |_::_,[]=>false
 |x::xs,y::ys=>if x=y then eY xs ys else decide (x < y)
theorem qd:∀a:List Int,eY a a=false
 |[]=>rfl
 |x::xs=>by rw[eY,if_pos rfl];exact qd xs
theorem lG:∀{a b c:List Int},eY a b=true->eY b c=true->eY a c=true
 |[],[],_,h,_=>by cases h
 |[],_::_,[],_,h=>by cases h
 |[],_::_,_::_,_,_=>rfl
 |_::_,[],_,h,_=>by cases h
 |_::_,_::_,[],_,h=>by cases h
 | x ::a,y::b,z::c,h1,h2=>by
  rw[eY] at h1 h2 |-;by_cases e1:x=y
  ·rw[if_pos e1] at h1;subst e1;by_cases e2:x=z
   ·rw[if_pos e2] at h2 |-;exact lG h1 h2
   ·rw[if_neg e2] at h2 |-;exact h2
  ·rw[if_neg e1] at h1;have h1:x < y:=of_decide_eq_true h1;by_cases e2:y=z
   ·subst e2;rw[if_neg e1];exact decide_eq_true h1
   ·rw[if_neg e2] at h2;have h2:y < z:=of_decide_eq_true h2;rw[if_neg (by omega)];exact decide_eq_true (by omega)
theorem yJ:∀{a b:List Int},a≠b->eY a b=false->eY b a=true
 |[],[],h,_=>absurd rfl h
 |[],_::_,_,h=>by cases h
 |_::_,[],_,_=>rfl
 | x ::a,y::b,h,e=>by
  rw[eY] at e |-;by_cases e1:x=y
  ·subst e1;rw[if_pos rfl] at e |-;exact yJ (λ z=>h (by rw[z])) e
  ·rw[if_neg e1] at e;rw[if_neg (λ z=>e1 z.symm)];have e:¬x < y:=of_decide_eq_false e;exact decide_eq_true (by omega)
section
variable {prog:Program} {w:World} {A:Around} {E:Value->Shared->Prop} {s:Shared}
theorem LK {b:Addr} {oa ob:Obj} {xs ys:Array Value} {na nb:Nat} {ms:List Int} {P:PySem.Fin->Shared->Prop} (hoa:s.heap.get? a=some oa) (hda:oa.data= .seq xs na) (hob:s.heap.get? b=some ob) (hcb:ob.cls= .type "tuple") (hdb:ob.data= .seq ys nb)
  (hia:IntsAre xs.toList ns) (hib:IntsAre ys.toList ms) (h:P (.done (.ret (.bool (eY ns ms)))) s):
  wpAny (model prog w) A (Builtin.«tuple.__lt__» ⟨[.ref a,.ref b],[]⟩) P E s:=by
 have hTb:s.TypeIs (.ref b) "tuple" :=⟨ob,hob,hcb⟩;show wpAny _ _ (isInstance (.ref b) (.type "tuple") >>=_) _ _ s;refine wpAny_bind (wpAny_isInstance hTb isSubtype_tuple_tuple ?_);simp only[Bool.not_true,Bool.false_eq_true,if_false];refine wpAny_bind (wpAny_tupleItemsOf hoa hda ?_);refine wpAny_bind (wpAny_tupleItemsOf hob hdb ?_);refine wpAny_bind ?_;refine wpAny_forIn_list _
  (λ rest r s'=>r.1=none/\s'=s/\∃xs' ys' ns' ms',rest=List.zip xs' ys'/\IntsAre xs' ns'/\IntsAre ys' ms'/\eY ns' ms'=eY ns ms/\decide (xs'.length < ys'.length)=decide (xs.size < ys.size))
  _ ?_ ?_ _ _ ⟨rfl,rfl,xs.toList,ys.toList,ns,ms,rfl,hia,hib,rfl,by simp⟩
 ·rintro ⟨u,v⟩ rest r s' ⟨hr,rfl,xs',ys',ns',ms',hz,hx',hy',hdec,hlen⟩
  cases hx' with
  |nil=>simp at hz
  | cons k1 t1 hx''=>
   cases hy' with
   |nil=>simp at hz
   | cons k2 t2 hy''=>
    simp only[List.zip_cons_cons,List.cons.injEq,Prod.mk.injEq] at hz;obtain⟨⟨rfl,rfl⟩,rfl⟩:=hz;refine wpAny_bind (wpAny_eqBool_int ?_);rw[eY] at hdec;by_cases hk:k1=k2
    ·subst hk;rw[if_pos rfl] at hdec;simp only[beq_self_eq_true,Bool.not_true,Bool.false_eq_true,if_false];exact wpAny_pure ⟨rfl,rfl,_,_,_,_,rfl,hx'',hy'',hdec,by simpa using hlen⟩
    ·rw[if_neg hk] at hdec;have e:(k1 ==k2)=false:=by simpa using hk
     rw[e];simp only[Bool.not_false,if_true];rw[<-hdec] at h;refine wpAny_bind (wpAny_rule ?_);refine wpAny_bind (m:=richCompare .Lt (.int k1 t1) (.int k2 t2)) (show wpAny _ _ (compareOp .Lt (.int k1 t1) (.int k2 t2)) _ _ _ from lt_int ?_)
     first
      |exact wpAny_pure (wpAny_pure h)
      |exact wpAny_bind (wpAny_pure (wpAny_pure (wpAny_pure h)))
      |exact wpAny_bind (wpAny_pure (wpAny_pure h))
 ·rintro⟨r1,r2⟩ s' ⟨hr,rfl,xs',ys',ns',ms',hz,hx',hy',hdec,hlen⟩
  simp only at hr;subst hr;refine wpAny_pure ?_;have hfin:decide (xs.size < ys.size)=eY ns ms:=by
   rw[<-hdec,<-hlen];cases hx' with
   | nil=>
    cases hy' with
    |nil=>rfl
    |cons _ _ _=>simp[eY]
   | cons _ _ _=>
    cases hy' with
    |nil=>simp[eY]
    |cons _ _ _=>simp at hz
  show P (.done (.ret (.bool (decide (xs.size < ys.size))))) s';rw[hfin];exact h
theorem Zd {b:Addr} {oa ob:Obj} {xs ys:Array Value} {na nb:Nat} {ms:List Int} {Q:Value->Shared->Prop} (hu:A.units < cLine) (hoa:s.heap.get? a=some oa) (hca:oa.cls= .type "tuple") (hda:oa.data= .seq xs na) (hob:s.heap.get? b=some ob) (hcb:ob.cls= .type "tuple") (hdb:ob.data= .seq ys nb)
  (hia:IntsAre xs.toList ns) (hib:IntsAre ys.toList ms) (h:Q (.bool (eY ns ms)) s):wpAny (model prog w) A (compareOp .Lt (.ref a) (.ref b)) Q E s:=by
 show wpAny _ _ (richCompare .Lt (.ref a) (.ref b)) _ _ _;exact wpAny_richCompare_same_room (op:= .Lt) ⟨oa,hoa,hca⟩ ⟨ob,hob,hcb⟩ PySem.F.slot_tuple_lt
   (wpAny_call_entry PySem.F.slot_tuple_lt ⟨oa,hoa,hca⟩ PySem.F.entry_tuple_lt (LK hoa hda hob hcb hdb hia hib ⟨_,rfl,(λ e=>nomatch e),h⟩) (PySem.F.args_tuple_lt_2 _ _)) hu
end
section
variable {X:Cx}
end
def zW (p:List Int):List (List Int)->List (List Int)
 |[]=>[p]
 |q::r=>if eY p q then p::q::r else q::zW p r
def jG:List (List Int)->List (List Int)
 |[]=>[]
 |p::r=>zW p (jG r)
theorem wU (p:List Int):∀l,(zW p l).Perm (p::l)
 |[]=> .refl _
 | q::r=>by
  unfold zW;split
  ·exact .refl _
  ·exact ((wU p r).cons q).trans (List.Perm.swap p q r)
theorem iK:∀l,(jG l).Perm l
 |[]=> .refl _
 |p::r=>(wU p _).trans ((iK r).cons p)
abbrev Bu (l:List (List Int)):Prop:=l.Pairwise λ a b=>eY a b=true
theorem Gb (p:List Int):∀{l:List (List Int)},Bu l->p∉l->Bu (zW p l)
 |[],_,_=>by unfold zW;simp
 | q ::r,h,hn=>by
  obtain⟨h1,h2⟩:=List.pairwise_cons.mp h;unfold zW;by_cases e:eY p q=true
  ·rw[if_pos e];refine List.pairwise_cons.mpr ⟨λ z hz=>?_,h⟩;rcases List.mem_cons.mp hz with z1 |z1
   ·rw[z1];exact e
   ·exact lG e (h1 z z1)
  ·rw[if_neg e];have e2:eY q p=true:=yJ (λ z=>hn (by rw[z];exact List.mem_cons_self)) (by simpa using e);refine List.pairwise_cons.mpr ⟨λ z hz=>?_,Gb p h2 λ z=>hn (z2f _ z)⟩;rcases List.mem_cons.mp ((wU p r).mem_iff.mp hz) with z1 |z1
   ·rw[z1];exact e2
   ·exact h1 z z1
theorem wV:∀{l:List (List Int)},l.Nodup->Bu (jG l)
 |[],_=> .nil
 | p::r,h=>by
  obtain⟨h1,h2⟩:=List.nodup_cons.mp h;exact Gb p (wV h2) λ z=>h1 ((iK r).mem_iff.mp z)
theorem Bv:∀{a b:List (List Int)},a.Perm b->Bu a->Bu b->a=b
 |[],b,p,_,_=>(List.nil_perm.mp p).symm
 |x::a,[],p,_,_=>absurd (List.perm_nil.mp p) (by simp)
 | x :: a,y::b,p,ha,hb=>by
  have ha':=List.pairwise_cons.mp ha;have hb':=List.pairwise_cons.mp hb;have h1:x=y:=by
   rcases List.mem_cons.mp (p.mem_iff.mp (List.mem_cons_self (a:=x) (l:=a))) with h |h
   ·exact h
   ·rcases List.mem_cons.mp (p.mem_iff.mpr (List.mem_cons_self (a:=y) (l:=b))) with k |k
    ·exact k.symm
    ·have:=lG (ha'.1 y k) (hb'.1 x h);rw[qd] at this;cases this
  subst h1;rw[Bv ((List.perm_cons x).mp p) ha'.2 hb'.2]
theorem Qs (hn:ts.Nodup) {a b:Nat} (ha:a < ts.length) (hb:b < ts.length) (hab:a≠b):ts.getD a []≠ts.getD b []:=by
 simp only[List.getD,List.getElem?_eq_getElem ha,List.getElem?_eq_getElem hb,Option.getD_some];intro z;exact hab ((List.getElem_inj hn).mp z)
theorem Ze (hn:ts.Nodup):Ord ts.length (λ i j=>eY (ts.getD i []) (ts.getD j [])):=
 ⟨λ a b c _ _ _ h1 h2=>lG h1 h2,λ a b ha hb hab h=>yJ (Qs hn ha hb hab) h⟩
theorem Js (hn:ts.Nodup) {q:Array Nat} (h:Pm ts.length q) (hs:S (λ i j=>eY (ts.getD i []) (ts.getD j [])) q ts.length):q.toList.map (λ i=>ts.getD i [])=jG ts:=by
 refine Bv ?_ ?_ (wV hn)
 ·have e:(List.range ts.length).map (λ i=>ts.getD i [])=ts:=by
   apply List.ext_getElem?;intro i;by_cases hi:i < ts.length
   ·simp[hi]
   ·simp[hi]
  have:=h.perm.map λ i=>ts.getD i [];rw[e] at this;exact this.trans (iK ts).symm
 ·refine List.pairwise_iff_getElem.mpr λ i j hi hj hij=>?_;have hl:(q.toList.map λ i=>ts.getD i []).length=ts.length:=by simp[h.size]
  have:=hs i j hij (by rw[<-hl];exact hj);have e:∀(k:Nat) (hk:k < (q.toList.map λ i=>ts.getD i []).length),(q.toList.map λ i=>ts.getD i [])[k]=ts.getD (q.getD k 0) []:=λ k hk=>by
   have hk':k < q.size:=by simpa using hk
   simp[Array.getD,hk']
  rw[e i hi,e j hj];exact this
section
variable {prog:Program} {w:World} {A:Around} {E:Value->Shared->Prop} {s:Shared}
inductive mj (h:Heap) (a:Addr) (l c:Int) (ps:List Int):Prop
 |mk (o o2:Obj) (n n2:Nat) (t u:Tok) (p:Addr) (vs:Array Value) (h1:h.get? a=some o) (h2:o.cls= .type "tuple") (h3:o.data= .seq #[.int l t,.int c u,.ref p] n) (h4:h.get? p=some o2) (h5:o2.cls= .type "tuple") (h6:o2.data= .seq vs n2) (h7:IntsAre vs.toList ps):mj h a l c ps
theorem mj.keeps {h h':Heap} {l c:Int} {ps:List Int} (x:mj h a l c ps) (k:∀b o,h.get? b=some o->o.cls= .type "tuple"->h'.get? b=some o):mj h' a l c ps:=
 by
 obtain⟨o,o2,n,n2,t,u,p,vs,h1,h2,h3,h4,h5,h6,h7⟩:=x;exact⟨o,o2,n,n2,t,u,p,vs,k _ _ h1 h2,h2,h3,k _ _ h4 h5,h5,h6,h7⟩
theorem zX {prog:Program} {w:World}:∀{vs:List Value} {ns:List Int},IntsAre vs ns->ItemsAre (intKind prog w) ns vs
 |_,_,.nil=> .nil
 |_,_,.cons n t h=> .cons (intKind_is _ _ _ _) (zX h)
theorem Zf {x y:Addr} {l c l' c':Int} {ps qs:List Int} {Q:Bool->Shared->Prop} (hu:A.units < cLine) (hx:mj s.heap x l c ps) (hy:mj s.heap y l' c' qs) (h:Q (eY (l::c::ps) (l'::c'::qs)) s):
  wpAny (model prog w) A (keyLt' (tuples' true) (.ref x) (.ref y)) Q E s:=by
 obtain⟨o,o2,n,n2,t,u,p,vs,h1,h2,h3,h4,h5,h6,h7⟩:=hx;obtain⟨o',o2',n',n2',t',u',p',vs',g1,g2,g3,g4,g5,g6,g7⟩:=hy;refine kat_lt h1 h3 g1 g3 ?_;show KatLex prog w A true (decide (3 < 3)) Q [(.int l t,.int l' t'),(.int c u,.int c' u'),(.ref p,.ref p')] 0 s;rw[eY,eY] at h;refine kat_cons (SeqAt.EqAt.int_int l t l' t' prog w _ _ ?_);by_cases e1:l=l'
 ·rw [if_pos e1] at h;rw[show (l ==l')=true by simpa using e1];refine kat_yes (kat_cons (SeqAt.EqAt.int_int c u c' u' prog w _ _ ?_));by_cases e2:c=c'
  ·rw[if_pos e2] at h;rw[show (c ==c')=true by simpa using e2];refine kat_yes (kat_cons (wpAny_eqBool_tuple (knd:=intKind prog w) hu ⟨o2,vs,n2,h4,h5,h6,zX h7⟩ ⟨o2',vs',n2',g4,g5,g6,zX g7⟩ ?_));by_cases e3:ps=qs
   ·rw[e3,qd] at h;rw[decide_eq_true e3];exact kat_yes (kat_nil (by simpa using h))
   ·rw[decide_eq_false e3];refine kat_no ?_;show wpAny (model prog w) A (oneLt' false _ _) Q _ s;exact kat_one _ _ (Zd hu h4 h5 h6 g4 g5 g6 h7 g7 h)
  ·rw[if_neg e2] at h;rw[show (c ==c')=false by simpa using e2];refine kat_no ?_;show wpAny (model prog w) A (oneLt' false _ _) Q _ s;exact kat_one _ _ (lt_int h)
 ·rw[if_neg e1] at h;rw[show (l ==l')=false by simpa using e1];refine kat_no ?_;show wpAny (model prog w) A (keyLt' oneType' (.int l t) (.int l' t')) Q _ s;exact kat_lt_int h
end
theorem Jt {h:Heap}:∀(as:List Addr),(∀a∈as,∃l c ps,mj h a l c ps)->∃fs,KatTups h (as.map Value.ref) fs/\fs.length=as.length/\∀f∈fs,∃k t,f=Value.int k t
 |[],_=>⟨[],.nil,rfl,λ f hf=>by simp at hf⟩
 | a::as,hx=>by
  obtain⟨l,c,ps,o,o2,n,n2,t,u,p,vs,h1,h2,h3,_⟩:=hx a List.mem_cons_self;obtain⟨fs,k1,k2,k3⟩:=Jt as λ b hb=>hx b (z2f _ hb);refine⟨.int l t::fs,KatTups.cons h1 h2 h3 rfl k1,by simp[k2],λ f hf=>?_⟩;rcases List.mem_cons.mp hf with z |z
  ·exact⟨l,t,z⟩
  ·exact k3 f z
section
variable {X:Cx}
def Ii (K:PySem.W.Frag) (H:Hp) (a:Addr) (ns:List Int):Prop:=∃l c ps p,ns=l::c::ps/\SqT K H a [.int l,.int c,.ref p]/\SqT K H p (ps.map V.int)
theorem Zg {pins:List (Addr×Obj)} {σ:St} {H:Hp} {s:Shared} (I:Inv X pins σ H s) (h:Ii X.K H a ns):∃l c ps,ns=l::c::ps/\mj s.heap a l c ps:=by
 obtain⟨l,c,ps,p,rfl,h1,h2⟩:=h;obtain⟨its,r1,⟨o,ho,hc,n,hd⟩,_⟩:=I.tuple h1;obtain⟨its2,r2,⟨o2,ho2,hc2,n2,hd2⟩,_⟩:=I.tuple h2;refine⟨l,c,ps,rfl,?_⟩;cases r1 with
 | cons a1 r1=>
  cases r1 with
  | cons a2 r1=>
   cases r1 with
   | cons a3 r1=>
    cases r1;obtain⟨t,rfl⟩:=a1;obtain⟨u,rfl⟩:=a2;cases a3;exact⟨o,o2,n,n2,t,u,p,its2.toArray,ho,hc,hd,ho2,hc2,hd2,by simpa using Dn r2⟩
theorem Qt (hu:X.A.units+2 < cLine):CallR X (.builtin "sorted") (λ xs H Q=>∃(a:Addr) (as:List Addr) (ts:List (List Int)),xs=[.ref a]/\SqL X.K H a (as.map V.ref)/\as.length=ts.length/\ts.length < 64/\ts.Nodup/\(∀(i:Nat) b t,as[i]?=some b->ts[i]?=some t->Ii X.K H b t)/\
  ∀(B:Addr) (bs:List Addr),H B=none->bs.length=ts.length->(∀(i:Nat) b t,bs[i]?=some b->(jG ts)[i]?=some t->b∈as/\∃j:Nat,as[j]?=some b/\ts[j]?=some t)->Q (.ref B) (upd H B (.lst (bs.map V.ref)))):=by
 intro pins s σ H xs us Q I r h;obtain⟨a,as,ts,rfl,hq,hl,h64,hn,ht,q⟩:=h;obtain⟨u,rfl,rx⟩:=vals1 r;cases rx;obtain⟨its,rv,pl,hz⟩:=I.list hq;have hits:its=as.map Value.ref:=by
  have:∀(as:List Addr) (its:List Value),Vals (as.map V.ref) its->its=as.map Value.ref:=by
   intro as
   induction as with
   |nil=>intro its r;cases r;rfl
   |cons b as ih=>intro its r;cases r with |cons r1 r2=>cases r1;rw[ih _ r2];rfl
  exact this as its rv
 subst hits;have lenV:(as.map Value.ref).length=ts.length:=by rw[z1g,hl]
 refine Calls.call_function_entry kind_sorted plain_sorted entry_sorted (args_sorted1 _) ?_;unfold Builtin.«sorted»;refine wpAny_bind (m:=checkCount "sorted" 1 1 _) (wpAny_pure ?_);refine wpAny_bind (collect_list pl.isList ?_);refine wpAny_bind (wpAny_newList ?_ (by rw[lenV,sizeLine_eq];omega));have hsz:((s.heap.push (seqObj "list" #[] 0)).update s.heap.objs.size (Obj.mapSeq (· ++(as.map Value.ref).toArray))).objs.size=s.heap.objs.size+1:=by
  rw[Heap.size_update,size_push']
 have hB:(((s.heap.push (seqObj "list" #[] 0)).update s.heap.objs.size (Obj.mapSeq (· ++(as.map Value.ref).toArray))).push (seqObj "list" (as.map Value.ref).toArray 0)).get? (s.heap.objs.size+1)=some (seqObj "list" (as.map Value.ref).toArray 0):=by
  rw[<-hsz];exact z1f _ rfl
 show wpAny _ _ _ _ _ {s with heap:=((s.heap.push (seqObj "list" #[] 0)).update s.heap.objs.size (Obj.mapSeq (· ++(as.map Value.ref).toArray))).push (seqObj "list" (as.map Value.ref).toArray 0)};rw[hsz];have kp:∀b o,s.heap.get? b=some o->(((s.heap.push (seqObj "list" #[] 0)).update s.heap.objs.size (Obj.mapSeq (· ++(as.map Value.ref).toArray))).push (seqObj "list" (as.map Value.ref).toArray 0)).get? b=some o:=λ b o e=>by
  refine z1a _ ?_;rw[Heap.get?_update_ne _ _ _ _ (Nat.ne_of_lt (z2c e))];exact z1a _ e
 have Ju:∀(i:Nat) b,as[i]?=some b->∃l c ps,ts.getD i []=l::c::ps/\mj s.heap b l c ps:=λ i b e=>by
  have hi:i < ts.length:=by rw[<-hl];exact (z1b e).1
  obtain⟨l,c,ps,e1,e2⟩:=Zg I (ht i b ts[i] e (by simp[hi]));exact⟨l,c,ps,by simp[hi,e1],e2⟩
 have bne:∀b o,s.heap.get? b=some o->b≠s.heap.objs.size+1:=λ b o e=>Nat.ne_of_lt (Nat.lt_succ_of_lt (z2c e));refine wpAny_bind (wpAny_holding (wpAny_call_entry slot_list_sort ⟨_,hB,rfl⟩ entry_list_sort (YF (lt:=λ i j=>eY (ts.getD i []) (ts.getD j [])) (kk:=tuples' true) hB (by rw[lenV];exact h64) (by rw[lenV];exact Ze hn) ?kind ?ask λ qq hq hqs=>⟨_,rfl,?fin⟩) (args_list_sort _)))
 case kind=>
  intro h2 h6 keep Q' hQ';obtain⟨fs,kt,fl,fi⟩:=Jt (h:=h6) as λ b hb=>by
   obtain⟨i,hi⟩:=List.mem_iff_getElem?.mp hb;obtain⟨l,c,ps,_,e⟩:=Ju i b hi;exact⟨l,c,ps,e.keeps λ d o hd _=>keep d o (bne d o hd) (kp d o hd)⟩
  refine kat_kind (T:= .type "int") kt (by rw[fl,hl];rw[lenV] at h2;omega) (λ f hf=>by obtain⟨k,t,rfl⟩:=fi f hf;exact .now) rfl hQ'
 case ask=>
  intro h6 keep i j C hi hj hC;rw[lenV] at hi hj;have hi':i < as.length:=by omega
  have hj':j < as.length:=by omega
  obtain⟨l,c,ps,e1,t1⟩:=Ju i as[i] (by simp[hi']);obtain⟨l',c',ps',e2,t2⟩:=Ju j as[j] (by simp[hj']);unfold kas_ask;rw[show (as.map Value.ref).getD i Value.none= .ref as[i] by simp[hi'],show (as.map Value.ref).getD j Value.none= .ref as[j] by simp[hj']];refine Zf ?_ (t1.keeps λ d o hd _=>keep d o (bne d o hd) (kp d o hd)) (t2.keeps λ d o hd _=>keep d o (bne d o hd) (kp d o hd)) ?_
  ·first |exact Nat.lt_of_le_of_lt (by simp) hu |(show X.A.units+_ < cLine;omega)
  ·rw[e1,e2] at hC;exact hC
 case fin=>
  rw[lenV] at hq hqs;refine wpAny_pure ⟨_,rfl,?_⟩;have hout:(qq.toList.map λ i=>(as.map Value.ref).getD i Value.none)=(qq.toList.map λ i=>as.getD i 0).map Value.ref:=by
   rw[List.map_map];refine List.map_congr_left λ i hi=>?_;have hi':i < as.length:=by rw[hl];exact z2e (hq.perm.mem_iff.mp hi)
   simp[hi']
  rw[hout];obtain⟨cc,hFB⟩:=sortedHeap_at (vs:=as.map Value.ref) (out:=List.toArray ((qq.toList.map λ i=>as.getD i 0).map Value.ref)) hB;have hf:H (s.heap.objs.size+1)=none:=I.hok.fresh (Nat.le_succ _);refine⟨.ref (s.heap.objs.size+1),upd H (s.heap.objs.size+1) (.lst ((qq.toList.map λ i=>as.getD i 0).map V.ref)),I.laid (t':=s.toks) (λ b o e=>Bb (bne b o e) (kp b o e)) (Nat.le_succ _) ?_,rfl,q _ _ hf ?_ λ i b t eb et=>?_⟩
  ·refine⟨?_,_,cc,Nj _,hFB⟩;rw[z1g,z1g,Array.length_toList,hq.size,sizeLine_eq];omega
  ·rw[z1g,Array.length_toList,hq.size]
  ·rw[<-Js hn hq hqs] at et;rw[z2b] at eb et;cases ei:qq.toList[i]? with
   |none=>rw[ei] at eb;cases eb
   | some k=>
    rw[ei] at eb et;have eb:as.getD k 0=b:=Option.some.inj eb;have et:ts.getD k []=t:=Option.some.inj et;have hk:k < ts.length:=z2e (hq.perm.mem_iff.mp (List.mem_of_getElem? ei));have hk':k < as.length:=by omega
    have ea:as[k]?=some b:=by simp[List.getD,hk'] at eb |-;exact eb
    exact⟨List.mem_of_getElem? ea,k,ea,by simp[List.getD,hk] at et |-;exact et⟩
end
end Pu
namespace Pu
open PySem PySem.Spec L2
open PyProof.Rows hiding St
def iw:List Int->D
 |l::c::ps=> .tup [.int l,.int c,.tup (ps.map .int)]
 |_=> .non
def uf:D->Option (List Int)
 | .tup [.int l,.int c,.tup ps]=>(intsOf ps).map λ ns=>l::c::ns
 |_=>none
def nu:List D->Option (List (List Int))
 |[]=>some []
 | d::ds=>match uf d,nu ds with
  |some t,some ts=>some (t::ts)
  |_,_=>none
def mq:List D->R D
 | [.lst ds]=>match nu ds with
  |some ts=>if ts.length < 64/\ts.Nodup then .ok (.lst ((jG ts).map iw)) else .bad
  |none=> .bad
 |_=> .bad
theorem Qu (ns:List Int):intsOf (ns.map D.int)=some ns:=by simpa using wB (c:=λ i:Int=>i) (l:=ns)
theorem Jv {l c:Int} {ps:List Int}:uf (iw (l::c::ps))=some (l::c::ps):=by simp[iw,uf,Qu]
section
variable {K:PySem.W.Frag} {O:Addr->Prop} {H:Hp}
theorem Wi {d:D} {v:V} {t:List Int} (e:uf d=some t) (r:Rep K O H d v):∃b,v= .ref b/\Ii K H b t/\Rep K O H (iw t) v:=by
 unfold uf at e;split at e
 ·rename_i l c ps;cases q:intsOf ps with
  |none=>rw[q] at e;cases e
  | some ns=>
   rw[q] at e;cases e;obtain⟨a,xs,rfl,hq,rs⟩:=r.tup;obtain⟨v1,v2,v3,rfl,r1,r2,r3⟩:=rs.three;have r1:=r1.int;have r2:=r2.int;subst r1 r2;obtain⟨p,ys,rfl,hq2,vG⟩:=r3.tup;have e2:=wK q vG;subst e2;refine⟨a,rfl,⟨l,c,ns,p,rfl,hq,hq2⟩,f9 hq (.cons (bY l) (.cons (bY c) (.cons (f9 hq2 qK) .nil)))⟩
 ·cases e
theorem Gd:∀{ds:List D} {vs:List V} {ts:List (List Int)},nu ds=some ts->aJ K O H ds vs->∃as:List Addr,vs=as.map V.ref/\as.length=ts.length/\∀(i:Nat) b t,as[i]?=some b->ts[i]?=some t->Ii K H b t/\Rep K O H (iw t) (.ref b)
 | [],vs,ts,e,r=>by
  cases e;exact⟨[],r.nil_inv,rfl,λ i b t h=>by simp at h⟩
 | d ::ds,vs,ts,e,r=>by
  obtain⟨x,r',rfl,h1,h2⟩:=r.cons_inv;unfold nu at e;split at e
  ·rename_i t ts' e1 e2;cases e;obtain⟨b,rfl,h3,h4⟩:=Wi e1 h1;obtain⟨as,rfl,h5,h6⟩:=Gd e2 h2;refine⟨b::as,rfl,by simp[h5],λ i b' t' eb et=>?_⟩;cases i with
   |zero=>simp at eb et;subst eb et;exact⟨h3,h4⟩
   |succ i=>exact h6 i b' t' (by simpa using eb) (by simpa using et)
  ·cases e
theorem yX:∀{ds:List D} {vs:List V},ds.length=vs.length->(∀(i:Nat) d v,ds[i]?=some d->vs[i]?=some v->Rep K O H d v)->aJ K O H ds vs
 |[],[],_,_=> .nil
 |[],_::_,h,_=>by simp at h
 |_::_,[],h,_=>by simp at h
 |d::ds,v::vs,h,p=> .cons (p 0 d v rfl rfl) (yX (by simpa using h) λ i d' v' e1 e2=>p (i+1) d' v' (by simpa using e1) (by simpa using e2))
end
section
variable {X:Cx}
theorem Jw (hu:X.A.units+2 < cLine):CallD X (.builtin "sorted") mq:=by
 refine⟨_,Qt hu,λ ρ O σ H Q xs ds j r h=>?_⟩;unfold mq at h;split at h
 ·rename_i es;obtain⟨x,rfl,rx⟩:=r.one;obtain⟨a,ys,rfl,hq,hna,rs⟩:=rx.lst;cases e:nu es with
  |none=>rw[e] at h;exact h.elim
  | some ts =>
   rw[e] at h;have h:good X (rD X) O (if ts.length < 64/\ts.Nodup then R.ok (.lst ((jG ts).map iw)) else .bad) σ H Q:=h;by_cases hl:ts.length < 64/\ts.Nodup
   ·rw [if_pos hl] at h;obtain⟨as,rfl,h1,h2⟩:=Gd e rs;refine⟨a,as,ts,rfl,hq,h1,hl.1,hl.2,λ i b t eb et=>(h2 i b t eb et).1,λ B bs hB hbl hp=>?_⟩;refine h _ _ (Same.upd hB) (Rep.jr hB (j.lQ hB) (yX ?_ λ i d v ed ev=>?_))
    ·rw[z1g,z1g,(iK ts).length_eq,hbl]
    ·rw [z2b] at ed ev;cases q1:(jG ts)[i]? with
     |none=>rw[q1] at ed;cases ed
     | some t=>
      cases q2:bs[i]? with
      |none=>rw[q2] at ev;cases ev
      | some b=>
       rw[q1] at ed;rw[q2] at ev;cases ed;cases ev;obtain⟨_,k,z1,z2⟩:=hp i b t q2 q1;exact (h2 k b t z1 z2).2
   ·rw[if_neg hl] at h;exact h.elim
 ·exact h.elim
end
section
variable {X:Cx} {e:Expr} {f:ao->R D} {pos:Pos}
theorem N7 (i k m:Nat) {x y z:Str} {px py pz pt:Pos} {kt} (hc:X.calm=true) (hN:X.N.Nodup) (he:DE X e f) (hi:X.N[i]?=some x:=by rfl) (hk:X.N[k]?=some y:=by rfl) (hm:X.N[m]?=some z:=by rfl)
  (hx:Loc X.env.scope x:=by first |exact Or.inl rfl |exact Or.inr rfl) (hy:Loc X.env.scope y:=by first |exact Or.inl rfl |exact Or.inr rfl) (hz:Loc X.env.scope z:=by first |exact Or.inl rfl |exact Or.inr rfl)
  (hfx:X.fn x=true\/X.env.scope.names.lookup x=some .local:=by first |exact .inl rfl |exact .inr rfl) (Az:X.fn y=true\/X.env.scope.names.lookup y=some .local:=by first |exact .inl rfl |exact .inr rfl) (hfz:X.fn z=true\/X.env.scope.names.lookup z=some .local:=by first |exact .inl rfl |exact .inr rfl)
  (hs:swapsWithSole [.Tuple [.Name x px,.Name y py,.Name z pz] kt pt] e pos.line X.env=pure false:=by rfl) (hw:swappedStores [.Tuple [.Name x px,.Name y py,.Name z pz] kt pt] e X.env=pure none:=by rfl):
  DS X (.Assign [.Tuple [.Name x px,.Name y py,.Name z pz] kt pt] e pos) (bB f (cD (cF 3 (aQ (aF i) (aQ (aF k) (aQ (aF m) nilG)))))):=by
 refine PS.imp (ps_asg he (pg_tup hc (pgs_cons (pg_name hN hi hx hfx) (pgs_cons (pg_name hN hk hy Az) (pgs_cons (pg_name hN hm hz hfz) pgs_nil)))) hs hw) λ σ H E h=>?_;obtain⟨H0,O0,O,ρ,j,h⟩:=h;refine⟨ρ,O,j.inn,?_⟩;unfold bB fQ at h;cases e1:f ρ with
 |bad=>rw[e1] at h;exact h
 |err c=>rw[e1] at h;exact h σ H O j
 | ok d=>
  rw[e1] at h;intro v H' s r;cases d with
  | tup ds=>
   match ds,h,r with
   |[],h,_=>exact h.elim
   |[_],h,_=>exact h.elim
   |[_,_],h,_=>exact h.elim
   |_::_::_::_::_,h,_=>exact (show False by simpa[cD,cF,qD] using h).elim
   | [d1,d2,d3],h,r=>
    obtain⟨a,xs,rfl,hq,rs⟩:=r.tup;obtain⟨v1,v2,v3,rfl,r1,r2,r3⟩:=rs.three;refine⟨a,[v1,v2,v3],rfl,hq,rfl,v1,[v2,v3],rfl,v2,[v3],rfl,v3,[],rfl,rfl,?_⟩;exact h _ H' O ((((j.grow s).set (z1b hi).1 r1).set (z1b hk).1 r2).set (z1b hm).1 r3) (Same.dg s)
  |_=>exact h.elim
end
section
variable {X:Cx} {e:Expr} {f:ao->R D}
def adi:D->R Bool
 | .lst ds=> .ok (!ds.isEmpty)
 | .tup ds=> .ok (!ds.isEmpty)
 |_=> .bad
def Jx (f:ao->R D):ao->R Bool:=λ ρ=>(f ρ).bind adi
theorem aJ.empty {K:PySem.W.Frag} {O:Addr->Prop} {H:Hp} {ds:List D} {vs:List V} (r:aJ K O H ds vs):ds.isEmpty=vs.isEmpty:=by
 have:=r.length;cases ds <;> cases vs <;> simp_all
theorem Tg (h:DE X e f) (he:∀whole,isTrue e X.env whole=(do let v <-whole;standAt e.pos;holding [v] (truthy v)):=by intro _;rfl):DT X e (Jx f):=by
 refine PT.imp (pt_truth h he) λ σ H Q h=>?_;obtain⟨ρ,O,j,h⟩:=h;refine go j h λ d v H1 e1 s1 r1 j1 h1=>?_;cases d with
 | lst ds=>
  obtain⟨a,xs,rfl,hq,hn,rs⟩:=r1.lst;exact⟨!xs.isEmpty,.inl ⟨xs,hq,rfl⟩,by rw[<-rs.empty];exact fin h1 rfl⟩
 | tup ds=>
  obtain⟨a,xs,rfl,hq,rs⟩:=r1.tup;exact⟨!xs.isEmpty,.inr (.inl ⟨xs,hq,rfl⟩),by rw[<-rs.empty];exact fin h1 rfl⟩
 |_=>exact h1.elim
end
theorem Ti {A:Around} {k:Nat} (hr:Room k A):A.units+2 < cLine:=by have:=hr.un;omega
def FnS (P:Program) (w:World) (K:PySem.W.Frag) (mg:Str->Option Value) (base:Heap) (k:Nat) (x:Str) (kG n q:Nat) (F:Addr->(List D->R D)->List D->R D):Prop:=
 ∃f fd ps,FnOk P w K mg base CX0 k f fd ps (spS P w mg base kG K n q F)/\mg x=some (.ref f)/\PySem.W.keepIn K (.ref f)=true/\Binds K fd ps []
theorem yZ:∀{xs:List V} {us:List Value},xs.length=us.length->(∀(i:Nat) x u,xs[i]?=some x->us[i]?=some u->RelV x u)->Vals xs us
 |[],[],_,_=> .nil
 |[],_::_,h,_=>by simp at h
 |_::_,[],h,_=>by simp at h
 |x::xs,u::us,h,p=> .cons (p 0 x u rfl rfl) (yZ (by simpa using h) λ i d' v' e1 e2=>p (i+1) d' v' (by simpa using e1) (by simpa using e2))
theorem Ge {lo:Int} {acc:Array Value} {n:Nat} (h:ItemsOf (λ i v=>∃t,v= .int (lo+i*1) t) acc n):Vals ((List.range n).map λ (i:Nat)=>V.int (lo+(i:Int))) acc.toList:=by
 refine yZ (by simp[h.1]) λ i x u e1 e2=>?_;rw[Array.getElem?_toList] at e2;obtain⟨t,rfl⟩:=h.2 i u e2;rw[z2b] at e1;cases q:(List.range n)[i]? with
 |none=>rw[q] at e1;cases e1
 | some k=>
  rw[q] at e1;have hk:i < n/\i=k:=by simpa[List.getElem?_range] using (z1b q)
  obtain⟨_,rfl⟩:=hk;cases e1;exact⟨t,by rw[Int.mul_one]⟩
section
variable {X:Cx} {a b:Expr} {p pos p2 pos2:Pos} {fa:ao->R (List D)} {ta:TA}
def acw (ta:TA):TE:=λ σ H Q=>ta σ H λ vs H1=>∃i j:Int,vs=[.int i,.int j]/\∀q,H1 q=none->Q (.ref q) (upd H1 q (.rng i j))
theorem Zh (hg:Gl X "range") (hm:X.mg "range" =none) (ha:PA X [a,b] ta) (hs:starEach [a,b] X.env=[(false,eval a X.env),(false,eval b X.env)]:=by rfl) (hs2:starEach [b] X.env=[(false,eval b X.env)]:=by rfl):PE X (.Call (.Name "range" p) [a,b] [] pos) (acw ta):=by
 intro pins s σ H Q I h;refine Call_ (ld_blt I hg hm boot_range (PyProof.Rows.callWith_type1 (thn (ha pos pins s σ H _ I h) λ us s1 ⟨vs,H1,I1,r1,q1⟩=>?_) (by rw[hs,hs2]) (by rw[hs2];rfl)));obtain⟨i,j,e,q⟩:=q1;subst e;cases r1 with
 | cons r rr=>
  cases rr with
  | cons r' rr=>
   cases rr;obtain⟨t,rfl⟩:=r;obtain⟨t',rfl⟩:=r';refine call_range_2 ?_;exact⟨.ref s1.heap.objs.size,upd H1 s1.heap.objs.size (.rng i j),I1.laid (λ b o e=>z1a _ e) (z0g _) ⟨_,_,_,z1f _ rfl⟩,rfl,q _ (I1.hok.fresh (z0g _))⟩
theorem Gf (hc:X.calm=true):CallR X (.type "list") (λ xs H Q=>∃(b:Addr) (i j:Int),xs=[.ref b]/\H b=some (.rng i j)/\-1000<=i/\i<=1000/\-1000<=j/\j<=1000/\∀B,H B=none->Q (.ref B) (upd H B (.lst ((List.range (j - i).toNat).map λ (k:Nat)=>V.int (i+(k:Int)))))):=by
 intro pins s σ H xs us Q I r h;obtain⟨b,i,j,rfl,hb,h0,h1,h2,h3,q⟩:=h;obtain⟨u,rfl,rx⟩:=vals1 r;cases rx;obtain⟨t,u,v,hr⟩:=(show ObjOk X.prog X.w H s.heap b (.rng i j) from I.hok b _ hb);have hn:Builtin.Range.rangeSize i j 1=(((j - i).toNat:Nat):Int):=by rw[rangeSize_one];split <;> omega
 refine call_list_range (I.ok.hd hc) hr (small_one (by omega) (by omega) (by omega) (by omega)) hn (by omega) λ h' tk acc c' hk he hacc=>?_;have hf:H s.heap.objs.size=none:=I.hok.fresh (z0g _);refine⟨.ref s.heap.objs.size,_,I.laid (t':=tk) (o:= .lst ((List.range (j - i).toNat).map λ (k:Nat)=>V.int (i+(k:Int)))) hk (z0g _) ⟨?_,acc.toList,c',Ge hacc,by simpa using he⟩,rfl,q _ hf⟩;rw[z1g,z2d];exact z0b (by omega) (z0e dX)
theorem uT {K:PySem.W.Frag} {O:Addr->Prop} {H:Hp} {lo:Int} {n:Nat}:aJ K O H (upto lo n) ((List.range n).map λ (i:Nat)=>V.int (lo+(i:Int))):=by
 unfold upto
 generalize List.range n=l
 induction l with
 |nil=>exact .nil
 |cons x l ih=>exact .cons (bY _) ih
def pP:List D->R D
 |[.int j]=>if 0<=j/\j<=1000 then .ok (.lst (upto 0 j.toNat)) else .bad
 |_=> .bad
def Qv:List D->R D
 |[.int i,.int j]=>if -1000<=i/\i<=1000/\-1000<=j/\j<=1000 then .ok (.lst (upto i (j - i).toNat)) else .bad
 |_=> .bad
theorem Jy (hc:X.calm=true) (hg:Gl X "list") (hm:X.mg "list" =none) (hg2:Gl X "range") (hm2:X.mg "range" =none) (ha:DA X [a] fa) (hs2:starEach [a] X.env=[(false,eval a X.env)]:=by rfl)
  (he:starEach [.Call (.Name "range" p) [a] [] pos] X.env=(false,eval (.Call (.Name "range" p) [a] [] pos) X.env)::starEach [] X.env:=by rfl) (hpl:(backTo pos2 (starEach [] X.env)).any (·.1)=false:=by rfl):
  DE X (.Call (.Name "list" p2) [.Call (.Name "range" p) [a] [] pos] [] pos2) (aB pP fa):=by
 refine PE.imp (pe_callTy (Gf hc) hg hm boot_list (pa_cons (Jk hg2 hm2 ha hs2) pa_nil he) (by decide) (by decide) he hpl) λ σ H Q q=>?_;obtain⟨ρ,O,j,q⟩:=q;refine go j q λ ds vs H1 e1 s1 r1 j1 h1=>?_;unfold pP at h1;split at h1
 ·obtain⟨x,rfl,rx⟩:=r1.one;rename_i i;by_cases hi:0<=i/\i<=1000
  ·rw[if_pos hi] at h1;refine⟨i,by rw[rx.int],hi.1,hi.2,λ q hq=>⟨q,0,i,rfl,upd_same,by omega,by omega,by omega,hi.2,λ B hB=>?_⟩⟩;have s2:Same H1 (upd H1 q (.rng 0 i)):=Same.upd hq;rw[Int.sub_zero];exact h1 _ _ (s2.trans (Same.upd hB)) (Rep.jr hB ((j1.same s2).lQ hB) uT)
  ·rw[if_neg hi] at h1;exact h1.elim
 ·exact h1.elim
theorem Wj (hc:X.calm=true) (hg:Gl X "list") (hm:X.mg "list" =none) (hg2:Gl X "range") (hm2:X.mg "range" =none) (ha:DA X [a,b] fa) (hs2:starEach [a,b] X.env=[(false,eval a X.env),(false,eval b X.env)]:=by rfl) (hs3:starEach [b] X.env=[(false,eval b X.env)]:=by rfl)
  (he:starEach [.Call (.Name "range" p) [a,b] [] pos] X.env=(false,eval (.Call (.Name "range" p) [a,b] [] pos) X.env)::starEach [] X.env:=by rfl) (hpl:(backTo pos2 (starEach [] X.env)).any (·.1)=false:=by rfl):
  DE X (.Call (.Name "list" p2) [.Call (.Name "range" p) [a,b] [] pos] [] pos2) (aB Qv fa):=by
 refine PE.imp (pe_callTy (Gf hc) hg hm boot_list (pa_cons (Zh hg2 hm2 ha hs2 hs3) pa_nil he) (by decide) (by decide) he hpl) λ σ H Q q=>?_;obtain⟨ρ,O,j,q⟩:=q;refine go j q λ ds vs H1 e1 s1 r1 j1 h1=>?_;unfold Qv at h1;split at h1
 ·rename_i i k;obtain⟨x,y,rfl,rx,ry⟩:=r1.two;by_cases hi: -1000<=i/\i<=1000/\-1000<=k/\k<=1000
  ·rw[if_pos hi] at h1;refine⟨i,k,by rw[rx.int,ry.int],λ q hq=>⟨q,i,k,rfl,upd_same,hi.1,hi.2.1,hi.2.2.1,hi.2.2.2,λ B hB=>?_⟩⟩;have s2:Same H1 (upd H1 q (.rng i k)):=Same.upd hq;exact h1 _ _ (s2.trans (Same.upd hB)) (Rep.jr hB ((j1.same s2).lQ hB) uT)
  ·rw[if_neg hi] at h1;exact h1.elim
 ·exact h1.elim
end
end Pu
namespace Pu
open PySem PySem.Spec PySem.W L2
open PyProof.Rows hiding St
section
variable {prog:Program} {w:World} {A:Around} {s:Shared}
end
section
variable {X:Cx}
end
end Pu
namespace Pu
open PySem PySem.Spec L2
open PyProof.Rows hiding St
section
variable {X:Cx} {pins:List (Addr×Obj)} {σ:St} {H:Hp} {s:Shared}
end
section
variable {X:Cx} {qual:Str} {params:Arguments} {body:Expr} {scope:Scope} {xS:Str} {cc P fS:Addr} {Jp:FuncData} {Ga:List Str} {kS kG q:Nat} {FS:Addr->(List D->R D)->List D->R D} {GG:List D->R D} {p p4 pos2 aa1:Pos} {e1 e2 e3:Expr} {f1 f2 f3:ao->R D}
end
end Pu
namespace Pu
open PySem PySem.Spec PySem.W L2
open PyProof.Rows hiding St
section
variable {prog:Program} {w:World} {A:Around} {R:Result->Shared->Prop} {I l S:Addr} {its:Array Value} {h0:Heap} {bt:Nat->Nat->Bool}
end
section
variable {prog:Program} {w:World} {A:Around} {E:Value->Shared->Prop} {s:Shared} {l:Addr} {its:Array Value} {bt:Nat->Nat->Bool} {Q:Value->Shared->Prop}
end
section
variable {X:Cx}
end
end Pu
namespace Pu
open PySem PySem.Spec PySem.W L2
open PyProof.Rows hiding St
open PySem.SeqAt
section
variable {X:Cx} {e1 e2:Expr} {f g:ao->R D}
end
end Pu
namespace Pu
open PySem PySem.Spec L2
open PyProof.Rows hiding St
section
variable {X:Cx}
end
section
variable {X:Cx} {e:Expr} {f:ao->R D} {pos:Pos}
end
end Pu
namespace Pu
open PySem PySem.Spec PySem.W L2
open PyProof.Rows hiding St
section
variable {prog:Program} {w:World} {A:Around} {E:Value->Shared->Prop} {s:Shared}
end
section
variable {X:Cx}
end
end Pu
namespace Pu
open PySem PySem.Spec L2
open PyProof.Rows hiding St
section
variable {P:Program} {w:World} {K:PySem.W.Frag} {mg:Str->Option Value} {base:Heap}
end
section
variable {X:Cx} {k m n:Nat} {f:Addr} {fd:FuncData} {ps ks:List Str} {F:List D->R D} {x:Str} {p pos:Pos} {e:Expr} {es:List Expr} {kws:List Keyword} {fa fk:ao->R (List D)} {ts:List (Addr×Str)}
end
section
variable {X:Cx} {tg a b c:Expr} {p pos p2 pos2:Pos} {fa:ao->R (List D)} {ta:TA}
end
end Pu
namespace Pu
open PySem PySem.Spec PySem.W L2
open PyProof.Rows hiding St
open PySem.SeqAt
section
variable {X:Cx} {e1 e2:Expr} {f g:ao->R D}
theorem Wk {pins:List (Addr×Obj)} {σ:St} {H:Hp} {s:Shared} {A:Around} {O O':Addr->Prop} {d:D} {y:V} {u:Value} (I:Inv X pins σ H s) (re:Rep X.K O' H d y) (ru:RelV y u) (hA:∀(d':D) (v:V) (w:Value),dep d'<=40->Rep X.K O H d' v->RelV v w->EqAt A s w u (cP d' d)):
  ∃e:Value->Bool,∀(ds:List D) (vs:List V) (its:List Value),aJ X.K O H ds vs->Vals vs its->(∀d'∈ds,dep d'<=40)->its.map e=ds.map (cP · d)/\∀w∈its,EqAt A s w u (e w):=by
 classical
 have key:∀d' v w,Rep X.K O H d' v->RelV v w->(decide (∃d' v,Rep X.K O H d' v/\RelV v w/\cP d' d=true))=cP d' d:=λ d' v w r1 q1=>by
  cases z:cP d' d with
  |true=>exact decide_eq_true ⟨d',v,r1,q1,z⟩
  | false=>
   refine decide_eq_false λ bA=>?_;obtain⟨d2,v2,r2,q2,z2⟩:=bA;have ev:v2=v:=RelV.inj q2 q1;subst ev;rw[Rep.inj I d2 d' v2 r2 r1,z] at z2;cases z2
 refine⟨λ w=>decide (∃d' v,Rep X.K O H d' v/\RelV v w/\cP d' d=true),λ ds=>?_⟩
 induction ds with
 |nil=>intro vs its r q _;rw[r.nil_inv] at q;cases q;exact⟨rfl,λ w m=>by cases m⟩
 | cons a ds ih=>
  intro vs its r q hd;obtain⟨x,t,rfl,h1,h2⟩:=r.cons_inv;cases q with
  | cons q1 q2=>
   obtain⟨i1,i2⟩:=ih _ _ h2 q2 λ d' m=>hd d' (z2f _ m);refine⟨by rw[z1h,z1h,i1,key a _ _ h1 q1],λ w m=>?_⟩;rcases List.mem_cons.mp m with rfl |m
   ·show EqAt _ _ _ _ (decide _);rw[key a _ _ h1 q1];exact hA a _ _ (hd a List.mem_cons_self) h1 q1
   ·exact i2 w m
end
end Pu
namespace Pu
open PySem PySem.Spec L2
open PyProof.Rows hiding St
section
variable {X:Cx}
end
end Pu
namespace Pu
open PySem PySem.Spec PySem.W L2
open PyProof.Rows hiding St
section
variable {prog:Program} {w:World} {A:Around} {s:Shared}
end
section
variable {X:Cx}
end
section
variable {X:Cx}
end
end Pu
namespace Pu
open PySem PySem.Spec L2
open PyProof.Rows hiding St
variable {O:Addr->Prop} {gt:D->ao->R ao} {tg iter elt:Expr} {ifs:List Expr} {pos:Pos} {K:PySem.W.Frag} {fi:ao->R (List D)} {ft:ao->R Bool} {fe:ao->R D} {scope:Scope}
section
variable {X:Cx}
def reF (K:PySem.W.Frag):Hp->(Addr->Prop)->Hp->D->V->Prop:=λ H0 O H' d v=>∃a ys ds,d= .lst ds/\v= .ref a/\H0 a=none/\K.lookup a=none/\H' a=some (.lst ys)/\aJ K (λ b=>O b\/b=a) H' ds ys
abbrev DEF (X:Cx) (e:Expr) (f:ao->R D):Prop:=Jm X (reF X.K) e f
theorem Jz {Re:Hp->(Addr->Prop)->Hp->D->V->Prop} {Ac:Hp->Addr->(Addr->Prop)->Hp->List D->List V->Prop} (AC:X6 X.K Re Ac) (ts:List Str) (caps:List Nat)
  (hc:X.calm=true) (hb:wu X.env.scope scope ts X.N=true) (hcap:(dI scope).map (λ x=>jx x X.N)=caps)
  (hi:DI X tg iter fi) (hk:lV ts.length gt) (hg:∀C s H ex,(cg X scope ts C s H ex).N.Nodup->DG (cg X scope ts C s H ex) tg gt) (ht:∀C s H ex,Fv (cg X scope ts C s H ex) ifs ft) (he:∀C s H ex,Jm (cg X scope ts C s H ex) Re elt fe)
  (hs:∀x,foldedSetIterable iter X.env x=pure x:=by intro _;rfl):
  PE X (.ListComp elt [⟨tg,iter,ifs,0⟩] scope pos) (λ σ H Q=>∃ρ O,In X O H ρ σ/\good X (S9 X H Ac) O (bF ts.length caps fi gt ft fe ρ) σ H Q):=by
 intro pins s σ H Q I h;obtain⟨ρ,O,j,h⟩:=h;rw[eval_ListComp];refine FZ (Q:=Q) (Qr:=EP X pins σ Q) AC ts caps hc hb hcap hi hk hg ht he hs I j ?_ h;intro v H' s5 C m f acc hq I5 hns fC rel;exact⟨m,hns,λ h' sb=>⟨v,H',I5.fp fC sb,rel,hq⟩⟩
theorem Wm (ts:List Str) (caps:List Nat)
  (hc:X.calm=true) (hb:wu X.env.scope scope ts X.N=true) (hcap:(dI scope).map (λ x=>jx x X.N)=caps)
  (hi:DI X tg iter fi) (hk:lV ts.length gt) (hg:∀C s H ex,(cg X scope ts C s H ex).N.Nodup->DG (cg X scope ts C s H ex) tg gt) (ht:∀C s H ex,Fv (cg X scope ts C s H ex) ifs ft) (he:∀C s H ex,DE (cg X scope ts C s H ex) elt fe)
  (hs:∀x,foldedSetIterable iter X.env x=pure x:=by intro _;rfl):DEF X (.ListComp elt [⟨tg,iter,ifs,0⟩] scope pos) (bF ts.length caps fi gt ft fe):=by
 refine PE.imp (Jz Tc ts caps hc hb hcap hi hk hg ht (λ C s H ex=>(he C s H ex).toP) hs) λ σ H Q h=>?_;obtain⟨ρ,O,j,h⟩:=h;exact⟨ρ,O,j,good.rel (λ d v H' sm ⟨Hs,a,ys,ds,e1,e2,s1,n1,k1,s2,e3,r⟩=>⟨a,ys,ds,e1,e2,Same.free s1 n1,k1,e3,r⟩) h⟩
theorem At.aa2 {H0 H H':Hp} {O0:Addr->Prop} {ρ:ao} {σ:St} (j:At X H0 O0 O H ρ σ) {i:Nat} (hi:i < X.N.length) {a:Addr} {ys:List V} {ds:List D} (sm:Same H H') (hp:H a=none) (hk:X.K.lookup a=none) (e:H' a=some (.lst ys)) (r:aJ X.K (λ b=>O b\/b=a) H' ds ys):
  At X H0 O0 (λ b=>O b\/b=a) H' (ρ.set i (some (.lst ds))) (σ.set i (some (.ref a)))/\c7 X.K O H (λ b=>O b\/b=a) H':=by
 have s1:Same H (λ b=>if b=a then none else H' b):=λ b o q=>by
  show (if b=a then none else H' b)=_;rw[if_neg (ne_of_none q hp)];exact sm _ _ q
 have eu:upd (λ b=>if b=a then none else H' b) a (.lst ys)=H':=funext λ b=>by
  by_cases z:b=a
  ·rw[z,upd_same,e]
  ·rw[upd_ne z];exact if_neg z
 have h:=(j.grow s1).own hi (p:=a) (o:= .lst ys) (en:= .lst ds) (if_pos rfl) hk rfl (by rw[eu];exact⟨a,ys,rfl,.inr rfl,e,r⟩);rw[eu] at h;exact⟨h.1,(Same.dg s1).trans h.2⟩
def Du (f:ao->R D) (i:Nat):ao->So:=λ ρ=>fQ (f ρ) ρ λ d=>match d with
 | .lst ds=> .nx (ρ.set i (some (.lst ds)))
 |_=> .bad
theorem Tj (i:Nat) {x:Str} {e:Expr} {f:ao->R D} {pos':Pos} (hN:X.N.Nodup) (he:DEF X e f) (hi:X.N[i]?=some x:=by rfl) (hx:Loc X.env.scope x:=by first |exact Or.inl rfl |exact Or.inr rfl) (hs:swapsWith e (some (.Name x pos')) pos.line X.env=pure false:=by rfl)
  (hf:X.fn x=true\/X.env.scope.names.lookup x=some .local:=by first |exact .inl rfl |exact .inr rfl):DS X (.Assign [.Name x pos'] e pos) (Du f i):=by
 refine PS.imp (ps_set hN hi hx he hs hf) λ σ H E h=>?_;obtain⟨H0,O0,O,ρ,j,h⟩:=h;refine⟨ρ,O,j.inn,?_⟩;unfold Du fQ at h;cases e1:f ρ with
 |bad=>rw[e1] at h;exact h
 |err c=>rw[e1] at h;exact h σ H O j
 | ok d=>
  rw[e1] at h
  rintro v H' sm ⟨a,ys,ds,rfl,rfl,n1,k1,e3,r⟩
  obtain⟨j2,r2⟩:=j.aa2 (z1b hi).1 sm n1 k1 e3 r;exact h _ _ _ j2 r2
theorem Wn:OpR X (binaryOp .Mult) (λ x y H Q=>∃a k xs,x= .ref a/\y= .int k/\SqL X.K H a xs/\1<=k/\k < 2 ^ 63/\xs.length*k.toNat<=1000000/\∀p,H p=none->X.K.lookup p=none->Q (.ref p) (upd H p (.lst (List.replicate k.toNat xs).flatten))):=by
 intro pins s σ H x y v u Q I rx ry h;obtain⟨a,k,xs,rfl,rfl,hq,h1,h2,hz,q⟩:=h;cases rx;obtain⟨t,rfl⟩:=ry;obtain⟨its,r,p1,_⟩:=I.list hq;obtain⟨⟨cls,dd,data,sl⟩,ho,hc,n,hd⟩:=id p1.isList;simp only at hc hd;subst hc hd;have hlen:=r.length;have hz':its.toArray.size*k.toNat<=1000000:=by rw[z1c,<-hlen];exact hz
 have hz2:its.length*k.toNat<=1000000:=by rw[<-hlen];exact hz
 refine wpAny_binaryOp_repeat_ref (T:= "list") (U:= "int") (by decide) ⟨_,ho,rfl⟩ (λ s'=>typeIs_int s' k t) noFill_list_mul F.fills_int_mul F.slot_int_rmul repeat_list F.slot_int_index.lookup
  (call_meets F.slot_int_rmul (typeIs_int s k t) F.entry_int_rmul (F.args_int_rmul_2 _ _) (lm_int_rmul_list_any k t a its.toArray n dd sl) ⟨ho,rfl,⟨_,ho,rfl⟩,?_⟩)
 refine call_meets F.slot_list_mul ⟨_,ho,rfl⟩ F.entry_list_mul (F.args_list_mul_2 _ _) (lm_list_mul_any a its.toArray n dd sl k t (by simp[Builtin.List.listFitsIndex];omega) (by omega) (by simp[Builtin.List.listTooLong,sizeLine];omega)) ⟨ho,?_⟩;rw[listMul_foldl_if];refine⟨.ref s.heap.objs.size,_,I.laid (t':=s.toks) (o:= .lst (List.replicate k.toNat xs).flatten) (λ b ob z=>z1a _ z) (z0g _) ?_,rfl,q _ (I.hok.fresh (z0g _)) (Inv.VB I)⟩;exact⟨by rw[len_rep,Nat.mul_comm];exact z0b hz eO,_,_,r.rep k.toNat,z1f _ rfl⟩
theorem aJ.adk {H:Hp} {p:Addr} {o:HO} {ds:List D} {vs:List V} (h:aJ K O H ds vs) (hp:H p=none) (hk:K.lookup p=none):aJ K (λ b=>O b\/b=p) (upd H p o) ds vs:=
 h.go ⟨(Same.dg (K:=K) (O:=O) (Same.upd hp)).ext,λ a z=>z.elim .inl λ e=> .inr (by rw[e];exact⟨hp,hk⟩),(Same.dg (K:=K) (O:=O) (Same.upd hp)).dom⟩
def Dv:D->D->R D
 | .lst ds,.int k=>if ds≠[]/\1<=k/\k < 2 ^ 63/\ds.length*k.toNat<=1000000 then .ok (.lst (List.replicate k.toNat ds).flatten) else .bad
 |_,_=> .bad
theorem N8 {a b:Expr} {f g:ao->R D} (ha:DE X a f) (hb:DE X b g):DEF X (.BinOp a .Mult b pos) (bin f g Dv):=by
 refine PE.imp (pe_op Wn ha hb) λ σ H Q h=>?_;obtain⟨ρ,O,j,h⟩:=h;refine go j h λ dx x H1 e1 s1 r1 j1 h1=>go j1 h1 λ dy y H2 e2 s2 r2 j2 h2=>?_;unfold Dv at h2;split at h2
 ·rename_i ds k;by_cases hc:ds≠[]/\1<=k/\k < 2 ^ 63/\ds.length*k.toNat<=1000000
  ·rw[if_pos hc] at h2;obtain⟨a,us,rfl,ha,_,q1⟩:=(r1.same s2).lst;obtain⟨h0,h1',h2',h3⟩:=hc;exact⟨a,k,us,rfl,r2.int,ha,h1',h2',by rw[<-q1.length];exact h3,λ p hp hk=>h2 _ _ (Same.upd hp) ⟨p,_,_,rfl,rfl,Same.free (s1.trans s2) hp,hk,upd_same,(zR q1 _).adk hp hk⟩⟩
  ·rw[if_neg hc] at h2;exact h2.elim
 ·exact h2.elim
def JB (i:Nat) (fk fv:ao->R D):ao->So:=λ ρ=>fQ (wz (fv ρ)) ρ λ d=>match ρ[i]? with
 | some (some (.lst ds))=>fQ (wz (fk ρ)) ρ λ k=>match k with
  | .int k=>if 0<=k/\k < ds.length then .nx (ρ.set i (some (.lst (ds.set k.toNat d)))) else .bad
  |_=> .bad
 |_=> .bad
theorem aJ.set {H:Hp} {d:D} {v:V} (rv:Rep K O H d v):∀{ds:List D} {vs:List V} (k:Nat),aJ K O H ds vs->aJ K O H (ds.set k d) (vs.set k v)
 |[],vs,_,h=>by rw[h.nil_inv];exact .nil
 | x::ds,vs,k,h=>by
  obtain⟨w,r,rfl,h1,h2⟩:=h.cons_inv;cases k with
  |zero=>exact .cons rv h2
  |succ k=>exact .cons h1 (aJ.set rv k h2)
theorem Zi (i:Nat) {x:Str} {ek ev:Expr} {fk fv:ao->R D} {px pos':Pos} (hk:DE X ek fk) (hv:DE X ev fv) (hN:X.N[i]?=some x:=by rfl) (hvs:Vis X.env.scope x:=by first |exact Or.inl rfl |exact Or.inr (Or.inl rfl) |exact Or.inr (Or.inr rfl))
  (hd:(x ==("__debug__" :Str))=false:=by decide) (hcd:(x ==("__classdict__" :Str))=false:=by decide)
  (ha:∀v,assign (.Subscript (.Name x px) ek pos') X.env v=(do
   let ov <-holding [v] (eval (.Name x px) X.env)
   let iv <-holding [v,ov] (eval ek X.env)
   standAt pos'
   holding [v,ov,iv] (setItem ov iv v)
   release [v,ov,iv] []):=by intro _;rfl)
  (hs:swapsWithSole [.Subscript (.Name x px) ek pos'] ev pos.line X.env=pure false:=by rfl) (hw:swappedStores [.Subscript (.Name x px) ek pos'] ev X.env=pure none:=by rfl)
  (h1:(assignEach [.Subscript (.Name x px) ek pos'] X.env).map (·.2)=[assign (.Subscript (.Name x px) ek pos') X.env]:=by rfl):
  DS X (.Assign [.Subscript (.Name x px) ek pos'] ev pos) (JB i fk fv):=by
 refine PS.imp (ps_asg hv (pg_sub (pe_var hN hvs hd hcd) hk set_list ha) hs hw h1) λ σ H E h=>?_;obtain⟨H0,O0,O,ρ,j,h⟩:=h;unfold JB at h;refine⟨ρ,O,j.inn,?_⟩;cases q2:fv ρ with
 |bad=>rw[q2] at h;exact h.elim
 |err c=>rw[q2] at h;exact h.elim
 | ok d =>
  rw[q2] at h;intro v H1 s1 rv;have h:qD X H0 O0 O H E (match ρ[i]? with
   | some (some (.lst ds))=>fQ (wz (fk ρ)) ρ λ k=>match k with
    | .int k=>if 0<=k/\k < ds.length then .nx (ρ.set i (some (.lst (ds.set k.toNat d)))) else .bad
    |_=> .bad
   |_=> .bad):=h
  split at h
  ·rename_i ds q;obtain⟨w,hw1,a,xs,rfl,hO,hH,rs⟩:=j.inn.env.get i _ q;refine⟨.ref a,hw1,?_⟩;have j1:=j.grow s1;refine⟨ρ,O,j1.inn,?_⟩;cases q1:fk ρ with
   |bad=>rw[q1] at h;exact h.elim
   |err c=>rw[q1] at h;exact h.elim
   | ok k=>
    rw[q1] at h;intro y H2 s2 ry;cases k with
    | int k=>
     have h:qD X H0 O0 O H E (if 0<=k/\k < ds.length then .nx (ρ.set i (some (.lst (ds.set k.toNat d)))) else .bad):=h;by_cases hc:0<=k/\k < ds.length
     ·rw[if_pos hc] at h;have j2:=j1.grow s2;have hH2:=s2 _ _ (s1 _ _ hH);have vG:=(rs.same s1).same s2;have hlen:=vG.length;refine⟨a,xs,k,k.toNat,rfl,ry.int,hH2,by unfold ixN;rw[if_pos hc.1,if_pos (by omega)],?_⟩;obtain⟨j3,r3⟩:=j2.chg (o:= .lst (xs.set k.toNat v)) (en:= .lst (ds.set k.toNat d)) q rfl hw1 hO hH2 trivial rfl λ r=>⟨a,_,rfl,hO,upd_same,(aJ.set (rv.same s2) k.toNat vG).go r⟩;exact h _ _ _ j3 ((Same.dg (s1.trans s2)).trans r3)
     ·rw[if_neg hc] at h;exact h.elim
    |_=>exact h.elim
  ·exact h.elim
end
inductive dZ (K:PySem.W.Frag) (O:Addr->Prop) (H:Hp):List Addr->List D->Prop
 |nil:dZ K O H [] []
 |cons {r:Addr} {zs:List V} {es:List D} {rs:List Addr} {ds:List D}:H r=some (.lst zs)->aJ K O H es zs->dZ K O H rs ds->dZ K O H (r::rs) (.lst es::ds)
section
variable {K:PySem.W.Frag} {O O':Addr->Prop} {H H':Hp} {rs:List Addr} {ds:List D}
theorem dZ.same (s:Same H H') (h:dZ K O H rs ds):dZ K O H' rs ds:=by
 induction h with
 |nil=>exact .nil
 |cons e r _ ih=>exact .cons (s _ _ e) (r.same s) ih
theorem dZ.fewer (w:∀a,O' a->O a) (h:dZ K O H rs ds):dZ K O' H rs ds:=by
 induction h with
 |nil=>exact .nil
 |cons e r _ ih=>exact .cons e (r.fewer w) ih
theorem dZ.app {r:Addr} {zs:List V} {es:List D} (e:H r=some (.lst zs)) (q:aJ K O H es zs) (h:dZ K O H rs ds):dZ K O H (rs++[r]) (ds++[.lst es]):=by
 induction h with
 |nil=>exact .cons e q .nil
 |cons e' r' _ ih=>exact .cons e' r' ih
theorem dZ.len (h:dZ K O H rs ds):rs.length=ds.length:=by
 induction h with
 |nil=>rfl
 |cons _ _ _ ih=>rw[List.length_cons,List.length_cons,ih]
theorem dZ.go (rc:c7 K O H O' H') (st:∀r∈rs,∀zs,H r=some (.lst zs)->H' r=some (.lst zs)) (h:dZ K O H rs ds):dZ K O' H' rs ds:=by
 induction h with
 |nil=>exact .nil
 |cons e q _ ih=>exact .cons (st _ (List.mem_cons_self ..) _ e) (q.go rc) (ih λ r hr=>st r (z2f _ hr))
theorem dZ.there (h:dZ K O H rs ds):∀r∈rs,∃zs,H r=some (.lst zs):=by
 induction h with
 |nil=>exact λ r hr=>absurd hr (by simp)
 | cons e q _ ih=>
  intro r hr;rcases List.mem_cons.mp hr with z |z
  ·rw[z];exact⟨_,e⟩
  ·exact ih r z
end
def acN (K:PySem.W.Frag):Hp->Addr->(Addr->Prop)->Hp->List D->List V->Prop:=λ H2 a O H' ds ys=>
 ∃rs:List Addr,ys=rs.map V.ref/\rs.Nodup/\(∀r∈rs,H2 r=none/\K.lookup r=none/\r≠a)/\dZ K (λ b=>O b\/b=a) H' rs ds
theorem aa3:X6 K (reF K) (acN K) where
 nil:=⟨[],rfl,.nil,λ _ h=>absurd h (by simp),.nil⟩
 same:=λ ⟨rs,e,nd,al,rr⟩ _ s=>⟨rs,e,nd,al,rr.same s⟩
 len:=λ ⟨rs,e,_,_,rr⟩=>by rw[e,z1g,rr.len]
 app :=by
  rintro H2 a O H7 H8 ds ys d v ⟨rs,e,nd,al,rr⟩ ha h7 s1 s2 ⟨r,zs,es,rfl,rfl,n7,nk,e8,q⟩ rc
  have hra:r≠a:=λ z=>by rw[z,h7] at n7;cases n7
  have hnr:r∉rs:=λ z=>by
   obtain⟨zs',e'⟩:=rr.there r z;rw[n7] at e';cases e'
  subst e;refine⟨rs++[r],by rw[List.map_append];rfl,?_,λ x hx=>?_,?_⟩
  ·refine List.nodup_append.mpr ⟨nd,List.nodup_cons.mpr ⟨by simp,.nil⟩,λ x hx y hy z=>?_⟩;rw[List.mem_singleton] at hy;subst hy;subst z;exact hnr hx
  ·rcases List.mem_append.mp hx with z |z
   ·exact al x z
   ·rw[List.mem_singleton.mp z];exact⟨Same.free s1 n7,nk,hra⟩
  ·refine ((rr.same s2).go rc λ x hx zs e=>?_).app ?_ ((q.fewer λ b z=> .inl z).go rc)
   ·rw[upd_ne (al x hx).2.2];exact e
   ·rw[upd_ne hra];exact e8
def reN (K:PySem.W.Frag):Hp->(Addr->Prop)->Hp->D->V->Prop:=λ H0 O H' d v=>
 ∃(a:Addr) (rs:List Addr) (ds:List D),d= .lst ds/\v= .ref a/\H0 a=none/\K.lookup a=none/\H' a=some (.lst (rs.map V.ref))/\rs.Nodup/\(∀r∈rs,H0 r=none/\K.lookup r=none/\r≠a)/\dZ K O H' rs ds
section
variable {X:Cx}
theorem Wo (ts:List Str) (caps:List Nat)
  (hc:X.calm=true) (hb:wu X.env.scope scope ts X.N=true) (hcap:(dI scope).map (λ x=>jx x X.N)=caps)
  (hi:DI X tg iter fi) (hk:lV ts.length gt) (hg:∀C s H ex,(cg X scope ts C s H ex).N.Nodup->DG (cg X scope ts C s H ex) tg gt) (ht:∀C s H ex,Fv (cg X scope ts C s H ex) ifs ft) (he:∀C s H ex,DEF (cg X scope ts C s H ex) elt fe)
  (hs:∀x,foldedSetIterable iter X.env x=pure x:=by intro _;rfl):Jm X (reN X.K) (.ListComp elt [⟨tg,iter,ifs,0⟩] scope pos) (bF ts.length caps fi gt ft fe):=by
 refine PE.imp (Jz aa3 ts caps hc hb hcap hi hk hg ht he hs) λ σ H Q h=>?_;obtain⟨ρ,O,j,h⟩:=h;exact⟨ρ,O,j,good.rel (λ d v H' sm ⟨Hs,a,ys,ds,e1,e2,s1,n1,k1,s2,e3,rs,e4,nd,al,rr⟩=>⟨a,rs,ds,e1,e2,Same.free s1 n1,k1,by rw[e3,e4],nd,λ r hr=>⟨Same.free s1 (al r hr).1,(al r hr).2⟩,rr.fewer λ _ z=> .inl z⟩) h⟩
end
section
variable {P:Program} {w:World} {K:PySem.W.Frag} {mg:Str->Option Value} {base:Heap}
end
section
variable {X:Cx} {c x y:Str} {C:Addr} {np cpos pos p1 p2 p3 p4:Pos} {k1 k2:Nat} {a b:Expr} {f g:ao->R D}
end
end Pu
namespace L2
open PySem PySem.Spec PyProof.Rows
section
variable {X:Cx} {pos:Pos}
end
end L2
namespace Pu
open PySem PySem.Spec L2
open PyProof.Rows hiding St
variable {rows:List (List D)} {rs:List Addr} {K:PySem.W.Frag}
section
variable {X:Cx} {a b c:Expr} {f g u:ao->R D} {pos:Pos}
end
section
variable {X:Cx} {H0 H:Hp} {O0 O:Addr->Prop} {ρ:ao} {σ:St} {sts:List Stmt} {g:ao->So}
theorem JC:c7 X.K O H (Fx H ρ σ O) H:=⟨⟨λ _ _ h=>h,λ _ _ _ h=>h⟩,λ _ z=> .inl z.1,λ _ h=>h⟩
theorem At.cG (j:At X H0 O0 O H ρ σ):At X H0 O0 (Fx H ρ σ O) H (Pu.cG ρ) σ:=by
 refine⟨j.same,j.dg.trans JC,j.aaM,j.inn.cG,λ i e a h o q=>?_,λ i rows a rs h=>?_⟩
 ·rcases qF h with⟨h1,_⟩ |⟨ds,h1,rfl⟩ |⟨rows,h1,rfl⟩
  ·exact j.mine i e a h1 o q
  ·cases o
  ·cases o
 ·rcases qF h with⟨_,_,h2⟩ |⟨ds,_,z⟩ |⟨_,_,z⟩
  ·exact absurd rfl (h2 rows)
  ·cases z
  ·cases z
def Wq (g:ao->So):ao->So:=λ ρ=>g (Pu.cG ρ)
theorem Zj (h:lW X sts g):lW X sts (Wq g):=PSs.imp h λ _ _ _ ⟨H0,O0,_,_,j,q⟩=>⟨H0,O0,_,_,j.cG,q.go JC⟩
theorem aa4 {o:So} (e:g (Pu.cG ρ)=o):Wq g ρ=o:=e
end
section
variable {X:Cx}
theorem Zk {O:Addr->Prop} {H:Hp} {p:Addr} {u o:HO} (hO:O p) (hu:H p=some u) (hm:Mut (some u)):c7 K O H O (upd H p o):=by
 have nt:∀b xs,Rd H b (.tup xs)->b≠p:=λ b xs h z=>by
  subst z;rcases h with h |⟨_,h⟩ <;> rw[hu] at h <;> cases h <;> exact hm
 refine⟨⟨λ b xs h=>?_,λ b xs n h=>?_⟩,λ a z=> .inl z,λ a z=>?_⟩
 ·have nb:=nt b xs h;rcases h with h |⟨q,h⟩
  ·exact .inl (by rw[upd_ne nb];exact h)
  ·exact .inr ⟨q,by rw[upd_ne nb];exact h⟩
 ·have nb:b≠p:=λ z=>n (by rw[z];exact hO);rcases h with h |⟨q,h⟩
  ·exact .inl (by rw[upd_ne nb];exact h)
  ·exact .inr ⟨q,by rw[upd_ne nb];exact h⟩
 ·by_cases ea:a=p
  ·rw[ea,upd_same] at z;cases z
  ·rw[upd_ne ea] at z;exact z
theorem At.adl {H0 H:Hp} {O0 O:Addr->Prop} {ρ:ao} {σ:St} (j:At X H0 O0 O H ρ σ) {i n:Nat} {a r:Addr} {row Qw:List D} {xs xs':List V} (hi:ρ[i]?=some (some (.rws rows))) (hs:σ[i]?=some (some (.ref a))) (R:zF X.K O H rows a rs) (hr:rs[n]?=some r) (hw:rows[n]?=some row) (hH:H r=some (.lst xs)) (q:aJ X.K O H Qw xs'):
  At X H0 O0 O (upd H r (.lst xs')) (ρ.set i (some (.rws (rows.set n Qw)))) σ/\c7 X.K O H O (upd H r (.lst xs')):=by
 have hO:O r:=(R.row n r row hr hw).1;have r1:c7 X.K O H O (upd H r (.lst xs')):=Zk hO hH trivial;have h1:i < ρ.length:=(z1b hi).1;have hmem:r∈rs:=List.mem_of_getElem? hr;obtain⟨RL,XF⟩:=j.rK i rows a rs hi hs R.at_ r hmem;have nar:a≠r:=λ z=>(List.nodup_cons.mp R.nd).1 (by rw[z];exact hmem);have nown:∀{k:Nat} {e:Ent} {v:V},k≠i->ρ[k]?=some (some e)->e.own=true->σ[k]?=some (some v)->v≠.ref r/\∀rows',e≠.rws rows':=λ {k e v} hki h ho hk=>
  let ⟨z1,z2⟩:=j.inn.env.lg i k rows a rs e v (Ne.symm hki) hi hs R.at_ h ho hk
  ⟨z1 r hmem,z2⟩
 have eat:upd H r (.lst xs') a=some (.lst (rs.map V.ref)):=by rw[upd_ne nar];exact R.at_
 refine⟨⟨λ b o z=>?_,j.dg.trans r1,j.sub,⟨⟨λ k e h=>?_,λ k l e e' v hkl hk hl ok ol sk sl=>?_,λ k l rw' b bs e v hkl hk sk hb hl ol sl=>?_⟩,λ b z=>?_,j.inn.len,by rw[List.length_set];exact j.inn.jU⟩,λ k e b h ho hk=>?_,λ k rw' b bs h hk hb=>?_⟩,r1⟩
 ·rw[upd_ne (ne_of_none z RL)];exact j.same _ _ z
 ·by_cases hki:k=i
  ·subst hki;rw[z2a h1] at h;cases h;refine⟨_,hs,a,rs,rfl,eat,R.oa,R.nd,by rw[List.length_set];exact R.len,λ m r' row2 z1 z2=>?_⟩;by_cases hmn:m=n
   ·subst hmn;rw[hr] at z1;cases z1;rw[z2a (z1b hw).1] at z2;cases z2;exact⟨hO,xs',upd_same,q.go r1⟩
   ·rw[z1e (Ne.symm hmn)] at z2;obtain⟨o1,ys,z3,z4⟩:=R.row m r' row2 z1 z2;have nr:r'≠r:=λ z=>by
     have hn:=(List.nodup_cons.mp R.nd).2;rw[z] at z1;exact hmn ((List.getElem?_inj (z1b z1).1 hn).mp (z1.trans hr.symm))
    exact⟨o1,ys,by rw[upd_ne nr];exact z3,z4.go r1⟩
  ·rw [z1e (Ne.symm hki)] at h;obtain⟨v,q1,q2⟩:=j.inn.env.get k e h;refine⟨v,q1,?_⟩;cases e with
   |val d=>exact Rep.go r1 q2
   | obj t=>exact lO.fz (λ b o' u hb=>by
     have nb:b≠r:=λ z=>by rw[z,hH] at hb;cases hb
     rw[upd_ne nb];exact hb) q2
   | lst ds=>
    obtain⟨b,ys,e1,o1,e2,rr⟩:=q2;have na:b≠r:=λ z=>(nown hki h rfl q1).1 (by rw[e1,z]);exact⟨b,ys,e1,o1,by rw[upd_ne na];exact e2,rr.go r1⟩
   | qj kvs=>
    obtain⟨b,ys,e1,o1,e2,kk,rr⟩:=q2;have na:b≠r:=λ z=>(nown hki h rfl q1).1 (by rw[e1,z]);exact⟨b,ys,e1,o1,by rw[upd_ne na];exact e2,kk,rr.go r1⟩
   |rws Yc=>exact absurd rfl ((nown hki h rfl q1).2 Yc)
 ·have un:∀{m:Nat} {x:Ent},(ρ.set i (some (.rws (rows.set n Qw))))[m]?=some (some x)->x.own=true->∃y,ρ[m]?=some (some y)/\y.own=true:=λ {m x} h ho'=>by
   by_cases hmi:m=i
   ·rw[hmi];exact⟨_,hi,rfl⟩
   ·rw[z1e (Ne.symm hmi)] at h;exact⟨x,h,ho'⟩
  obtain⟨y,hy,oy⟩:=un hk ok;obtain⟨y',hy',oy'⟩:=un hl ol;exact j.inn.env.sep k l y y' v hkl hy hy' oy oy' sk sl
 ·by_cases hki:k=i
  ·subst hki;rw[hs] at sk;cases sk;rw[eat] at hb;have eb:=jq (HO.lst.inj (Option.some.inj hb));rw[z1e hkl] at hl;rw[<-eb];exact j.inn.env.lg k l rows a rs e v hkl hi hs R.at_ hl ol sl
  ·rw[z1e (Ne.symm hki)] at hk;exact absurd rfl ((nown hki hk rfl sk).2 rw')
 ·by_cases ea:b=r
  ·rw[ea];exact⟨_,upd_same⟩
  ·obtain⟨w,q⟩:=j.inn.al b z;exact⟨w,by rw[upd_ne ea];exact q⟩
 ·by_cases hki:k=i
  ·subst hki;rw[hs] at hk;cases hk;exact j.mine k _ a hi rfl hs
  ·rw[z1e (Ne.symm hki)] at h;exact j.mine k e b h ho hk
 ·by_cases hki:k=i
  ·subst hki;rw[hs] at hk;cases hk;rw[eat] at hb;rw[<-jq (HO.lst.inj (Option.some.inj hb))];exact j.rK k rows a rs hi hs R.at_
  ·rw[z1e (Ne.symm hki)] at h;exact absurd rfl ((nown hki h rfl hk).2 rw')
def isAtom:D->Bool
 | .int _=>true
 | .non=>true
 |_=>false
def rowOf:D->Option (List D)
 | .lst es=>if es.all isAtom then some es else none
 |_=>none
def rowsOf:List D->Option (List (List D))
 |[]=>some []
 | d::ds=>match rowOf d,rowsOf ds with
  |some r,some rs=>some (r::rs)
  |_,_=>none
def JD:Option Ent->Bool
 |some (.rws _)=>false
 |_=>true
theorem JF {K:PySem.W.Frag} {O O':Addr->Prop} {H H':Hp}:∀{es:List D} {zs:List V},es.all isAtom=true->aJ K O H es zs->aJ K O' H' es zs
 |[],_,_,h=>by simpa only[aJ] using h
 | d::ds,zs,e,h=>by
  simp only[aJ] at h |-;obtain⟨x,r,h1,h2,h3⟩:=h;rw[List.all_cons,Bool.and_eq_true] at e;refine⟨x,r,h1,?_,JF e.2 h3⟩;cases d with
  |int k=>rw[h2.int];exact bY k
  |non=>rw[h2.non];exact mV
  |_=>exact absurd e.1 (by simp[isAtom])
theorem Wr {O:Addr->Prop} {H:Hp} {ds:List D} (h:dZ K O H rs ds):∀{rows:List (List D)},rowsOf ds=some rows->rs.length=rows.length/\∀(i:Nat) r row,rs[i]?=some r->rows[i]?=some row->row.all isAtom=true/\∃xs,H r=some (.lst xs)/\aJ K O H row xs:=by
 induction h with
 |nil=>intro rows e;cases e;exact⟨rfl,λ i r row z=>by simp at z⟩
 | @cons r zs es rs ds e q h ih=>
  intro rows er;unfold rowsOf at er;cases e1:rowOf (.lst es) with
  |none=>rw[e1] at er;cases er
  | some r0=>
   cases e2:rowsOf ds with
   |none=>rw[e1,e2] at er;cases er
   | some rs0=>
    rw[e1,e2] at er;cases er;unfold rowOf at e1;by_cases c:es.all isAtom=true
    ·simp only[if_pos c] at e1;cases e1;obtain⟨l,g⟩:=ih e2;refine⟨by rw[List.length_cons,List.length_cons,l],λ i r' row z1 z2=>?_⟩;cases i with
     |zero=>cases z1;cases z2;exact⟨c,zs,e,q⟩
     |succ i=>exact g i r' row z1 z2
    ·simp only[if_neg c] at e1;cases e1
theorem Zm {O:Addr->Prop} {H:Hp} {e:Ent} {v:V} (ho:e.own=true) (h:mW K O H e v):∃b o,v= .ref b/\H b=some o:=by
 cases e with
 |val d=>cases ho
 |obj t=>cases ho
 |lst ds=>obtain⟨a,xs,e1,_,e2,_⟩:=h;exact⟨a,_,e1,e2⟩
 |qj kvs=>obtain⟨a,xs,e1,_,e2,_⟩:=h;exact⟨a,_,e1,e2⟩
 |rws rows=>obtain⟨a,rs,e1,R⟩:=h;exact⟨a,_,e1,R.at_⟩
theorem uU {ρ:ao} {i k:Nat} (hR:(ρ.set i none).all JD=true) (hki:k≠i) (h:ρ[k]?=some (some (.rws rows))):False:=by
 have h2:(ρ.set i none)[k]?=some (some (.rws rows)):=by rw[z1e (Ne.symm hki)];exact h
 have:=List.all_eq_true.mp hR _ (List.mem_of_getElem? h2);cases this
theorem At.adn {H0 H H':Hp} {O0 O:Addr->Prop} {ρ:ao} {σ:St} (j:At X H0 O0 O H ρ σ) {i:Nat} (hi:i < X.N.length) {a:Addr} {ds:List D} (sm:Same H H') (hp:H a=none) (hk:X.K.lookup a=none) (ea:H' a=some (.lst (rs.map V.ref))) (nd:rs.Nodup)
  (al:∀r∈rs,H r=none/\X.K.lookup r=none/\r≠a) (rr:dZ X.K O H' rs ds) (er:rowsOf ds=some rows) (hR:(ρ.set i none).all JD=true):
  At X H0 O0 (λ b=>O b\/b∈a::rs) H' (ρ.set i (some (.rws rows))) (σ.set i (some (.ref a)))/\c7 X.K O H (λ b=>O b\/b∈a::rs) H':=by
 have fr:∀b,b∈a::rs->H b=none/\X.K.lookup b=none:=λ b hb=>by
  rcases List.mem_cons.mp hb with z |z
  ·rw[z];exact⟨hp,hk⟩
  ·exact⟨(al b z).1,(al b z).2.1⟩
 have r1:c7 X.K O H (λ b=>O b\/b∈a::rs) H':=⟨(Same.dg (K:=X.K) (O:=O) sm).ext,λ b z=>z.elim .inl λ e=> .inr (fr b e),(Same.dg (K:=X.K) (O:=O) sm).dom⟩;have h1:i < ρ.length:=by rw[j.inn.jU];exact hi
 have h2:i < σ.length:=by rw[j.inn.len];exact hi
 obtain⟨hl,hrow⟩:=Wr rr er;have RR:zF X.K (λ b=>O b\/b∈a::rs) H' rows a rs:=⟨ea,.inr (List.mem_cons_self ..),List.nodup_cons.mpr ⟨λ z=>(al a z).2.2 rfl,nd⟩,hl,λ n r row z1 z2=>
  let ⟨c,xs,q1,q2⟩:=hrow n r row z1 z2
  ⟨.inr (z2f _ (List.mem_of_getElem? z1)),xs,q1,JF c q2⟩⟩
 have nown:∀{k:Nat} {e:Ent} {v:V} {b:Addr},ρ[k]?=some (some e)->e.own=true->σ[k]?=some (some v)->b∈a::rs->v≠.ref b:=λ {k e v b} h ho hs hb z=>by
  obtain⟨v',q1,q2⟩:=j.inn.env.get k e h;rw[hs] at q1;cases q1;obtain⟨c,o,e1,e2⟩:=Zm ho q2;rw[z] at e1;cases e1;rw[(fr b hb).1] at e2;cases e2
 refine⟨⟨j.same.trans sm,j.dg.trans r1,λ b z=> .inl (j.sub b z),⟨⟨λ k e h=>?_,λ k l e e' v hkl hk' hl' ok ol sk sl=>?_,λ k l rw' b bs e v hkl hk' sk hb hl' ol sl=>?_⟩,λ b z=>?_,by rw[List.length_set];exact j.inn.len,by rw[List.length_set];exact j.inn.jU⟩,λ k e b h hoo hs=>?_,λ k rw' b bs h hs hb=>?_⟩,r1⟩
 ·by_cases hki:k=i
  ·subst hki;rw[z2a h1] at h;cases h;exact⟨.ref a,z2a h2,a,rs,rfl,RR⟩
  ·rw[z1e (Ne.symm hki)] at h;obtain⟨v,q1,q2⟩:=j.inn.env.get k e h;refine⟨v,by rw[z1e (Ne.symm hki)];exact q1,?_⟩;cases e with
   |val d=>exact Rep.go r1 q2
   | lst ds=>
    obtain⟨a,xs,e1,o1,e2,r⟩:=q2;exact⟨a,xs,e1,.inl o1,sm _ _ e2,r.go r1⟩
   |obj t=>exact lO.same sm q2
   | qj kvs=>
    obtain⟨a,xs,e1,o1,e2,k,r⟩:=q2;exact⟨a,xs,e1,.inl o1,sm _ _ e2,k,r.go r1⟩
   |rws Yc=>exact (uU hR hki h).elim
 ·by_cases hki:k=i
  ·subst hki;rw[z2a h2] at sk;cases sk;rw[z1e hkl] at hl' sl;exact nown hl' ol sl (List.mem_cons_self ..) rfl
  ·rw[z1e (Ne.symm hki)] at hk' sk;by_cases hli:l=i
   ·subst hli;rw[z2a h2] at sl;cases sl;exact nown hk' ok sk (List.mem_cons_self ..) rfl
   ·rw[z1e (Ne.symm hli)] at hl' sl;exact j.inn.env.sep k l e e' v hkl hk' hl' ok ol sk sl
 ·by_cases hki:k=i
  ·subst hki;rw[z2a h2] at sk;cases sk;rw[ea] at hb;rw[<-jq (HO.lst.inj (Option.some.inj hb))];rw[z1e hkl] at hl' sl;exact⟨λ r hr=>nown hl' ol sl (z2f _ hr),λ rows' z=>by rw[z] at hl';exact uU hR (Ne.symm hkl) hl'⟩
  ·rw[z1e (Ne.symm hki)] at hk';exact (uU hR hki hk').elim
 ·rcases z with z |z
  ·obtain⟨u,q⟩:=j.inn.al b z;exact⟨u,sm _ _ q⟩
  ·rcases List.mem_cons.mp z with z |z
   ·rw[z];exact⟨_,ea⟩
   ·obtain⟨zs,q⟩:=rr.there b z;exact⟨_,q⟩
 ·by_cases hki:k=i
  ·subst hki;rw[z2a h2] at hs;cases hs;exact⟨j.same.free hp,λ z=>j.inn.lQ hp (j.sub _ z)⟩
  ·rw[z1e (Ne.symm hki)] at h hs;exact j.mine k e b h hoo hs
 ·by_cases hki:k=i
  ·subst hki;rw[z2a h2] at hs;cases hs;rw[ea] at hb;rw[<-jq (HO.lst.inj (Option.some.inj hb))];exact λ r hr=>⟨j.same.free (al r hr).1,λ z=>j.inn.lQ (al r hr).1 (j.sub _ z)⟩
  ·rw[z1e (Ne.symm hki)] at h;exact (uU hR hki h).elim
end
section
variable {X:Cx} {pos:Pos}
theorem Zn {α:Type} {xs:List α} {y:Int} {v:α} (h0:0<=y) (h:xs[y.toNat]?=some v):L2.atI xs y=some v:=by
 have:=(z1b h).1;unfold L2.atI ixN;rw[if_pos h0,if_pos (by omega)];exact h
def Bw (i:Nat) (fy fk fv:ao->R D):ao->So:=λ ρ=>match ρ[i]?,fy ρ,fk ρ,fv ρ with
 | some (some (.rws rows)),.ok (.int y),.ok (.int k),.ok d=>match rows[y.toNat]? with
  |some row=>if 0<=y/\0<=k/\k < row.length then .nx (ρ.set i (some (.rws (rows.set y.toNat (row.set k.toNat d))))) else .bad
  |none=> .bad
 |_,_,_,_=> .bad
theorem Ws (i:Nat) {t:Str} {ey ek ev:Expr} {fy fk fv:ao->R D} {pt ps pos':Pos} (hy:DE X ey fy) (hk:DE X ek fk) (hv:DE X ev fv) (hN:X.N[i]?=some t:=by rfl)
  (hvt:Vis X.env.scope t:=by first |exact Or.inl rfl |exact Or.inr (Or.inl rfl) |exact Or.inr (Or.inr rfl))
  (hd:(t ==("__debug__" :Str))=false:=by decide) (hcd:(t ==("__classdict__" :Str))=false:=by decide)
  (hp:PlainIx ey:=by exact λ _ _=>rfl)
  (ha:∀v,assign (.Subscript (.Subscript (.Name t pt) ey ps) ek pos') X.env v=(do
   let ov <-holding [v] (eval (.Subscript (.Name t pt) ey ps) X.env)
   let iv <-holding [v,ov] (eval ek X.env)
   standAt pos'
   holding [v,ov,iv] (setItem ov iv v)
   release [v,ov,iv] []):=by intro _;rfl)
  (hs:swapsWithSole [.Subscript (.Subscript (.Name t pt) ey ps) ek pos'] ev pos.line X.env=pure false:=by rfl) (hw:swappedStores [.Subscript (.Subscript (.Name t pt) ey ps) ek pos'] ev X.env=pure none:=by rfl)
  (h1:(assignEach [.Subscript (.Subscript (.Name t pt) ey ps) ek pos'] X.env).map (·.2)=[assign (.Subscript (.Subscript (.Name t pt) ey ps) ek pos') X.env]:=by rfl):
  DS X (.Assign [.Subscript (.Subscript (.Name t pt) ey ps) ek pos'] ev pos) (Bw i fy fk fv):=by
 refine PS.imp (ps_asg hv (pg_sub (pe_ix ix_seq (pe_var hN hvt hd hcd) hy hp) hk set_list ha) hs hw h1) λ σ H E h=>?_;obtain⟨H0,O0,O,ρ,j,h⟩:=h;unfold Bw at h;split at h
 ·rename_i rows y k d e1 e2 e3 e4;split at h
  ·rename_i row e5;by_cases hc:0<=y/\0<=k/\k < row.length
   ·rw[if_pos hc] at h;refine⟨ρ,O,j.inn,?_⟩;rw[e4];intro v H1 s1 rv;obtain⟨w,hw1,a,rs,rfl,R⟩:=j.inn.env.get i _ e1;refine⟨.ref a,hw1,ρ,O,(j.grow s1).inn,?_⟩;rw[e2];intro vy H2 s2 ry;rw[ry.int];have R2:=(R.same s1).same s2;have j2:=(j.grow s1).grow s2;have hyl:y.toNat < rs.length:=by rw[R.len];exact (z1b e5).1
    obtain⟨r,er⟩:∃r,rs[y.toNat]?=some r:=⟨_,List.getElem?_eq_getElem hyl⟩;refine .inl ⟨a,rs.map V.ref,y,.ref r,rfl,rfl,SqL.of R2.at_,Zn hc.1 (by rw[z2b,er];rfl),ρ,O,j2.inn,?_⟩;rw[e3];intro vk H3 s3 rk;have R3:=R2.same s3;have j3:=j2.grow s3;obtain⟨oR,xs,hH,rx⟩:=R3.row y.toNat r row er e5;have hlen:=rx.length;refine⟨r,xs,k,k.toNat,rfl,rk.int,hH,by unfold ixN;rw[if_pos hc.2.1,if_pos (by omega)],?_⟩;obtain⟨j4,r4⟩:=j3.adl (Qw:=row.set k.toNat d) (xs':=xs.set k.toNat v) e1 hw1 R3 er e5 hH (aJ.set ((rv.same s2).same s3) k.toNat rx);exact h _ _ _ j4 ((Same.dg ((s1.trans s2).trans s3)).trans r4)
   ·rw[if_neg hc] at h;exact h.elim
  ·exact h.elim
 ·exact h.elim
end
section
variable {X:Cx}
end
section
variable {X:Cx}
abbrev ReT:=Hp->(Addr->Prop)->Hp->D->V->Prop
abbrev zY:=D->Nat->ao->Option ao
structure Kd (X:Cx) (Re:ReT) (put:zY):Prop where
 step:∀{H0:Hp} {O0 O:Addr->Prop} {H H':Hp} {ρ ρ':ao} {σ:St} {i:Nat} {d:D} {v:V},At X H0 O0 O H ρ σ->i < X.N.length->Same H H'->Re H O H' d v->put d i ρ=some ρ'->∃O',At X H0 O0 O' H' ρ' (σ.set i (some v))/\c7 X.K O H O' H'/\∀a,O a->O' a
def aa5:zY:=λ d i ρ=>match d with
 | .lst ds=>some (ρ.set i (some (.lst ds)))
 |_=>none
def JG:zY:=λ d i ρ=>match d with
 | .lst ds=>match rowsOf ds with
  |some rows=>if (ρ.set i none).all JD then some (ρ.set i (some (.rws rows))) else none
  |none=>none
 |_=>none
theorem aa6:Kd X (reF X.K) aa5:=⟨λ {H0 O0 O H H' ρ ρ' σ i d v} j hi sm r e=>by
 obtain⟨a,ys,ds,rfl,rfl,n1,k1,e3,r⟩:=r;cases e;obtain⟨j2,r2⟩:=j.aa2 hi sm n1 k1 e3 r;exact⟨_,j2,r2,λ _ z=> .inl z⟩⟩
theorem aa7:Kd X (reN X.K) JG:=⟨λ {H0 O0 O H H' ρ ρ' σ i d v} j hi sm r e=>by
 obtain⟨a,rs,ds,rfl,rfl,n1,k1,e3,nd,al,rr⟩:=r;unfold JG at e;simp only at e;cases e4:rowsOf ds with
 |none=>rw[e4] at e;cases e
 | some rows=>
  rw[e4] at e;by_cases c:(ρ.set i none).all JD=true
  ·simp only[if_pos c] at e;cases e;obtain⟨j2,r2⟩:=j.adn hi sm n1 k1 e3 nd al rr e4 c;exact⟨_,j2,r2,λ _ z=> .inl z⟩
  ·simp only[if_neg c] at e;cases e⟩
theorem In.wide {O O':Addr->Prop} {H H':Hp} {ρ:ao} {σ:St} (j:In X O H ρ σ) (sm:Same H H') (rc:c7 X.K O H O' H') (w:∀a,O a->O' a) (al:∀a,O' a->∃o,H' a=some o):In X O' H' ρ σ:=by
 have j1:=j.same sm;refine⟨⟨λ k e h=>?_,j.env.sep,j1.env.lg⟩,al,j.len,j.jU⟩;obtain⟨v,q1,q2⟩:=j.env.get k e h;refine⟨v,q1,?_⟩;cases e with
 |val d=>exact Rep.go rc q2
 | lst ds=>
  obtain⟨a,xs,e1,o1,e2,r⟩:=q2;exact⟨a,xs,e1,w _ o1,sm _ _ e2,r.go rc⟩
 |obj t=>exact lO.same sm q2
 | qj kvs=>
  obtain⟨a,xs,e1,o1,e2,k,r⟩:=q2;exact⟨a,xs,e1,w _ o1,sm _ _ e2,k,r.go rc⟩
 | rws rows=>
  obtain⟨a,rs,e1,R⟩:=q2;exact⟨a,rs,e1,sm _ _ R.at_,w _ R.oa,R.nd,R.len,λ i r row z1 z2=>let ⟨o1,xs,q3,q4⟩:=R.row i r row z1 z2;⟨w _ o1,xs,sm _ _ q3,q4.go rc⟩⟩
def yK (p q:zY) (i k:Nat) (f g:ao->R D):ao->So:=λ ρ=>fQ (f ρ) ρ λ d=>match p d i ρ with
 |none=> .bad
 | some ρ1=>fQ (g ρ) ρ λ e=>match q e k ρ1 with
  |none=> .bad
  |some ρ2=> .nx ρ2
section
variable {R1 R2 R3:ReT} {p q r:zY} {i k l:Nat} {f g u:ao->R D} {H0 H:Hp} {O0 O:Addr->Prop} {ρ:ao} {σ:St} {E:Ends}
theorem Tn {P:V->V->Hp->Prop} (K1:Kd X R1 p) (K2:Kd X R2 q) (hi:i < X.N.length) (hk:k < X.N.length) (j:At X H0 O0 O H ρ σ) (h:qD X H0 O0 O H E (yK p q i k f g ρ))
  (fin:∀v w H2,(∀H3,Same H2 H3->E.nx ((σ.set i (some v)).set k (some w)) H3)->P v w H2):X5 X R1 f σ H λ v H1=>X5 X R2 g σ H1 λ w H2=>P v w H2:=by
 refine⟨ρ,O,j.inn,?_⟩;unfold yK at h;cases e1:f ρ with
 |bad=>rw[e1] at h;exact h
 |err c=>rw[e1] at h;exact h σ H O j
 | ok d =>
  rw[e1] at h;simp only[fQ] at h;cases e2:p d i ρ with
  |none=>simp only[e2] at h;exact h.elim
  | some ρ1=>
   simp only[e2] at h;intro v H1 s1 rv;obtain⟨O1,j1,r1,w1⟩:=K1.step j hi s1 rv e2;refine⟨ρ,O1,j.inn.wide s1 r1 w1 j1.inn.al,?_⟩;cases e3:g ρ with
   |bad=>simp only[e3] at h;exact h
   |err c=>simp only[e3] at h;exact Ar.same (h σ H O j) s1
   | ok e=>
    simp only[e3] at h;cases e4:q e k ρ1 with
    |none=>simp only[e4] at h;exact h.elim
    | some ρ2=>
     simp only[e4] at h;intro w H2 s2 rw2;obtain⟨O2,j2,r2,w2⟩:=K2.step j1 hk s2 rw2 e4;exact fin v w H2 λ H3 s3=>h _ H3 O2 (j2.grow s3) ((r1.trans r2).trans (Same.dg s3))
end
section
variable {R1 R2 R3:ReT} {p q r:zY} {f g u:ao->R D} {a b c:Expr} {pos:Pos}
theorem Wt (i k:Nat) {x y:Str} {px py pt:Pos} {kt k2 pt2} (hc:X.calm=true) (hN:X.N.Nodup) (K1:Kd X R1 p) (K2:Kd X R2 q) (ha:Jm X R1 a f) (hb:Jm X R2 b g) (hi:X.N[i]?=some x:=by rfl) (hk:X.N[k]?=some y:=by rfl) (hik:i≠k:=by decide)
  (hx:X.env.scope.names.lookup x=some .local:=by rfl) (hy:X.env.scope.names.lookup y=some .local:=by rfl)
  (h1:starEach [a,b] X.env=(false,eval a X.env)::starEach [b] X.env:=by rfl) (h2:starEach [b] X.env=(false,eval b X.env)::starEach [] X.env:=by rfl)
  (hw:swappedStores [.Tuple [.Name x px,.Name y py] kt pt] (.Tuple [a,b] k2 pt2) X.env=pure (some [x,y]):=by rfl)
  (hs:swapsWithSole [.Tuple [.Name x px,.Name y py] kt pt] (.Tuple [a,b] k2 pt2) pos.line X.env=pure false:=by rfl):
  DS X (.Assign [.Tuple [.Name x px,.Name y py] kt pt] (.Tuple [a,b] k2 pt2) pos) (yK p q i k f g):=by
 refine PS.imp (ps_par hc hN hi hk hik hx hy (pa_cons ha (pa_cons hb pa_nil h2) h1) hw hs) λ σ H E h=>?_;obtain⟨H0,O0,O,ρ,j,h⟩:=h;exact Tn K1 K2 (z1b hi).1 (z1b hk).1 j h λ v w H2 z=>⟨v,w,rfl,z H2 (Same.refl _)⟩
end
end
section
variable {X:Cx} {pos:Pos}
theorem aJ.erase {O:Addr->Prop} {H:Hp}:∀{ds:List D} {xs:List V} (n:Nat),aJ K O H ds xs->aJ K O H (ds.eraseIdx n) (xs.eraseIdx n)
 | [],_,n,h=>by
  rw[h.nil_inv,List.eraseIdx_nil,List.eraseIdx_nil];exact .nil
 | d ::ds,xs,n,h=>by
  simp only[aJ] at h;obtain⟨x,r,rfl,h2,h3⟩:=h;cases n with
  |zero=>exact h3
  | succ n=>
   simp only[List.eraseIdx_cons_succ,aJ];exact⟨x,_,rfl,h2,aJ.erase n h3⟩
def setPop (i k:Nat) (fp fv:ao->R D):ao->So:=λ ρ=>match ρ[i]?,ρ[k]?,fp ρ,fv ρ with
 | some (some (.lst row)),some (some (.lst left)),.ok (.int p),.ok d=>match left[p.toNat]? with
  |some (.int c)=>if 0<=p/\p < 1000000/\0<=c/\c < row.length then .nx ((ρ.set k (some (.lst (left.eraseIdx p.toNat)))).set i (some (.lst (row.set c.toNat d)))) else .bad
  |_=> .bad
 |_,_,_,_=> .bad
theorem Tp (i k:Nat) {x y:Str} {ep ev:Expr} {fp fv:ao->R D} {px py apos cpos pos':Pos} (hp:DE X ep fp) (hv:DE X ev fv) (hN:X.N[i]?=some x:=by rfl) (hK:X.N[k]?=some y:=by rfl) (hik:i≠k:=by decide)
  (hvx:Vis X.env.scope x:=by first |exact Or.inl rfl |exact Or.inr (Or.inl rfl) |exact Or.inr (Or.inr rfl)) (hvy:Vis X.env.scope y:=by first |exact Or.inl rfl |exact Or.inr (Or.inl rfl) |exact Or.inr (Or.inr rfl))
  (hd:(x ==("__debug__" :Str))=false:=by decide) (hcd:(x ==("__classdict__" :Str))=false:=by decide) (RQ:(y ==("__debug__" :Str))=false:=by decide) (ado:(y ==("__classdict__" :Str))=false:=by decide)
  (hbase:attributeBase (.Name y py) "pop" X.env (eval (.Name y py) X.env)=eval (.Name y py) X.env:=by rfl)
  (hfew:((backTo cpos (starEach [ep] X.env)).all (λ x=> !x.1) && (backToKw cpos (keywordEach [] X.env)).all (λ x=>x.1.isSome)
   && decide ([ep].length+([]:List Keyword).length+(if ([]:List Keyword).isEmpty then 0 else 1) < 30))=true:=by rfl)
  (hline:(apos.endLine ==cpos.line)=true:=by rfl) (hs1:starEach [ep] X.env=(false,eval ep X.env)::starEach [] X.env:=by rfl) (hplain:(backTo cpos (starEach [] X.env)).any (·.1)=false:=by rfl)
  (ha:∀v,assign (.Subscript (.Name x px) (.Call (.Attribute (.Name y py) "pop" apos) [ep] [] cpos) pos') X.env v=(do
   let ov <-holding [v] (eval (.Name x px) X.env)
   let iv <-holding [v,ov] (eval (.Call (.Attribute (.Name y py) "pop" apos) [ep] [] cpos) X.env)
   standAt pos'
   holding [v,ov,iv] (setItem ov iv v)
   release [v,ov,iv] []):=by intro _;rfl)
  (hs:swapsWithSole [.Subscript (.Name x px) (.Call (.Attribute (.Name y py) "pop" apos) [ep] [] cpos) pos'] ev pos.line X.env=pure false:=by rfl) (hw:swappedStores [.Subscript (.Name x px) (.Call (.Attribute (.Name y py) "pop" apos) [ep] [] cpos) pos'] ev X.env=pure none:=by rfl)
  (h1:(assignEach [.Subscript (.Name x px) (.Call (.Attribute (.Name y py) "pop" apos) [ep] [] cpos) pos'] X.env).map (·.2)=[assign (.Subscript (.Name x px) (.Call (.Attribute (.Name y py) "pop" apos) [ep] [] cpos) pos') X.env]:=by rfl):
  DS X (.Assign [.Subscript (.Name x px) (.Call (.Attribute (.Name y py) "pop" apos) [ep] [] cpos) pos'] ev pos) (setPop i k fp fv):=by
 refine PS.imp (ps_asg hv (pg_sub (pe_var hN hvx hd hcd) (pe_bm PySem.F.plainAttrs_list PySem.F.slot_list_pop PySem.F.type_list_pop mt_popAt (pe_var hK hvy RQ ado) (pa_cons hp pa_nil hs1) hbase hfew hline hs1 hplain) set_list ha) hs hw h1) λ σ H E h=>?_;obtain⟨H0,O0,O,ρ,j,h⟩:=h;unfold setPop at h;split at h
 ·rename_i row left p d e1 e2 e3 e4;split at h
  ·rename_i c e5;by_cases hc:0<=p/\p < 1000000/\0<=c/\c < row.length
   ·rw[if_pos hc] at h;refine⟨ρ,O,j.inn,?_⟩;rw[e4];intro v H1 s1 rv;have j1:=j.grow s1;obtain⟨_,hx1,a,xs,rfl,hOa,hHa,ra⟩:=j1.inn.env.get i _ e1;obtain⟨_,hy1,b,ys,rfl,hOb,hHb,rb⟩:=j1.inn.env.get k _ e2;refine⟨.ref a,hx1,.ref b,hy1,.inl ⟨rfl,ys,SqL.of hHb⟩,ρ,O,j1.inn,?_⟩;rw[e3];intro vp H2 s2 rp;rw[rp.int];have j2:=j1.grow s2;have rb2:=rb.same s2;have hl:=rb2.length;have hpl:=(z1b e5).1;obtain⟨z,hz,rz⟩:=rb2.get e5;have hz2:=rz.int;subst hz2;have hix:ixN ys.length p=some p.toNat:=by unfold ixN;rw[if_pos hc.1,if_pos (by omega)]
    refine⟨b,ys,p,p.toNat,.int c,rfl,rfl,s2 _ _ hHb,by omega,by omega,(ixN_seq hix).1,hz,?_⟩;obtain⟨j3,r3⟩:=j2.chg (o:= .lst (ys.eraseIdx p.toNat)) (en:= .lst (left.eraseIdx p.toNat)) e2 rfl hy1 hOb (s2 _ _ hHb) trivial rfl λ r=>⟨b,_,rfl,hOb,upd_same,(aJ.erase p.toNat rb2).go r⟩;have e1':(ρ.set k (some (.lst (left.eraseIdx p.toNat))))[i]?=some (some (.lst row)):=by rw[z1e (Ne.symm hik)];exact e1
    obtain⟨_,hx3,a3,wH,e6,hO3,hH3,ra3⟩:=j3.inn.env.get i _ e1';rw[hx1] at hx3;cases hx3;cases e6;have hl3:=ra3.length;refine⟨a,wH,c,c.toNat,rfl,rfl,hH3,by unfold ixN;rw[if_pos hc.2.2.1,if_pos (by omega)],?_⟩;obtain⟨j4,r4⟩:=j3.chg (o:= .lst (wH.set c.toNat v)) (en:= .lst (row.set c.toNat d)) e1' rfl hx1 hO3 hH3 trivial rfl λ r=>⟨a,_,rfl,hO3,upd_same,(aJ.set ((rv.same s2).go r3) c.toNat ra3).go r⟩;exact h _ _ _ j4 (((Same.dg (s1.trans s2)).trans r3).trans r4)
   ·rw[if_neg hc] at h;exact h.elim
  ·exact h.elim
 ·exact h.elim
end
end Pu
namespace PyProof.Rows
open PySem PySem.Spec
section
variable {prog:Program} {w:World} {A:Around} {E:Value->Shared->Prop} {s:Shared}
theorem LQ {l:Addr} {vs:List Value} {Q:List Value->Shared->Prop} (hl:IsTup s.heap l vs.toArray)
  (h:Q vs {s with heap:=(s.heap.push (seqObj "list" #[] 0)).update s.heap.objs.size (Obj.mapSeq (· ++vs.toArray))}) (hsz:vs.length<=sizeLine):
  wpAny (model prog w) A (collect (.ref l)) Q E s:=by
 obtain⟨o,ho,hc,n,hd⟩:=id hl;unfold collect;refine wpAny_bind (wpAny_runValue (codeAny_builtin entry_proto_collect' ?_));show wpAny _ _ (do again (.builtin "list.__iadd__" ⟨[<-newList [],.ref l],[]⟩)) _ _ s;refine wpAny_bind (wpAny_newList (wpAny_pure ⟨Code.quiet_builtin _ (by decide +kernel),codeAny_builtin entry_list_iadd' ?_⟩));show wpAny _ _ (Builtin.List.listExtendWith (.ref s.heap.objs.size) (.ref l) (.ref s.heap.objs.size)) _ _ {s with heap:=s.heap.push (seqObj "list" #[] 0)};unfold Builtin.List.listExtendWith;have ho':(s.heap.push (seqObj "list" #[] 0)).get? l=some o:=z1a _ ho;refine wpAny_bind (wpAny_typeOf (T:= "tuple") ⟨o,ho',hc⟩ ?_);have ht:(Value.type "tuple" ==Value.type "tuple")=true:=by rfl
 rw[if_pos (by rw[ht];simp)];refine wpAny_bind (listItems_at ho' hd ?_);refine wpAny_bind (listItems_at (xs:= #[]) (n:=0) (z1f _ rfl) rfl ?_);rw[if_neg (by simp)];refine wpAny_bind (listUpdate_at (xs:= #[]) (n:=0) (z1f _ rfl) rfl ?_ (Nat.zero_le _) (by show (#[]++vs.toArray).size<=sizeLine+1;simp only[Array.size_append,z1c,List.length_nil];omega));refine wpAny_pure ?_;show wpAny (model prog w) A (do
   let o <-load s.heap.objs.size
   match o.data with
   | .seq xs _=>pure xs.toList
   |_=>unsupported "internal:collect") Q E {s with heap:=(s.heap.push (seqObj "list" #[] 0)).update s.heap.objs.size (Obj.mapSeq (· ++vs.toArray))}
 refine wpAny_bind (wpAny_load (get?_update_seq (z1f _ rfl) _) ?_);show wpAny _ _ (pure ((#[]:Array Value)++vs.toArray).toList) Q E _;rw[show ((#[]:Array Value)++vs.toArray).toList=vs by simp];exact wpAny_pure h
theorem Qx {l:Addr} {vs:List Value} {ns:List Int} {Q:Value->Shared->Prop} (hl:IsTup s.heap l vs.toArray) (hI:IntsAre vs ns) (h64:vs.length < 64)
  (h:∀(out:Array Value) (ns':List Int),IntsAre out.toList ns'->ns'.Perm ns->ns'.Pairwise (· <= ·)->Q (.ref (s.heap.objs.size+1)) {s with heap:=sortedAll s.heap vs out}):
  wpAny (model prog w) A (call (.builtin "sorted") [.ref l]) Q E s:=by
 refine Calls.call_function_entry kind_sorted plain_sorted entry_sorted (args_sorted1 _) ?_;unfold Builtin.«sorted»;refine wpAny_bind (m:=checkCount "sorted" 1 1 _) (wpAny_pure ?_);refine wpAny_bind (LQ hl ?_ (by rw[sizeLine_eq];omega));refine wpAny_bind (wpAny_newList ?_);have hsz:((s.heap.push (seqObj "list" #[] 0)).update s.heap.objs.size (Obj.mapSeq (· ++vs.toArray))).objs.size=s.heap.objs.size+1:=by
  rw[Heap.size_update,size_push']
 have hoL:(((s.heap.push (seqObj "list" #[] 0)).update s.heap.objs.size (Obj.mapSeq (· ++vs.toArray))).push (seqObj "list" vs.toArray 0)).get? (s.heap.objs.size+1)=some (seqObj "list" vs.toArray 0):=by
  rw[<-hsz];exact z1f _ rfl
 show wpAny _ _ _ _ _ {s with heap:=((s.heap.push (seqObj "list" #[] 0)).update s.heap.objs.size (Obj.mapSeq (· ++vs.toArray))).push (seqObj "list" vs.toArray 0)};rw[hsz];refine wpAny_bind (wpAny_holding (wpAny_call_entry slot_list_sort ⟨_,hoL,rfl⟩ entry_list_sort (list_sort_tree hoL hI h64 λ out ns' a1 a2 a3=>⟨_,rfl,?_⟩) (args_list_sort _)));exact wpAny_pure ⟨_,rfl,h out ns' a1 a2 a3⟩
end
end PyProof.Rows
namespace Pu
open PySem PySem.Spec L2
open PyProof.Rows hiding St
section
variable {X:Cx}
theorem Qy:CallR X (.builtin "sorted") (λ xs H Q=>∃(a:Addr) (ns:List Int),xs=[.ref a]/\SqT X.K H a (ns.map V.int)/\ns.length < 64/\∀B,H B=none->Q (.ref B) (upd H B (.lst ((FJ ns).map V.int)))):=by
 intro pins s σ H xs us Q I r h;obtain⟨a,ns,rfl,hq,h64,q⟩:=h;obtain⟨u,rfl,rx⟩:=vals1 r;cases rx;obtain⟨its,rv,p,hz⟩:=I.tuple hq;have hI:=Dn rv;have hl:=rv.length;rw[z1g] at hl;refine Qx p hI (by omega) λ out ns' a1 a2 a3=>?_;have e:=Jj a2 a3;subst e;obtain⟨c,he⟩:=sortedAll_at s.heap its out;have hf:H (s.heap.objs.size+1)=none:=I.hok.fresh (Nat.le_succ _);refine⟨.ref (s.heap.objs.size+1),upd H (s.heap.objs.size+1) (.lst ((FJ ns).map V.int)),I.laid (t':=s.toks) (λ b o e=>sortedAll_old e) (Nat.le_succ _) ?_,rfl,q _ hf⟩;refine⟨?_,out.toList,c,Nv a1,by simpa using he⟩;rw[z1g,a2.length_eq];exact z0b (by omega) (z0e dX)
def wW:List D->R D
 | [.tup es]=>match intsOf es with
  |some ns=>if ns.length < 64 then .ok (.lst ((FJ ns).map .int)) else .bad
  |none=> .bad
 |_=> .bad
theorem Wu:CallD X (.builtin "sorted") wW:=by
 refine⟨_,Qy,λ ρ O σ H Q xs ds j r h=>?_⟩;unfold wW at h;split at h
 ·rename_i es;obtain⟨x,rfl,rx⟩:=r.one;obtain⟨a,ys,rfl,hq,rs⟩:=rx.tup;cases e:intsOf es with
  |none=>rw[e] at h;exact h.elim
  | some ns=>
   rw[e] at h;have h:good X (rD X) O (if ns.length < 64 then R.ok (.lst ((FJ ns).map .int)) else .bad) σ H Q:=h;by_cases hl:ns.length < 64
   ·rw[if_pos hl] at h;have e2:=wK e rs;subst e2;exact⟨a,ns,rfl,hq,hl,λ B hB=>h _ _ (Same.upd hB) (Rep.jr hB (j.lQ hB) qK)⟩
   ·rw[if_neg hl] at h;exact h.elim
 ·exact h.elim
end
end Pu
namespace PySem
open AutoSeq1 (wpAny_loadPart')
open MeetsSeq MeetsSeq2 SeqAt
theorem Dw {M:Model} {A:Around} {E:Value->Shared->Prop} {s:Shared} {β:Type} (f:Nat->β->Sem (ForInStep β)) (N:Nat) (I:Nat->β->Shared->Prop) (Q:β->Shared->Prop)
  (turn:∀i b s,i < N->I i b s->wpAny M A (f i b) (λ r s'=>match r with | .yield b'=>I (i+1) b' s' | .done b'=>Q b' s') E s)
  (fin:∀b s,I N b s->Q b s) (b:β) (h:I 0 b s):wpAny M A (forIn [:N] b f) Q E s:=by
 rw[Std.Legacy.Range.forIn_eq_forIn_range'];simp only[Std.Legacy.Range.size,Nat.sub_zero,Nat.add_sub_cancel,Nat.div_one];refine wpAny_forIn_list f (λ rest b s'=>∃i,rest=List.range' i (N - i)/\i<=N/\I i b s') Q ?_ ?_ _ b ⟨0,rfl,Nat.zero_le _,h⟩
 ·rintro x rest b s' ⟨i,hr,hi,hI⟩
  have hlt:i < N:=by
   rcases Nat.lt_or_ge i N with z |z
   ·exact z
   ·rw[Nat.sub_eq_zero_of_le z] at hr;cases hr
  have e:N - i=(N - (i+1))+1:=by omega
  rw[e,List.range'_succ] at hr;injection hr with h1 h2;subst h1;refine wpAny_mono (turn x b s' hlt hI) (λ r s2 q=>?_) λ _ _ z=>z;cases r with
  |yield b'=>exact⟨x+1,h2,hlt,q⟩
  |done b'=>exact q
 ·rintro b s' ⟨i,hr,hi,hI⟩
  have:i=N:=by
   rcases Nat.lt_or_ge i N with z |z
   ·have e:N - i=(N - (i+1))+1:=by omega
    rw[e,List.range'_succ] at hr;cases hr
   ·omega
  subst this;exact fin b s' hI
theorem Tq (l:Addr) (items:Array Value) (n:Nat) (dd:Option Addr) (sl:Array (Option Value)) (x:Value) (e:Value->Bool) (j:Nat) (hj:j < items.size)
  (hit:e items[j]=true) (hno:∀m (hm:m < items.size),m < j->e items[m]=false):
  Meets (Builtin.«tuple.index» ⟨[.ref l,x],[]⟩)
   (λ A R s=>s.heap.get? l=some {cls:= .type "tuple",dict:=dd,data:= .seq items n,slots:=sl}/\(∀y,y∈items->EqAt A.in1 s y x (e y))/\R (.ok (.ret (.int j s.toks))) {s with toks:=s.toks+1}):=
 .of_wp λ prog w A R s h=>by
  obtain⟨hp,g,d,tk,os⟩:=s;obtain⟨hl,he,h⟩:=h
  wp_walk using wpAny_loadPart' hl,Dw _ _ (λ i b s'=>b.1=none/\i<=j/\s'=⟨hp,g,d,tk,os⟩) _
  case turn=>
   rintro i b s' hi ⟨hb,hij,rfl⟩
   have hi':i < items.size:=by simpa using hi
   rw[Array.getElem?_eq_getElem hi'];refine wpAny_bind (he _ (Array.getElem_mem hi') prog w _ _ ?_);by_cases hjj:i=j
   ·subst hjj;rw[hit]
    wp_walk
    exact⟨_,rfl,h⟩
   ·rw[hno i hi' (by omega)]
    wp_walk
    exact⟨rfl,by omega,rfl⟩
  case fin=>
   rintro b s' ⟨hb,hij,rfl⟩
   simp at hij;omega
  case h=>
   exact⟨rfl,Nat.zero_le _,rfl⟩
end PySem
namespace Pu
open PySem PySem.Spec L2 PySem.SeqAt
open PyProof.Rows hiding St
section
variable {X:Cx} {e1 e2:Expr} {f g:ao->R D}
theorem Tr (hu:X.A.units+60 < cLine):MtR X "tuple.index" (λ x xs H Q=>∃(l:Addr) (ds:List D) (vs:List V) (O O':Addr->Prop) (d:D) (y:V),x= .ref l/\xs=[y]/\SqT X.K H l vs/\aJ X.K O H ds vs/\Rep X.K O' H d y/\(∀d'∈ds,dep d'<=40)/\ds.findIdx (cP · d) < ds.length/\Q (.int (ds.findIdx (cP · d):Nat)) H):=by
 intro pins s σ H x xs v us Q I rx rv h;obtain⟨l,ds,vs,O,O',d,y,rfl,rfl,hq,rs,re,hd,hlt,q⟩:=h;cases rx;obtain⟨u,rfl,ru⟩:=rv.one;obtain⟨its,r',pl,hz⟩:=I.tuple hq;obtain⟨⟨cls,dd,data,sl⟩,ho,hc,n,hdt⟩:=id pl;simp only at hc hdt;subst hc hdt;obtain⟨e,he⟩:=Wk (A:=X.A.in1) I re ru (O:=O) λ d' v' w hd' r q=>zM I 40 _ d' hd' (by simp;omega) d v' y w u r re q ru;obtain⟨h1,h2⟩:=he ds vs its rs r' hd;have hlen:its.length=ds.length:=by have:=congrArg List.length h1;simpa using this
 have hat:∀(i:Nat) (hi:i < its.length),e its[i]=cP (ds[i]'(by omega)) d:=λ i hi=>by
  have:=congrArg (λ l=>l[i]?) h1;simp only[z2b,List.getElem?_eq_getElem hi,List.getElem?_eq_getElem (show i < ds.length by omega),Option.map_some] at this;exact Option.some.inj this
 refine call_meets PySem.F.slot_tuple_index ⟨_,ho,rfl⟩ PySem.F.entry_tuple_index (PySem.F.args_tuple_index_2 _ _) (Tq l its.toArray n dd sl u e (ds.findIdx (cP · d)) (by simp;omega) ?_ λ m hm hj=>?_) ⟨ho,λ w hw=>h2 w (by simpa using hw),?_⟩
 ·rw[List.getElem_toArray,hat _ (by omega)];exact List.findIdx_getElem (w:=hlt)
 ·rw[List.getElem_toArray,hat _ (by simpa using hm)];have:=List.not_of_lt_findIdx hj;simpa using this
 ·exact⟨.int _,H,I.tok _,⟨_,rfl⟩,q⟩
def Ij (ds:List D) (d:D):R D:=if ds.all (λ d'=>decide (dep d'<=40))=true/\ds.findIdx (cP · d) < ds.length then .ok (.int (ds.findIdx (cP · d):Nat)) else .bad
def aa8 (f g:ao->R D):ao->R D:=λ ρ=>(f ρ).bind λ x=>match x with
 | .tup ds=>(g ρ).bind λ y=>Ij ds y
 |_=> .bad
theorem Tt {apos cpos:Pos} (hu:X.A.units+60 < cLine) (h1:DE X e1 f) (h2:DE X e2 g)
  (hbase:attributeBase e1 "index" X.env (eval e1 X.env)=eval e1 X.env:=by rfl)
  (hfew:((backTo cpos (starEach [e2] X.env)).all (λ x=> !x.1) && (backToKw cpos (keywordEach [] X.env)).all (λ x=>x.1.isSome)
   && decide ([e2].length+([]:List Keyword).length+(if ([]:List Keyword).isEmpty then 0 else 1) < 30))=true:=by rfl)
  (hline:(apos.endLine ==cpos.line)=true:=by rfl) (hs1:starEach [e2] X.env=(false,eval e2 X.env)::starEach [] X.env:=by rfl) (hplain:(backTo cpos (starEach [] X.env)).any (·.1)=false:=by rfl):
  DE X (.Call (.Attribute e1 "index" apos) [e2] [] cpos) (aa8 f g):=by
 refine PE.imp (pe_bm PySem.F.plainAttrs_tuple PySem.F.slot_tuple_index PySem.F.type_tuple_index (Tr hu) h1 (pa_cons h2 pa_nil hs1) hbase hfew hline hs1 hplain) λ σ H Q h=>?_;obtain⟨ρ,O,j,h⟩:=h;refine go j h λ d v H1 e1 s1 r1 j1 h1=>?_;cases d with
 | tup ds=>
  obtain⟨a,xs,rfl,hq,rs⟩:=r1.tup;refine⟨.inr (.inl ⟨rfl,xs,hq⟩),?_⟩;refine go j1 h1 λ dy y H2 e2 s2 r2 j2 h2=>?_;obtain⟨a',xs',ea,hq',rs'⟩:=(r1.same s2).tup;cases ea;have h2:good X (rD X) O (if ds.all (λ d'=>decide (dep d'<=40))=true/\ds.findIdx (cP · dy) < ds.length then .ok (.int (ds.findIdx (cP · dy):Nat)) else .bad) σ H2 Q:=h2;by_cases hall:ds.all (λ d'=>decide (dep d'<=40))=true/\ds.findIdx (cP · dy) < ds.length
  ·rw[if_pos hall] at h2;exact⟨a,ds,xs',O,O,dy,y,rfl,rfl,hq',rs',r2,λ d m=>of_decide_eq_true (List.all_eq_true.mp hall.1 d m),hall.2,fin h2 (bY _)⟩
  ·rw[if_neg hall] at h2;exact h2.elim
 |_=>exact h1.elim
end
end Pu
namespace Pu
open PySem PySem.Spec L2
open PyProof.Rows hiding St
section
variable {X:Cx} {es:List Expr} {fa:ao->R (List D)} {pos:Pos}
end
section
variable {X:Cx} {a:Expr} {p pos p2 pos2:Pos} {fa:ao->R (List D)}
theorem Qz (hc:X.calm=true):CallR X (.type "list") (λ xs H Q=>∃(b:Addr) (i j:Int),xs=[.ref b]/\H b=some (.rng i j)/\-1000<=i/\i<=1000/\-1000<=j/\j<=1000/\∀B,H B=none->X.K.lookup B=none->Q (.ref B) (upd H B (.lst ((List.range (j - i).toNat).map λ (k:Nat)=>V.int (i+(k:Int)))))):=by
 intro pins s σ H xs us Q I r h;obtain⟨b,i,j,e0,hb,h0,h1,h2,h3,q⟩:=h;subst e0;obtain⟨u,rfl,rx⟩:=vals1 r;cases rx;obtain⟨t,u,v,hr⟩:=(show ObjOk X.prog X.w H s.heap b (.rng i j) from I.hok b _ hb);have hn:Builtin.Range.rangeSize i j 1=(((j - i).toNat:Nat):Int):=by rw[rangeSize_one];split <;> omega
 refine call_list_range (I.ok.hd hc) hr (small_one (by omega) (by omega) (by omega) (by omega)) hn (by omega) λ h' tk acc c' hk he hacc=>?_;have hf:H s.heap.objs.size=none:=I.hok.fresh (z0g _);refine⟨.ref s.heap.objs.size,_,I.laid (t':=tk) (o:= .lst ((List.range (j - i).toNat).map λ (k:Nat)=>V.int (i+(k:Int)))) hk (z0g _) ⟨?_,acc.toList,c',Ge hacc,by simpa using he⟩,rfl,q _ hf (Inv.VB I)⟩;rw[z1g,z2d];exact z0b (by omega) (z0e dX)
theorem Tv (hc:X.calm=true) (hg:Gl X "list") (hm:X.mg "list" =none) (hg2:Gl X "range") (hm2:X.mg "range" =none) (ha:DA X [a] fa) (hs2:starEach [a] X.env=[(false,eval a X.env)]:=by rfl)
  (he:starEach [.Call (.Name "range" p) [a] [] pos] X.env=(false,eval (.Call (.Name "range" p) [a] [] pos) X.env)::starEach [] X.env:=by rfl) (hpl:(backTo pos2 (starEach [] X.env)).any (·.1)=false:=by rfl):
  DEF X (.Call (.Name "list" p2) [.Call (.Name "range" p) [a] [] pos] [] pos2) (aB pP fa):=by
 refine PE.imp (pe_callTy (Qz hc) hg hm boot_list (pa_cons (Jk hg2 hm2 ha hs2) pa_nil he) (by decide) (by decide) he hpl) λ σ H Q q=>?_;obtain⟨ρ,O,j,q⟩:=q;refine go j q λ ds vs H1 e1 s1 r1 j1 h1=>?_;unfold pP at h1;split at h1
 ·obtain⟨x,rfl,rx⟩:=r1.one;rename_i i;by_cases hi:0<=i/\i<=1000
  ·rw[if_pos hi] at h1;refine⟨i,by rw[rx.int],hi.1,hi.2,λ q hq=>⟨q,0,i,rfl,upd_same,by omega,by omega,by omega,hi.2,λ B hB hk=>?_⟩⟩;have s2:Same H1 (upd H1 q (.rng 0 i)):=Same.upd hq;rw[Int.sub_zero];exact h1 _ _ (s2.trans (Same.upd hB)) ⟨B,_,_,rfl,rfl,Same.free (s1.trans s2) hB,hk,upd_same,uT⟩
  ·rw[if_neg hi] at h1;exact h1.elim
 ·exact h1.elim
end
end Pu
namespace wX
open PySem PySem.Spec L2 Pu
open PyProof.Rows hiding St
abbrev gv (n:Nat):ao->R D:=λ ρ=>bD ρ n
abbrev ci (i:Int):ao->R D:=λ _=> .ok (.int i)
abbrev nA:ao->R (List D):=λ _=> .ok []
abbrev tT:ao->R Bool:=λ _=> .ok true
def wY:ao->So:=(aP (bB (bin (ci 7) (gv 1) gj) (aF 3)) (aP (fU (cI (bin (gv 0) (qu nA) tW)) (aP (bB (bin (gv 0) (bin (gv 1) (aB cJ (ak (gv 0) nA)) fJ) bZ) (aF 3)) (aP (bB (bin (gv 1) (aB cJ (ak (gv 0) nA)) fV) (aF 4)) (aP (fU (mX (cI (bin (gv 3) (bin (ci 10) (ci 18) sG) Rv)) (cI (bin (gv 4) (ci 60) ltI))) (aP (bB (bin (gv 3) (bin (ci 10) (ci 18) sG) fV) (aF 5)) (aP (gR (mX (cI (bin (gv 5) (ci 0) rH)) (cI (bin (gv 4) (ci 0) rH))) (aP (bB (bin (gv 5) (ci 1000000) fV) (aF 5)) (bB (bin (gv 4) (ci 1) dU) (aF 4))) 64) (fU (cI (bin (gv 5) (ci 0) rH)) (retS (bin (bin (gv 5) (ci 1000000) fJ) (gv 2) fJ)) So.nx))) So.nx) (bB (bin (gv 3) (bin (ci 6553) (bin (gv 1) (aB cJ (ak (gv 0) nA)) fV) gj) eE) (aF 3))))) So.nx) (aP (bB (bin (bin (bin (bin (gv 3) (ci 2147483563) fJ) (ci 69069) gj) (bin (ci 104723) (bin (gv 1) (ci 1) eE) gj) eE) (ci 2147483563) fJ) (aF 3)) (aP (bB (bin (bin (bin (gv 3) (gv 3) gj) (bin (gv 3) (ci 3) fV) eE) (ci 2147483399) fJ) (aF 3)) (retS (bin (bin (bin (bin (bin (gv 3) (gv 3) gj) (bin (gv 3) (ci 7) fV) eE) (ci 2147483647) fJ) (ci 11) fV) (gv 2) fJ))))))
def bO:List D->R D:=cA 3 wY
def vK:ao->So:=(retS (bin (qu (ak (λ _=> .ok (.str "worth")) (ak (λ _=> .ok (.str "joins")) nA))) (aB (aV bO 3) (ak (gv 0) (ak (gv 1) (ak (ci 2) nA)))) bZ))
def jg:List D->R D:=cA 0 vK
def ug:ao->So:=(aP (Iz 4 5 (bin (qu (ak (ci 2) (ak (ci 5) (ak (ci 100) (ak (ci 10) nA))))) (aB (aV bO 3) (ak (gv 0) (ak (gv 1) (ak (ci 4) nA)))) bZ) nA) (aP (iQ (λ ρ=>((ak (gv 3) nA) ρ).bind gJ) (aF 6) (jV 5 (aB gK (ak (bF 1 [1,2,4,0,6] (λ ρ=>((ak (gv 2) nA) ρ).bind gJ) (aF 0) tT (aB (aV bO 3) (ak (gv 4) (ak (bin (bin (bin (gv 1) (ci 1) eE) (bin (gv 2) (gv 5) gj) eE) (gv 0) eE) (ak (gv 3) nA))))) nA)))) (retS (aB gK (ak (gv 5) nA)))))
def iG:List D->R D:=cA 3 ug
def za:ao->So:=(retS (aB (aV iG 4) (ak (gv 0) (ak (bin (gv 1) (ci 2) eE) (ak (bin (ci 1) (aB (aV bO 3) (ak (gv 0) (ak (gv 1) (ak (gv 2) nA)))) eE) (ak (bin (ci 1) (aB (aV bO 3) (ak (gv 0) (ak (bin (gv 1) (ci 1) eE) (ak (gv 3) nA)))) eE) nA))))))
def kh:List D->R D:=cA 0 za
def Wv:ao->So:=(jV 4 (aB maxD (ak (ci 0) (ak (aB minD (ak (bin (gv 2) (ci 1) dU) (ak (bin (bin (wO 4 (VL (ci 1))) (aB (aV bO 3) (ak (gv 0) (ak (bin (bin (gv 1) (ci 1) cO) (gv 5) cO) (ak (ci 3) nA)))) cO) (ci 1) dU) nA))) nA))))
def Bx:ao->So:=(aP (newL (ak (aB (aV bO 3) (ak (gv 0) (ak (gv 1) (ak (gv 2) nA)))) nA) 4) (aP (iQ (λ ρ=>((ak (bin (gv 3) (ci 1) dU) nA) ρ).bind gJ) (aF 5) Wv) (retS (aB gK (ak (gv 4) nA)))))
def mC:List D->R D:=cA 2 Bx
def BJ:ao->So:=(retS (sH (uL yE (gv 0)) (aaG (uL uN (gv 0)))))
def d7:List D->R D:=cA 0 BJ
def uh:ao->So:=(aP (fU (yR (jw (cI (uL fW (gv 0)))) (jw (cI (aB oZ (ak (bF 1 [] (d9 (gv 0)) (aF 0) tT (aB (aV d7 1) (ak (gv 0) nA))) nA))))) (retS (λ _=> .ok (.bl false))) So.nx) (retS (bin (aB wW (ak (gv 0) nA)) (aB pP (ak (gv 1) nA)) lY)))
def iH:List D->R D:=cA 0 uh
def JH:ao->So:=(aP (fU (yR (jw (cI (uL fW (gv 0)))) (cI (bin (aB cJ (ak (gv 0) nA)) (gv 2) tW))) (retS (λ _=> .ok (.bl false))) So.nx) (aP (fU (jw (cI (aB oZ (ak (bF 1 [1] (d9 (gv 0)) (aF 0) tT (sH (aB (aV d7 1) (ak (gv 0) nA)) (Ax (ci 0) (gv 0) (gv 1) yQ ltI))) nA)))) (retS (λ _=> .ok (.bl false))) So.nx) (retS (aB oZ (ak (bF 1 [0] (λ ρ=>((ak (ci 1) (ak (gv 2) nA)) ρ).bind CZ) (aF 0) tT (bin (aB wD (ak (bin (bin (gv 1) (gv 0) bZ) (bin (gv 1) (bin (gv 0) (ci 1) dU) bZ) dU) nA)) (ci 1) yQ)) nA)))))
def qL:List D->R D:=cA 0 JH
def wZ:ao->So:=(retS (aB cJ (ak (bF 1 [1] (d9 (oM (gv 0) (λ _=> .ok none) (λ ρ=>((aa8 (gv 0) (gv 1)) ρ).bind vH))) (aF 0) (cI (bin (gv 0) (gv 1) rH)) (gv 0)) nA)))
def jH:List D->R D:=cA 0 wZ
def BK:ao->So:=(retS (bF 1 [0] (λ ρ=>((ak (aB cJ (ak (bin (gv 0) (ci 0) bZ) nA)) nA) ρ).bind gJ) (aF 0) tT (aB gK (ak (bF 1 [0] (d9 (gv 1)) (aF 0) tT (aB (aV jH 2) (ak (gv 0) (ak (gv 1) nA)))) nA))))
def mD:List D->R D:=cA 0 BK
def Gg:ao->So:=(retS (sH (uL fW (gv 0)) (Ax (ci 1) (aB cJ (ak (gv 0) nA)) (ci 20) yQ yQ)))
def iM:List D->R D:=cA 0 Gg
def Gh:ao->So:=(retS (sH (aB (aV d7 1) (ak (gv 0) nA)) (Ax (ci 0) (gv 0) (ci 99) yQ yQ)))
def oO:List D->R D:=cA 0 Gh
def JK:ao->So:=(retS (sH (aB (aV iM 1) (ak (gv 0) nA)) (aB oZ (ak (bF 1 [] (d9 (gv 0)) (aF 0) tT (aB (aV oO 1) (ak (gv 0) nA))) nA))))
def qM:List D->R D:=cA 0 JK
def w5:ao->So:=(aP (fU (yR (jw (cI (aB (aV iM 1) (ak (gv 0) nA)))) (jw (cI (aB oZ (ak (bF 1 [] (d9 (gv 0)) (aF 0) tT (aB (aV qM 1) (ak (gv 0) nA))) nA))))) (retS (λ _=> .ok (.bl false))) So.nx) (retS (aB oZ (ak (bF 1 [0] (d9 (gv 0)) (aF 0) tT (bin (aB cJ (ak (gv 0) nA)) (aB cJ (ak (bin (gv 1) (ci 0) bZ) nA)) lY)) nA))))
def gC:List D->R D:=cA 0 w5
def um:ao->So:=(fU (jw (cI (aB (aV gC 1) (ak (gv 0) nA)))) (λ _=> .bad) So.nx)
def iI:List D->R D:=cA 0 um
def Gi:ao->So:=(aP (rM (aB (aV iI 1) (ak (gv 0) nA))) (retS (ig (ak (aB cJ (ak (bin (gv 0) (ci 0) bZ) nA)) (ak (aB cJ (ak (gv 0) nA)) nA)))))
def dD:List D->R D:=cA 0 Gi
def zf:ao->So:=(aP (bB (aB (aV dD 1) (ak (gv 1) nA)) (cD (cF 2 (aQ (aF 2) (aQ (aF 3) nilG))))) (aP (fU (yR (jw (cI (uL fW (gv 0)))) (yR (cI (bin (aB cJ (ak (gv 0) nA)) (gv 3) tW)) (jw (cI (aB oZ (ak (bF 1 [2] (d9 (gv 0)) (aF 0) tT (aB (aV iH 2) (ak (gv 0) (ak (gv 1) nA)))) nA)))))) (retS (λ _=> .ok (.bl false))) So.nx) (retS (aB oZ (ak (bF 2 [3,2] (λ ρ=>((ak (aB (aV mD 1) (ak (gv 0) nA)) nA) ρ).bind kY) (cD (cF 2 (aQ (aF 0) (aQ (aF 1) nilG)))) tT (aB (aV qL 3) (ak (gv 1) (ak (bin (gv 3) (gv 0) dU) (ak (gv 2) nA))))) nA)))))
def fX:List D->R D:=cA 2 zf
def BL:ao->So:=(retS (bin (ig (ak (bin (ig (ak (ci 0) nA)) (aB cJ (ak (bin (gv 0) (ci 0) bZ) nA)) sI) nA)) (aB cJ (ak (gv 0) nA)) sI))
def mF:List D->R D:=cA 0 BL
def vL:ao->So:=(fU (cI (bin (gv 0) (λ _=> .ok (.tup [.str "worth",.str "joins"])) (Nt true))) (λ _=> .bad) So.nx)
def jh:List D->R D:=cA 0 vL
def zj:ao->So:=(aP (Du (aB pP (ak (gv 1) nA)) 2) (aP (Du (bin (qu (ak (ci 0) nA)) (gv 1) Dv) 3) (aP (iQ (λ ρ=>((ak (gv 0) nA) ρ).bind kY) (cD (cF 2 (aQ (aF 4) (aQ (aF 5) nilG)))) (setPop 3 2 (gv 5) (gv 4))) (retS (aB gK (ak (gv 3) nA))))))
def kj:List D->R D:=cA 4 zj
def vM:ao->So:=(retS (aB gK (ak (bF 2 [] (λ ρ=>((ak (gv 0) (ak (gv 1) nA)) ρ).bind zip2) (cD (cF 2 (aQ (aF 0) (aQ (aF 1) nilG)))) tT (bin (gv 0) (gv 1) bZ)) nA)))
def ji:List D->R D:=cA 0 vM
def Tw:ao->So:=(aP (bB (bin (aB cJ (ak (gv 0) nA)) (ci 1) dU) (aF 1)) (retS (bF 1 [1,0] (λ ρ=>((ak (aB cJ (ak (gv 0) nA)) nA) ρ).bind gJ) (aF 0) tT (aB wD (ak (bin (bin (gv 2) (aB maxD (ak (bin (gv 0) (ci 1) dU) (ak (ci 0) nA))) bZ) (bin (gv 2) (aB minD (ak (bin (gv 0) (ci 1) cO) (ak (gv 1) nA))) bZ) dU) nA)))))
def oU:List D->R D:=cA 1 Tw
def w6:ao->So:=(aP (bB (bin (gv 0) (gv 1) bZ) (aF 2)) (aP (bB (bin (gv 0) (aB maxD (ak (bin (gv 1) (ci 1) dU) (ak (ci 0) nA))) bZ) (aF 3)) (aP (bB (bin (aB cJ (ak (gv 2) nA)) (ci 1) dU) (aF 4)) (aP (newL nA 5) (aP (iQ (λ ρ=>((ak (aB (aV oU 1) (ak (gv 2) nA)) nA) ρ).bind kY) (cD (cF 2 (aQ (aF 6) (aQ (aF 7) nilG)))) (aP (bB (bin (gv 7) (aB wD (ak (bin (bin (gv 3) (gv 6) bZ) (bin (gv 2) (aB maxD (ak (bin (gv 6) (ci 1) dU) (ak (ci 0) nA))) bZ) dU) nA)) cO) (aF 8)) (aP (bB (bin (gv 7) (aB wD (ak (bin (bin (gv 3) (gv 6) bZ) (bin (gv 2) (aB minD (ak (bin (gv 6) (ci 1) cO) (ak (gv 4) nA))) bZ) dU) nA)) cO) (aF 9)) (jV 5 (ig (ak (gv 8) (ak (gv 7) (ak (gv 9) nA)))))))) (retS (gv 5)))))))
def jJ:List D->R D:=cA 8 w6
def JL:ao->So:=(aP (bB (aB (aV dD 1) (ak (gv 0) nA)) (cD (cF 2 (aQ (aF 1) (aQ (aF 2) nilG))))) (retS (aB gK (ak (bF 1 [2,0] (λ ρ=>((ak (gv 1) nA) ρ).bind gJ) (aF 0) tT (aB gK (ak (bF 1 [2,0] (λ ρ=>((ak (gv 1) nA) ρ).bind gJ) (aF 0) tT (bin (bin (gv 1) (gv 0) bZ) (gv 2) bZ)) nA))) nA))))
def qN:List D->R D:=cA 2 JL
def JM:ao->So:=(aP (bB (aB (aV dD 1) (ak (gv 0) nA)) (cD (cF 2 (aQ (aF 1) (aQ (aF 2) nilG))))) (aP (bB (bF 1 [] (d9 (gv 0)) (aF 0) tT (aB (aV oU 1) (ak (gv 0) nA))) (aF 3)) (aP (bB (bF 1 [] (d9 (aB (aV qN 1) (ak (gv 0) nA))) (aF 0) tT (aB (aV oU 1) (ak (gv 0) nA))) (aF 4)) (retS (aB gK (ak (bF 1 [3,4,1] (λ ρ=>((ak (gv 2) nA) ρ).bind gJ) (aF 0) tT (aB gK (ak (bF 1 [1,2,0] (λ ρ=>((ak (gv 3) nA) ρ).bind gJ) (aF 0) tT (bin (bin (bin (gv 1) (gv 3) bZ) (gv 0) bZ) (bin (bin (gv 2) (gv 0) bZ) (gv 3) bZ) cO)) nA))) nA))))))
def qO:List D->R D:=cA 4 JM
def Oa:ao->So:=(aP (fU (cI (bin (gv 1) (λ _=> .ok (.str "worth")) lY)) (retS (bF 1 [] (d9 (aB (aV qO 1) (ak (gv 0) nA))) (aF 0) tT (bF 1 [] (d9 (gv 0)) (aF 0) tT (ig (ak (gv 0) (ak (gv 0) (ak (gv 0) nA))))))) So.nx) (retS (bF 1 [0] (λ ρ=>((ak (aB cJ (ak (gv 0) nA)) nA) ρ).bind gJ) (aF 0) tT (aB (aV jJ 2) (ak (gv 1) (ak (gv 0) nA))))))
def nD:List D->R D:=cA 0 Oa
def Gj:ao->So:=(retS (bin (bin (gv 0) (gv 2) bZ) (bin (bin (gv 1) (gv 2) dU) (ci 1) cO) bZ))
def gZ:List D->R D:=cA 0 Gj
def Tz:ao->So:=(retS (aB Qv (ak (aB maxD (ak (bin (gv 0) (ci 1) dU) (ak (ci 0) nA))) (ak (aB minD (ak (bin (gv 0) (ci 2) cO) (ak (gv 1) nA))) nA))))
def xg:List D->R D:=cA 0 Tz
def onB:ao->So:=(aP (bB (aB (aV gZ 3) (ak (gv 1) (ak (gv 2) (ak (gv 4) nA)))) (aF 5)) (zV 3 (bF 3 [5] (d9 (bin (gv 0) (gv 4) bZ)) (cD (cF 3 (aQ (aF 0) (aQ (aF 1) (aQ (aF 2) nilG))))) tT (ig (ak (gv 0) (ak (bin (gv 1) (gv 3) cO) (ak (gv 2) nA)))))))
def JN:ao->So:=(aP (newL nA 3) (aP (iQ (d9 (aB (aV xg 2) (ak (gv 2) (ak (aB cJ (ak (gv 0) nA)) nA)))) (aF 4) onB) (retS (gv 3))))
def nF:List D->R D:=cA 3 JN
def Yd (aG:Nat) (GG:List D->R D):ao->So:=(fU (cI (bin (gv 8) (ci 1) lY)) (bB (qu nA) (aF 9)) (fU (jw (Jx (gv 4))) (bB (yI 3 aG GG 2 (ak (gv 7) (ak (qu (ak (ig (ak (ci 0) (ak (ci 0) (ak (gv 2) nA)))) nA)) nA))) (aF 9)) (bB (yI 3 aG GG 2 (ak (gv 7) (ak (aB (aV nF 3) (ak (wO 4 (VL (ci 1))) (ak (bin (gv 0) (bin (gv 5) (ci 1) cO) bZ) (ak (gv 7) nA)))) nA))) (aF 9))))
def Ye:ao->So:=(aP (bB (Fp (cI (bin (gv 8) (ci 2) lY)) (ci 1) (ci 0)) (aF 10)) (jV 6 (bF 3 [10] (d9 (gv 9)) (cD (cF 3 (aQ (aF 0) (aQ (aF 1) (aQ (aF 2) nilG))))) tT (ig (ak (bin (gv 0) (gv 3) dU) (ak (gv 1) (ak (gv 2) nA)))))))
def inW (aG:Nat) (GG:List D->R D):ao->So:=(aP (Yd aG GG) Ye)
def Ww (aG:Nat) (GG:List D->R D):ao->So:=(aP (newL nA 6) (aP (iQ (λ ρ=>((ak (bin (gv 1) (gv 5) bZ) nA) ρ).bind kY) (cD (cF 2 (aQ (aF 7) (aQ (aF 8) nilG)))) (inW aG GG)) (Jq 4 6)))
def Dy (aG:Nat) (GG:List D->R D):ao->So:=(aP (newL nA 4) (aP (iQ (λ ρ=>((ak (aB cJ (ak (gv 1) nA)) nA) ρ).bind Jr) (aF 5) (Ww aG GG)) (retS (Ih (gv 4)))))
def qe (aG:Nat) (GG:List D->R D) (ds:List D):R D:=iC 7 (Dy aG GG) (ds.map .val++[.obj (.fn aG)])
def xq:ao->So:=(retS (bF 3 [0] (d9 (eN (aB mq (ak (gv 1) nA)) (λ _=> .ok none) (λ ρ=>((gv 2) ρ).bind vH))) (cD (cF 3 (aQ (aF 0) (aQ (aF 1) (aQ (aF 2) nilG))))) tT (ig (ak (gv 0) (ak (gv 1) (ak (bin (ig (ak (gv 3) nA)) (gv 2) cO) nA))))))
def dN (my:Int) (ds:List D):R D:=iC 0 xq (ds.map .val++[.val (.int my)])
def sJ:ao->So:=(Qp 3 2 ((gv 0):ao->R D) ((gv 1):ao->R D) ((ig nA):ao->R D) qe dN)
def ou (ds:List D):R D:=iC 1 sJ (ds.map .val)
def BP:ao->So:=(aP (newL nA 2) (aP (iQ (λ ρ=>((ak (bin (gv 1) (ci 0) bZ) nA) ρ).bind kY) (cD (cF 2 (aQ (aF 3) (aQ (aF 4) nilG)))) (aP (bB (aB (aV gZ 3) (ak (bin (gv 0) (ci 0) bZ) (ak (gv 3) (ak (gv 3) nA)))) (aF 5)) (zV 2 (bF 3 [5] (d9 (gv 4)) (cD (cF 3 (aQ (aF 0) (aQ (aF 1) (aQ (aF 2) nilG))))) tT (ig (ak (gv 0) (ak (bin (gv 1) (gv 3) cO) (ak (gv 2) nA)))))))) (retS (gv 2))))
def mH:List D->R D:=cA 4 BP
def vN:ao->So:=(retS (eN (aB mq (ak (aB (aV mH 2) (ak (gv 0) (ak (aB (aV ou 3) (ak (gv 0) (ak (gv 1) (ak (gv 2) nA)))) nA))) nA)) (λ _=> .ok none) (λ ρ=>((gv 2) ρ).bind vH)))
def kZ (ds:List D):R D:=iC 0 vN (ds.map .val)
def zm:ao->So:=(aP (bB (aB (aV kZ 3) (ak (gv 0) (ak (gv 1) (ak (ci 1) nA)))) (aF 2)) (aP (fU (jw (Jx (gv 2))) (retS (λ _=> .ok .non)) So.nx) (aP (bB (bin (gv 2) (ci 0) bZ) (cD (cF 3 (aQ (aF 3) (aQ (aF 4) (aQ (aF 5) nilG)))))) (retS (ig (ak (gv 4) (ak (gv 5) nA)))))))
def kI (ds:List D):R D:=iC 4 zm (ds.map .val)
def Gk:ao->So:=(retS (aB gK (ak (bF 2 [] (λ ρ=>((ak (gv 0) (ak (gv 1) nA)) ρ).bind zip2) (cD (cF 2 (aQ (aF 0) (aQ (aF 1) nilG)))) tT (bin (oM (gv 0) (λ _=> .ok none) (λ ρ=>((gv 1) ρ).bind vH)) (oM (gv 0) (λ ρ=>((bin (gv 1) (ci 1) cO) ρ).bind vH) (λ _=> .ok none)) cO)) nA)))
def lH:List D->R D:=cA 0 Gk
def TF:ao->R Bool:=(cI (bin (aB cJ (ak (gv 6) nA)) (gv 1) ltI))
def tkB:ao->So:=(aP (bB (aB (aV kI 2) (ak (aB (aV nD 2) (ak (gv 4) (ak (gv 2) nA))) (ak (gv 5) nA))) (aF 8)) (aP (fU (cI (bin (gv 8) (λ _=> .ok .non) isD)) (retS (λ _=> .ok .non)) So.nx) (aP (bB (gv 8) (cD (cF 2 (aQ (aF 9) (aQ (aF 10) nilG))))) (aP (jV 6 (ig (ak (gv 10) (ak (aB (aV ji 2) (ak (gv 4) (ak (gv 10) nA))) nA)))) (aP (Jl 7 (gv 9)) (Df 4 5 (aB (aV lH 2) (ak (gv 4) (ak (gv 10) nA))) (aB (aV lH 2) (ak (gv 5) (ak (gv 10) nA)))))))))
def Oc:ao->So:=(aP (Df 4 5 (gv 0) (gv 3)) (aP (newL nA 6) (aP (bB (ci 0) (aF 7)) (aP (gR TF tkB 64) (retS (ig (ak (gv 4) (ak (gv 6) (ak (gv 7) nA)))))))))
def yL (ds:List D):R D:=iC 7 Oc (ds.map .val)
def JQ:ao->So:=(aP (bB (aB (aV dD 1) (ak (gv 0) nA)) (cD (cF 2 (aQ (aF 2) (aQ (aF 3) nilG))))) (aP (rM (aB (aV jh 1) (ak (gv 1) nA))) (aP (bB (aB (aV yL 4) (ak (gv 0) (ak (gv 2) (ak (gv 1) (ak (aB (aV mF 1) (ak (gv 0) nA)) nA))))) (cD (cF 3 (aQ (aF 4) (aQ (aF 5) (aQ (aF 6) nilG)))))) (retS (aB gK (ak (bF 1 [5,2] (λ ρ=>((ak (gv 3) nA) ρ).bind gJ) (aF 0) tT (aB (aV kj 2) (ak (bF 2 [0] (d9 (gv 1)) (cD (cF 2 (aQ (aF 0) (aQ (aF 1) nilG)))) tT (bin (gv 0) (gv 2) bZ)) (ak (gv 2) nA)))) nA))))))
def uV (ds:List D):R D:=iC 5 JQ (ds.map .val)
def vO:ao->So:=(fU (jw (cI (aB (aV fX 2) (ak (gv 0) (ak (gv 1) nA))))) (λ _=> .bad) So.nx)
def jj:List D->R D:=cA 0 vO
def xr:ao->So:=(fU (yR (jw (cI (aB (aV d7 1) (ak (gv 0) nA)))) (jw (cI (Ax (gv 1) (gv 0) (gv 2) yQ yQ)))) (λ _=> .bad) So.nx)
def jK:List D->R D:=cA 0 xr
def vP:ao->So:=(aP (bB (aB minD (ak (bin (gv 1) (ci 1) cO) (ak (bin (aB cJ (ak (gv 0) nA)) (ci 1) dU) nA))) (aF 2)) (retS (bin (bin (bin (gv 0) (gv 1) bZ) (bin (gv 0) (gv 2) bZ) cO) (ci 2) fV)))
def jk:List D->R D:=cA 1 vP
def wrB:ao->So:=(aP (jV 3 (bin (gv 0) (gv 4) bZ)) (fU (cI (bin (gv 5) (gv 2) ltI)) (jV 3 (aB (aV jk 2) (ak (gv 0) (ak (gv 4) nA)))) So.nx))
def vQ:ao->So:=(aP (newL nA 3) (aP (iQ (λ ρ=>((ak (gv 1) nA) ρ).bind kY) (cD (cF 2 (aQ (aF 4) (aQ (aF 5) nilG)))) wrB) (retS (aB gK (ak (gv 3) nA)))))
def jm:List D->R D:=cA 3 vQ
def Gm:ao->So:=(aP (rM (aB (aV jj 2) (ak (gv 1) (ak (gv 0) nA)))) (aP (bB (aB cJ (ak (bin (gv 0) (ci 0) bZ) nA)) (aF 3)) (aP (rM (aB (aV jK 3) (ak (gv 2) (ak (gv 3) (ak (aB minD (ak (bin (ci 2) (gv 3) sI) (ak (ci 20) nA))) nA))))) (retS (aB gK (ak (bF 2 [3,2] (λ ρ=>((ak (gv 0) (ak (gv 1) nA)) ρ).bind zip2) (cD (cF 2 (aQ (aF 0) (aQ (aF 1) nilG)))) tT (aB (aV jm 3) (ak (gv 0) (ak (gv 1) (ak (bin (gv 3) (gv 2) dU) nA))))) nA))))))
def jL:List D->R D:=cA 1 Gm
def Yg:ao->So:=(aP (Bw 5 (gv 7) (bin (wO 4 (gv 7)) (gv 8) bZ) (gv 6)) (JB 4 (gv 7) (bin (eN (wO 4 (gv 7)) (λ _=> .ok none) (λ ρ=>((gv 8) ρ).bind vH)) (eN (wO 4 (gv 7)) (λ ρ=>((bin (gv 8) (ci 1) cO) ρ).bind vH) (λ _=> .ok none)) cO)))
def Yh:ao->So:=(iQ (λ ρ=>((ak (aB (aV mC 4) (ak (gv 0) (ak (bin (ci 70) (bin (ci 9) (gv 6) sI) cO) (ak (bin (gv 2) (gv 6) dU) (ak (gv 3) nA))))) nA) ρ).bind kY) (cD (cF 2 (aQ (aF 7) (aQ (aF 8) nilG)))) Yg)
def lxB:ao->So:=(aP (jV 17 (bin (gv 14) (gv 8) bZ)) (fU (cI (bin (bin (gv 15) (gv 8) bZ) (bin (gv 12) (gv 2) dU) ltI)) (jV 17 (bin (bin (bin (gv 14) (gv 8) bZ) (Fp (cI (bin (bin (gv 8) (ci 1) cO) (gv 2) ltI)) (bin (gv 14) (bin (gv 8) (ci 1) cO) bZ) (bin (gv 14) (gv 8) bZ)) cO) (ci 2) fV)) So.nx))
def lzB:ao->So:=(aP (newL nA 17) (aP (iQ (λ ρ=>((ak (gv 2) nA) ρ).bind gJ) (aF 8) lxB) (fU (cI (bin (aB VD (ak (gv 16) nA)) (gv 17) tW)) (retS (λ _=> .ok (.bl false))) So.nx)))
def l3B:ao->So:=(aP (bB (bin (gv 2) (aB (aV bO 3) (ak (gv 0) (ak (bin (ci 62) (gv 11) cO) (ak (bin (bin (gv 10) (gv 2) dU) (ci 1) cO) nA)))) cO) (aF 12)) (aP (bB (aB (aV jL 3) (ak (gv 1) (ak (gv 9) (ak (gv 12) nA)))) (aF 13)) (aP (fU (yR (jw (cI (aB (aV gC 1) (ak (gv 13) nA)))) (cI (bin (aB (aV dD 1) (ak (gv 13) nA)) (ig (ak (gv 12) (ak (gv 3) nA))) tW))) (retS (λ _=> .ok (.bl false))) So.nx) (iQ (λ ρ=>((ak (gv 1) (ak (gv 9) (ak (gv 13) nA))) ρ).bind wG) (cD (cF 3 (aQ (aF 14) (aQ (aF 15) (aQ (aF 16) nilG))))) lzB))))
def Yi:ao->So:=(aP (bB (aB (aV kh 4) (ak (gv 0) (ak (ci 0) (ak (ci 9) (ak (ci 6) nA))))) (aF 1)) (aP (bB (aB (aV dD 1) (ak (gv 1) nA)) (cD (cF 2 (aQ (aF 2) (aQ (aF 3) nilG))))) (aP (yK aa5 JG 4 5 (bF 1 [2] (d9 (gv 1)) (aF 0) tT (aB pP (ak (gv 1) nA))) (bF 1 [2] (d9 (gv 1)) (aF 0) tT (bin (qu (ak (ci 0) nA)) (gv 1) Dv))) (aP (iQ (λ ρ=>((ak (gv 2) nA) ρ).bind gJ) (aF 6) Yh) (Wq (aP (bB (aB gK (ak (bF 1 [] (d9 (gv 5)) (aF 0) tT (aB gK (ak (gv 0) nA))) nA)) (aF 9)) (aP (fU (cI (bin (aB (aV bO 3) (ak (gv 0) (ak (ci 60) (ak (ci 2) nA)))) (ci 0) lY)) (bB (Ie uV 2 1 [.inl 0] (ak (gv 1) nA) (ak (aB (aV jg 2) (ak (gv 0) (ak (ci 61) nA))) nA)) (aF 9)) So.nx) (aP (bB (aB minD (ak (ci 20) (ak (bin (ci 2) (gv 2) sI) nA))) (aF 10)) (aP (iQ (λ ρ=>((ak (ci 3) nA) ρ).bind gJ) (aF 11) l3B) (retS (sH (aB (aV fX 2) (ak (gv 9) (ak (gv 1) nA))) (bin (aB (aV jL 3) (ak (gv 1) (ak (gv 9) (ak (gv 2) nA)))) (gv 1) lY))))))))))))
def BR (ds:List D):R D:=iC 17 Yi (ds.map .val)
end wX
namespace wX
open PySem PySem.Spec L2 Pu
variable {j m:Int} {ds acc:List D} {ps l:List Nat} {cs:List Wy} {x i y k:Nat} {rf:Nat->List D} {Lf:Nat->List Nat} {s:Nat->Nat} {e1 e9 e10 e0 e8 e7 e5 e3 e6 dJ e4 dh dW fD gD fY fZ e2:Option Ent} {ρ1:ao} {fa:ao->R (List D)} {u fv:ao->R D} {α:Type} {a b:Wy}
def row (w:Nat) (f:Nat->Int):D:= .tup ((List.range w).map λ x=> .int (f x))
def bH (w h:Nat) (f:Nat->Nat->Int):D:= .tup ((List.range h).map λ y=>row w (f y))
structure Ok (w h:Nat) (f:Nat->Nat->Int):Prop where
 w1:1<=w
 w2:w<=20
 h1:1<=h
 h2:h<=20
 c:∀y < h,∀x < w,0<=f y x/\f y x<=99
theorem rY {i:Int} (h:i<=j):yQ (.int i) (.int j)= .ok (.bl true):=by
 show R.ok (D.bl (decide (i<=j)))=_;rw[decide_eq_true h]
theorem BW (h1:1<=ds.length) (h2:ds.length<=20):iM [.tup ds]= .ok (.bl true):=
 cC (bC (wC rfl (Bd rfl (aO (aA rfl) rfl) (rY (by omega)) rfl (rY (by omega)))))
theorem oA {i:Int}:d7 [.int i]= .ok (.bl true):=rfl
theorem QB {i:Int} (h0:0<=i) (h1:i<=99):oO [.int i]= .ok (.bl true):=by
 exact cC (bC (wC (aY (aA rfl) oA) (Bd rfl rfl (rY h0) rfl (rY h1))))
theorem TJ {w:Nat} {f:Nat->Int} (h1:1<=w) (h2:w<=20) (hc:∀x < w,0<=f x/\f x<=99):qM [row w f]= .ok (.bl true):=by
 refine cC (bC (wC (aY (aA rfl) (BW (by simpa using h1) (by simpa using h2))) (aO (aA (bL (c:=λ x=> .int (f x)) (h:=λ _=> .bl true) (l:=List.range w) (fB rfl) (by rw[z2d];omega) λ x hx=>?_)) lE)));obtain⟨a,b⟩:=hc x (z2e hx);exact bW rfl (aY (aA rfl) (QB a b))
section
variable {w h:Nat} {f:Nat->Nat->Int}
theorem vR (o:Ok w h f):gC [bH w h f]= .ok (.bl true):=by
 have e1:iM [bH w h f]= .ok (.bl true):=BW (by simpa using o.h1) (by simpa using o.h2);refine cC (aL (cT (qI (eX (bf (aY (aA rfl) e1))) (eX (bf (aO (aA (bL (c:=λ y=>row w (f y)) (h:=λ _=> .bl true) (l:=List.range h) (fB rfl) (by rw[z2d];have:=o.h2;omega) λ y hy=>?_)) lE)))) rfl) (bC (aO (aA (bL (c:=λ y=>row w (f y)) (h:=λ _=> .bl true) (l:=List.range h) (fB rfl) (by rw[z2d];have:=o.h2;omega) λ y hy=>?_)) lE)))
 ·exact bW rfl (aY (aA rfl) (TJ o.w1 o.w2 (o.c y (z2e hy))))
 ·refine bW rfl (au (aO (aA rfl) rfl) (aO (aA (au rfl rfl (gW (i:=0) (d:=row w (f 0)) ?_))) rfl) (zN ?_ ?_))
  ·rw[z2b,List.getElem?_range o.h1];rfl
  ·simp
  ·simp[dep]
theorem Zo (o:Ok w h f):iI [bH w h f]= .ok .non:=Bg (cT (eX (bf (aY (aA rfl) (vR o)))) rfl)
theorem size_eq (o:Ok w h f):dD [bH w h f]= .ok (.tup [.int w,.int h]):=by
 refine cC (aL (yG (aY (aA rfl) (Zo o))) (bC (gA (aD (aO (aA (au rfl rfl (gW (i:=0) (d:=row w (f 0)) ?_))) ?_) (aA (aO (aA rfl) ?_))))))
 ·rw[z2b,List.getElem?_range o.h1];rfl
 ·simp[row,cJ]
 ·simp[bH,cJ]
theorem TQ (o:Ok w h f):qN [bH w h f]= .ok (bH h w λ y x=>f x y):=by
 refine cC (aL (bw (aY (aA rfl) (size_eq o)) rfl) (bC (aO (aA (bL (c:=λ (x:Nat)=> .int (x:Int)) (h:=λ x=>row h λ y=>f y x) (l:=List.range w) (gU (aA rfl) (by have:=o.w2;omega)) (by rw[z2d];have:=o.w2;omega) λ x hx=>?_)) rfl)));refine bW rfl (aO (aA (bL (c:=λ (y:Nat)=> .int (y:Int)) (h:=λ y=> .int (f y x)) (l:=List.range h) (gU (aA rfl) (by have:=o.h2;omega)) (by rw[z2d];have:=o.h2;omega) λ y hy=>?_)) rfl);refine bW rfl (au (au rfl rfl (gW (i:=y) (d:=row w (f y)) ?_)) rfl (gW (i:=x) ?_))
 ·rw[z2b,List.getElem?_range (z2e hy)];rfl
 ·rw[z2b,List.getElem?_range (z2e hx)];rfl
end
def Wx:ao->So:=(jV 5 (aB gK (ak (bF 1 [1,2,4,0,6] (λ ρ=>((ak (gv 2) nA) ρ).bind gJ) (aF 0) tT (aB (aV bO 3) (ak (gv 4) (ak (bin (bin (bin (gv 1) (ci 1) eE) (bin (gv 2) (gv 5) gj) eE) (gv 0) eE) (ak (gv 3) nA))))) nA)))
section
variable {ns:List Int} {a m:Int} {w h:Nat}
def vA (d:D):Option Ent:=some (.val d)
theorem aa9 (hns:ns.length<=1000000) (ha:0<=a) (hm:0 < m) (hw:w<=20) {tl:Option Ent} (hl:acc.length < 1000000):
  Wx [vA (.lst (ns.map .int)),vA (.int a),vA (.int (w:Int)),tl,vA (.int m),some (.lst acc),vA (.int (y:Int))] =
   .nx [vA (.lst (ns.map .int)),vA (.int a),vA (.int (w:Int)),tl,vA (.int m),some (.lst (acc++[row w λ x=>dr ns (a+1+(w:Int)*(y:Int)+(x:Int)) m])),vA (.int (y:Int))]:=by
 have e:aB gK (ak (bF 1 [1,2,4,0,6] (λ ρ=>((ak (gv 2) nA) ρ).bind gJ) (aF 0) tT (aB (aV bO 3) (ak (gv 4) (ak (bin (bin (bin (gv 1) (ci 1) eE) (bin (gv 2) (gv 5) gj) eE) (gv 0) eE) (ak (gv 3) nA))))) nA)
   [vA (.lst (ns.map .int)),vA (.int a),vA (.int (w:Int)),tl,vA (.int m),some (.lst acc),vA (.int (y:Int))]= .ok (row w λ x=>dr ns (a+1+(w:Int)*(y:Int)+(x:Int)) m):=by
  refine aO (aA (bL (c:=λ (x:Nat)=>D.int (x:Int)) (h:=λ (x:Nat)=>D.int (dr ns (a+1+(w:Int)*(y:Int)+(x:Int)) m)) (l:=List.range w) (gU (aA rfl) (by omega)) (by rw[z2d];omega) λ x hx=>?_)) rfl;refine bW rfl (aY (aD rfl (aD (au (au (au rfl rfl rfl) (au rfl rfl (jC (.inl ⟨by omega,by omega⟩))) rfl) rfl rfl) (aA rfl))) ?_);have hp:(0:Int)<=(w:Int)*(y:Int):=Int.mul_nonneg (by omega) (by omega);exact (nW hns (by omega) hm).1
 unfold Wx jV;rw[e];show (if acc.length < 1000000 then So.nx _ else .bad)=_;rw[if_pos hl];rfl
theorem JR (hns:ns.length<=1000000) (ha:0<=a) (hm:0 < m) (hw:w<=20) {tl:Option Ent}:∀{ys:List Nat} {acc:List D} {x:Option Ent},acc.length+ys.length<=1000000->
  ∃ x',forL (aF 6) Wx (ys.map λ (y:Nat)=>D.int (y:Int)) [vA (.lst (ns.map .int)),vA (.int a),vA (.int (w:Int)),tl,vA (.int m),some (.lst acc),x] =
   .nx [vA (.lst (ns.map .int)),vA (.int a),vA (.int (w:Int)),tl,vA (.int m),some (.lst (acc++ys.map λ (y:Nat)=>row w λ x=>dr ns (a+1+(w:Int)*(y:Int)+(x:Int)) m)),x']
 |[],acc,x,_=>⟨x,by rw[List.map_nil,List.map_nil,List.append_nil];rfl⟩
 | y::ys,acc,x,hl=>by
  rw[List.length_cons] at hl;obtain⟨x',e⟩:=JR hns ha hm hw (tl:=tl) (ys:=ys) (acc:=acc++[row w λ x=>dr ns (a+1+(w:Int)*(y:Int)+(x:Int)) m]) (x:=vA (.int (y:Int))) (by rw[z1d];simp only[List.length_cons,List.length_nil];omega);refine⟨x',?_⟩;rw[List.append_assoc] at e;rw[z1h,z1h];exact cQ rfl (aa9 hns ha hm hw (by omega)) e
theorem QC (hns:ns.length<=1000000) (ha:0<=a) (hw:w<=20) (hw1:1<=w) (hh:h<=20) (hh1:1<=h):∃f,iG [.lst (ns.map .int),.int a,.int (w:Int),.int (h:Int)]= .ok (bH w h f)/\Ok w h f:=by
 obtain⟨e1,h0,h4⟩:=nW (k:=a) (m:=4) hns ha (by omega);obtain⟨d,hd,ed⟩:=Dg (xs:=[D.int 2,.int 5,.int 100,.int 10]) h0 h4;have hm:∃m,d= .int m/\0 < m/\m<=100:=by
  simp only[List.mem_cons,List.not_mem_nil,or_false] at hd;rcases hd with rfl |rfl |rfl |rfl
  ·exact⟨_,rfl,by omega,by omega⟩
  ·exact⟨_,rfl,by omega,by omega⟩
  ·exact⟨_,rfl,by omega,by omega⟩
  ·exact⟨_,rfl,by omega,by omega⟩
 obtain⟨m,rfl,hm0,hm1⟩:=hm;obtain⟨x',er⟩:=JR hns ha hm0 hw (tl:=vA (.int (h:Int))) (ys:=List.range h) (acc:=[]) (x:=none) (by rw[z2d,List.length_nil];omega);refine⟨λ y x=>dr ns (a+1+(w:Int)*(y:Int)+(x:Int)) m,cC (aL (ρ':=[vA (.lst (ns.map .int)),vA (.int a),vA (.int (w:Int)),vA (.int (h:Int)),vA (.int m),some (.lst []),none]) ?_ (aL (gY (gU (m:=h) (aA rfl) (by omega)) er) (bC (aO (aA (x:= .lst ((List.range h).map λ (y:Nat)=>row w λ x=>dr ns (a+1+(w:Int)*(y:Int)+(x:Int)) m)) rfl) rfl)))),hw1,hw,hh1,hh,λ y hy x hx=>?_⟩
 ·exact YH (au (x:= .lst [D.int 2,.int 5,.int 100,.int 10]) (y:= .int (dr ns a 4)) (j9 rfl) (aY (aD rfl (aD rfl (aA rfl))) e1) (tX ed)) rfl
 ·have hp:(0:Int)<=(w:Int)*(y:Int):=Int.mul_nonneg (by omega) (by omega);have:=(nW (k:=a+1+(w:Int)*(y:Int)+(x:Int)) (m:=m) hns (by omega) hm0).2;show 0<=dr _ _ _/\dr _ _ _<=99;omega
end
section
variable {w h:Nat} {f g:Nat->Nat->Int}
theorem jM {β:Type} {p q:α->β} {l:List α} (e:∀a∈l,p a=q a):l.map p=l.map q:=List.map_congr_left e
theorem TV (e:∀y < h,∀x < w,f y x=g y x):bH w h f=bH w h g:=by
 unfold bH row;exact congrArg D.tup (jM λ y hy=>congrArg D.tup (jM λ x hx=>congrArg D.int (e y (z2e hy) x (z2e hx))))
theorem Zq:dep (bH w h f)<=40:=by
 unfold bH;rw[dep];have:=p8 (c:=λ y=>row w (f y)) (n:=1) (l:=List.range h) (λ y _=>by
  unfold row;rw[dep];have:=p8 (c:=λ x=>D.int (f y x)) (n:=0) (l:=List.range w) (λ x _=>by simp[dep]);omega)
 omega
end
structure xu (w h:Nat) (s:Nat->Nat):Prop where
 lt:∀y < h,s y < w
 st:∀y,y+1 < h->s (y+1)<=s y+1/\s y<=s (y+1)+1
abbrev sm (h:Nat) (s:Nat->Nat):D:=row h λ y=>((s y:Nat):Int)
section
variable {ρ:ao} {fa:ao->R (List D)} {α:Type} {l:List α} {p q r:α->D} {x y z:D}
theorem Zr {m:Nat} (e:fa ρ= .ok [.int 1,.int (m:Int)]) (h:m < 2 ^ 62):(λ ρ=>(fa ρ).bind CZ) ρ= .ok ((List.range (m - 1)).map λ (i:Nat)=>D.int ((i+1:Nat):Int)):=by
 show (fa ρ).bind CZ=_;rw[e,R.aR,CZ,if_pos ⟨by omega,by omega,by omega,by omega⟩];unfold upto;rw[show ((m:Int) - 1).toNat=m - 1 by omega];refine congrArg R.ok (jM λ i _=>?_);rw[show (1:Int)+(i:Int)=((i+1:Nat):Int) by omega]
theorem Dz (e:fa ρ= .ok [x,y]) (h1:dG x= .ok (l.map p)) (h2:dG y= .ok (l.map q)):(λ ρ=>(fa ρ).bind zip2) ρ= .ok (l.map λ a=> .tup [p a,q a]):=by
 show (fa ρ).bind zip2=_;rw[e,R.aR,zip2,h1,R.aR,h2,R.aR,Dk,List.zip_map',List.map_map];rfl
theorem Zt (e:fa ρ= .ok [x,y,z]) (h1:dG x= .ok (l.map p)) (h2:dG y= .ok (l.map q)) (h3:dG z= .ok (l.map r)):(λ ρ=>(fa ρ).bind wG) ρ= .ok (l.map λ a=> .tup [p a,q a,r a]):=by
 show (fa ρ).bind wG=_;rw[e,R.aR,wG,h1,R.aR,h2,R.aR,h3,R.aR,yH,List.zip_map',List.zip_map',List.map_map];rfl
theorem acy {i:Int} (h:i < j):ltI (.int i) (.int j)= .ok (.bl true):=by
 show R.ok (D.bl (decide (i < j)))=_;rw[decide_eq_true h]
theorem Od {i:Int} (h:i=j):tW (.int i) (.int j)= .ok (.bl false):=uO (by rw[h]) (by simp[dep])
theorem Oe {i:Int}:lY (.int i) (.int j)= .ok (.bl (decide (i=j))):=by
 rw[lY,if_pos (by simp[dep])];show R.ok (D.bl (cP (.int i) (.int j)))=_;by_cases h:i=j <;> simp[jX,jY,jZ,j5,j7,gw,dY,h]
theorem TX {n d:Nat}:HT.sIx n d (some (k:Int))=min k n:=by
 show (if (k:Int) < 0 then ((k:Int)+(n:Int)).toNat else min (k:Int).toNat n)=min k n;rw[if_neg (by omega),Int.toNat_natCast]
theorem BX {n d:Nat}:HT.sIx n d none=d:=rfl
theorem Og {n:Nat} (h:n<=ds.length):jE ds none (some (n:Int))=ds.take n:=by
 rw[jE,TX,BX,Nat.min_eq_left h,Nat.sub_zero];rfl
theorem Gn {n:Nat} (h:n<=ds.length):jE ds (some (n:Int)) none=ds.drop n:=by
 rw[jE,TX,BX,Nat.min_eq_left h,List.take_of_length_le (by rw[List.length_drop];exact z0g _)]
theorem Oh {f:ao->R D} {fu:ao->R (Option Int)} {n:Nat} (e1:f ρ= .ok (.tup ds)) (e2:fu ρ= .ok (some (n:Int))) (h:n<=ds.length):oM f (λ _=> .ok none) fu ρ= .ok (.tup (ds.take n)):=by
 rw[oM,e1,R.aR,R.aR,e2,R.aR,IW,Og h]
theorem TY {f:ao->R D} {fl:ao->R (Option Int)} {n:Nat} (e1:f ρ= .ok (.tup ds)) (e2:fl ρ= .ok (some (n:Int))) (h:n<=ds.length):oM f fl (λ _=> .ok none) ρ= .ok (.tup (ds.drop n)):=by
 rw[oM,e1,R.aR,e2,R.aR,R.aR,IW,Gn h]
theorem Oi {xs ys:List D} (h:xs.length+ys.length<=1000000):cO (.tup xs) (.tup ys)= .ok (.tup (xs++ys)):=by
 rw[cO,if_pos h]
theorem Zu {xs ys:List D} (h:xs.length+ys.length<=1000000):cO (.lst xs) (.lst ys)= .ok (.lst (xs++ys)):=by
 rw[cO,if_pos h]
end
section
variable {w h:Nat} {g:Nat->Int} {n:Nat} {c:Int}
theorem Wz (hn:n < w):((List.range w).map λ x=>D.int (g x)).take n++((List.range w).map λ x=>D.int (g x)).drop (n+1)=(List.range (w - 1)).map λ x=>D.int (if x < n then g x else g (x+1)):=by
 refine List.ext_getElem (by simp;omega) λ i h1 h2=>?_;rw[List.getElem_append];by_cases hi:i < n
 ·rw[dif_pos (by simp;omega)];simp[hi]
 ·rw[dif_neg (by simp;omega)];have e:n+1+(i - min n w)=i+1:=by omega
  simp[hi,e]
end
section
variable {w h:Nat} {f:Nat->Nat->Int} {s:Nat->Nat}
theorem T3 (q:xu w h s) (mJ:h<=20):qL [sm h s,.int (w:Int),.int (h:Int)]= .ok (.bl true):=by
 refine cC (aL (cT (qI (eX (bf (b:=true) rfl)) (bf (au (aO (aA rfl) rfl) rfl (Od ?_)))) rfl)
  (aL (cT (eX (bf (aO (aA (bL (c:=λ y=> .int ((s y:Nat):Int)) (h:=λ _=> .bl true) (l:=List.range h) (fB rfl) (by rw[z2d];omega) λ y hy=>?_)) lE))) rfl)
  (bC (aO (aA (bL (c:=λ y=> .int ((y+1:Nat):Int)) (h:=λ _=> .bl true) (l:=List.range (h - 1)) (Zr (aD rfl (aA rfl)) (by omega)) (by rw[z2d];omega) λ y hy=>?_)) lE))))
 ·simp
 ·have:=q.lt y (z2e hy);exact bW rfl (wC (aY (aA rfl) oA) (Bd rfl rfl (rY (by omega)) rfl (acy (by omega))))
 ·have hy:y < h - 1:=z2e hy;obtain⟨h1,h2⟩:=q.st y (by omega);refine bW rfl (au (aO (aA (au (x:= .int ((s (y+1):Nat):Int)) (y:= .int ((s y:Nat):Int)) (au rfl rfl (gW (i:=y+1) ?_)) (au rfl (au (x:= .int ((y+1:Nat):Int)) (y:= .int 1) rfl rfl ?_) (gW (i:=y) ?_)) rfl)) rfl) rfl (rY ?_))
  ·rw[z2b,List.getElem?_range (by omega)];rfl
  ·show R.ok (D.int (((y+1:Nat):Int) - 1))=_;rw[show ((y+1:Nat):Int) - 1=(y:Int) by omega]
  ·rw[z2b,List.getElem?_range (by omega)];rfl
  ·split <;> omega
theorem len0 (o:Ok w h f) {ρ:ao} (e:u ρ= .ok (bH w h f)):aB cJ (ak (bin u (ci 0) bZ) nA) ρ= .ok (.int (w:Int)):=by
 refine aO (aA (au e rfl (gW (i:=0) (d:=row w (f 0)) ?_))) ?_
 ·rw[z2b,List.getElem?_range o.h1];rfl
 ·simp[row,cJ]
theorem DN (q:xu w h s) (mJ:h<=20):ji [bH w h f,sm h s]= .ok (row h λ y=>f y (s y)):=by
 refine cC (bC (aO (aA (bL (c:=λ y=> .tup [row w (f y),.int ((s y:Nat):Int)]) (h:=λ y=> .int (f y (s y))) (l:=List.range h) (Dz (aD rfl (aA rfl)) rfl rfl) (by rw[z2d];omega) λ y hy=>?_)) rfl));refine bW rfl (au rfl rfl (gW (i:=s y) ?_));rw[z2b,List.getElem?_range (q.lt y (z2e hy))];rfl
def less (s:Nat->Nat) (f:Nat->Nat->Int):Nat->Nat->Int:=λ y x=>if x < s y then f y x else f y (x+1)
def more (s:Nat->Nat) (c:Nat->Int) (f:Nat->Nat->Int):Nat->Nat->Int:=λ y x=>if x < s y then f y x else if x=s y then c y else f y (x - 1)
theorem BZ (q:xu w h s) (mJ:h<=20) (w20:w<=20):lH [bH w h f,sm h s]= .ok (bH (w - 1) h (less s f)):=by
 refine cC (bC (aO (aA (bL (c:=λ y=> .tup [row w (f y),.int ((s y:Nat):Int)]) (h:=λ y=>row (w - 1) (less s f y)) (l:=List.range h) (Dz (aD rfl (aA rfl)) rfl rfl) (by rw[z2d];omega) λ y hy=>?_)) rfl));have hs:=q.lt y (z2e hy);refine bW rfl (au (Oh (n:=s y) rfl rfl (by simp;omega)) (TY (n:=s y+1) rfl rfl (by simp;omega)) ((Oi (by simp;omega)).trans ?_));rw[Wz hs];rfl
def mean (w:Nat) (g:Nat->Int) (n:Nat):Int:=(g n+g (min (n+1) (w - 1))) / 2
theorem Zv {g:Nat->Int} {n:Nat} (hn:n < w) (w20:w<=20):jk [row w g,.int (n:Int)]= .ok (.int (mean w g n)):=by
 refine cC (aL (bw (d:= .int ((min (n+1) (w - 1):Nat):Int)) (aO (aD (x:= .int ((n+1:Nat):Int)) (au rfl rfl rfl) (aA (x:= .int ((w - 1:Nat):Int)) (au (aO (aA rfl) rfl) rfl ?_))) ?_) rfl) (bC (au (au (x:= .int (g n)) (y:= .int (g (min (n+1) (w - 1)))) (au rfl rfl (gW (i:=n) ?_)) (au rfl rfl (gW (i:=min (n+1) (w - 1)) ?_)) rfl) rfl (jD ⟨by omega,by omega⟩))))
 ·show R.ok (D.int ((((List.range w).map λ x=>D.int (g x)).length:Int) - 1))=_;rw[z1g,z2d,show (w:Int) - 1=((w - 1:Nat):Int) by omega]
 ·show R.ok (D.int (if ((w - 1:Nat):Int) < ((n+1:Nat):Int) then _ else _))=_;congr 2;split <;> omega
 ·rw[z2b,List.getElem?_range hn];rfl
 ·rw[z2b,List.getElem?_range (by omega)];rfl
end
theorem jt {ρ:ao} (e:fa ρ= .ok ds) (h:ds.length<=1000000:=by exact Nat.le_of_ble_eq_true rfl):newL fa i ρ= .nx (ρ.set i (some (.lst ds))):=by
 unfold newL;rw[e];show (if _ then _ else _)=_;rw[if_pos h]
def pl (ps:List Nat):List D:=ps.map λ p=> .int ((p:Nat):Int)
structure Good (w:Nat) (ps:List Nat):Prop where
 lt:∀p∈ps,p < w
 st:∀i a b,ps[i]?=some a->ps[i+1]?=some b->b<=a+1/\a<=b+1
theorem Good.snoc {w:Nat} {l p:Nat} (g:Good w (ps++[l])) (h1:p < w) (h2:p<=l+1/\l<=p+1):Good w (ps++[l]++[p]):=by
 refine⟨λ q hq=>?_,λ i a b ha hb=>?_⟩
 ·rcases List.mem_append.mp hq with h |h
  ·exact g.lt q h
  ·rw[List.mem_singleton.mp h];exact h1
 ·by_cases hi:i+1 < (ps++[l]).length
  ·rw[List.getElem?_append_left hi] at hb;rw[List.getElem?_append_left (by omega)] at ha;exact g.st i a b ha hb
  ·have hl:i+1 < (ps++[l]++[p]).length:=(z1b hb).1;simp only[z1d,List.length_cons,List.length_nil] at hl hi;have hi:i=ps.length:=by omega
   subst hi;rw[List.getElem?_append_left (by simp),List.getElem?_append_right (by simp)] at ha;rw[List.getElem?_append_right (by simp)] at hb;simp at ha hb;subst ha hb;exact h2
section
variable {ns:List Int} {a:Int} {w h:Nat} {t:Option Ent}
theorem Zw {l:Nat}:bZ (.lst (pl (ps++[l]))) (.int (-1))= .ok (.int (l:Int)):=by
 have:atI (pl (ps++[l])) (-1)=some (.int (l:Int)):=by
  unfold atI ixN;rw[if_neg (by omega),if_pos (by simp[pl];omega)];show (pl (ps++[l]))[_]?=_;have e:(-1+((pl (ps++[l])).length:Int)).toNat=ps.length:=by simp[pl];omega
  rw[e];simp[pl]
 exact tX this
end
section
variable {w h:Nat} {f:Nat->Nat->Int}
end
section
variable {w h:Nat} {f:Nat->Nat->Int} {s:Nat->Nat} {c:Nat->Int}
theorem Ok.less (o:Ok w h f) (h1:1 < w):Ok (w - 1) h (less s f):=by
 refine⟨by omega,by have:=o.w2;omega,o.h1,o.h2,λ y hy x hx=>?_⟩;unfold wX.less;split
 ·exact o.c y hy x (by omega)
 ·exact o.c y hy (x+1) (by omega)
theorem Zx (o:Ok w h f) {n:Nat} (hy:y < h) (hn:n < w):0<=mean w (f y) n/\mean w (f y) n<=99:=by
 have a:=o.c y hy n hn;have b:=o.c y hy (min (n+1) (w - 1)) (by omega);unfold mean;omega
end
def ab (i:Int):Int:=if i < 0 then -i else i
def gap (n:Nat) (g:Nat->Int) (x:Nat):Int:=ab (g (x - 1) - g (min (x+1) (n - 1)))
def Oj (w h:Nat) (f:Nat->Nat->Int) (y x:Nat):Int:=gap w (f y) x+gap h (λ y=>f y x) y
section
variable {n w h:Nat} {g:Nat->Int} {f:Nat->Nat->Int} {s:Nat->Nat} {ρ:ao}
theorem DP:cJ [row n g]= .ok (.int (n:Int)):=by simp[row,cJ]
theorem DQ:cJ [bH w h f]= .ok (.int (h:Int)):=by simp[bH,cJ]
theorem abb {n:Nat} (h1:1<=n):dU (.int (n:Int)) (.int 1)= .ok (.int ((n - 1:Nat):Int)):=by
 show R.ok (D.int ((n:Int) - 1))=_;rw[show (n:Int) - 1=((n - 1:Nat):Int) by omega]
theorem QD:maxD [.int ((x:Int) - 1),.int 0]= .ok (.int ((x - 1:Nat):Int)):=by
 show R.ok (D.int (if (0:Int) > (x:Int) - 1 then 0 else (x:Int) - 1))=_;congr 2;split <;> omega
theorem min1 {n:Nat}:minD [.int ((x+1:Nat):Int),.int (n:Int)]= .ok (.int ((min (x+1) n:Nat):Int)):=by
 show R.ok (D.int (if (n:Int) < ((x+1:Nat):Int) then (n:Int) else ((x+1:Nat):Int)))=_;congr 2;split <;> omega
theorem jN (hx:x < n):bZ (row n g) (.int (x:Int))= .ok (.int (g x)):=by
 refine gW (i:=x) ?_;rw[z2b,List.getElem?_range hx];rfl
theorem JT (hy:y < h):bZ (bH w h f) (.int (y:Int))= .ok (row w (f y)):=by
 refine gW (i:=y) ?_;rw[z2b,List.getElem?_range hy];rfl
theorem mK {α:Type} {p:Nat->D} (hx:x < n):bZ (.lst ((List.range n).map p)) (.int (x:Int))= .ok (p x):=by
 refine Bf (i:=x) ?_;rw[z2b,List.getElem?_range hx];rfl
theorem DR (h1:1<=n) (mJ:n<=20):oU [row n g]= .ok (.lst ((List.range n).map λ x=> .int (gap n g x))):=by
 refine cC (aL (bw (au (aO (aA rfl) DP) rfl (abb h1)) rfl) (bC (bL (c:=λ (x:Nat)=>D.int (x:Int)) (h:=λ x=> .int (gap n g x)) (l:=List.range n) (gU (aA (aO (aA rfl) DP)) (by omega)) (by rw[z2d];omega) λ x hx=>?_)));have hx:=z2e hx;exact bW rfl (aO (aA (au (x:= .int (g (x - 1))) (y:= .int (g (min (x+1) (n - 1)))) (au rfl (aO (aD (au rfl rfl rfl) (aA rfl)) QD) (jN (by omega))) (au rfl (aO (aD (x:= .int ((x+1:Nat):Int)) (au rfl rfl rfl) (aA rfl)) min1) (jN (by omega))) rfl)) rfl)
theorem T4 (o:Ok w h f):qO [bH w h f]= .ok (bH w h (Oj w h f)):=by
 have mJ:=o.h2;have w20:=o.w2;refine cC (aL (bw (aY (aA rfl) (size_eq o)) rfl)
  (aL (bw (bL (c:=λ y=>row w (f y)) (h:=λ y=> .lst ((List.range w).map λ x=> .int (gap w (f y) x))) (l:=List.range h) (fB rfl) (by rw[z2d];omega) λ y hy=>bW rfl (aY (aA rfl) (DR o.w1 o.w2))) rfl)
  (aL (bw (bL (c:=λ x=>row h λ y=>f y x) (h:=λ x=> .lst ((List.range h).map λ y=> .int (gap h (λ y=>f y x) y))) (l:=List.range w) (fB (aY (aA rfl) (TQ o))) (by rw[z2d];omega) λ y hy=>bW rfl (aY (aA rfl) (DR o.h1 o.h2))) rfl)
  (bC (aO (aA (bL (c:=λ (y:Nat)=>D.int (y:Int)) (h:=λ y=>row w (Oj w h f y)) (l:=List.range h) (gU (aA rfl) (by omega)) (by rw[z2d];omega) λ y hy=>?_)) rfl)))))
 have hy:=z2e hy;refine bW rfl (aO (aA (bL (c:=λ (x:Nat)=>D.int (x:Int)) (h:=λ x=> .int (Oj w h f y x)) (l:=List.range w) (gU (aA rfl) (by omega)) (by rw[z2d];omega) λ x hx=>?_)) rfl);have hx:=z2e hx;exact bW rfl (au (x:= .int (gap w (f y) x)) (y:= .int (gap h (λ y=>f y x) y)) (au (au rfl rfl (mK (α:=D) hy)) rfl (mK (α:=D) hx)) (au (au rfl rfl (mK (α:=D) hx)) rfl (mK (α:=D) hy)) rfl)
def eU (T:Nat->Int):D:= .tup [.int (T 0),.int (T 1),.int (T 2)]
def tab (w h:Nat) (T:Nat->Nat->Nat->Int):D:= .lst ((List.range h).map λ y=> .lst ((List.range w).map λ x=>eU (T y x)))
def uo (w:Nat) (f:Nat->Nat->Int) (y x i:Nat):Int:=gap w (f y) x+(if i=0 then ab (f (y - 1) x - f y (x - 1)) else if i=1 then 0 else ab (f (y - 1) x - f y (min (x+1) (w - 1))))
def Yj:ao->So:=(aP (bB (bin (gv 7) (aB wD (ak (bin (bin (gv 3) (gv 6) bZ) (bin (gv 2) (aB maxD (ak (bin (gv 6) (ci 1) dU) (ak (ci 0) nA))) bZ) dU) nA)) cO) (aF 8)) (aP (bB (bin (gv 7) (aB wD (ak (bin (bin (gv 3) (gv 6) bZ) (bin (gv 2) (aB minD (ak (bin (gv 6) (ci 1) cO) (ak (gv 4) nA))) bZ) dU) nA)) cO) (aF 9)) (jV 5 (ig (ak (gv 8) (ak (gv 7) (ak (gv 9) nA)))))))
theorem oV {d:D} (e:u ρ= .ok d) (h:ρ[i]?=some (some (.lst ds))) (hl:ds.length < 1000000):jV i u ρ= .nx (ρ.set i (some (.lst (ds++[d])))):=by
 unfold jV;rw[e];simp only[tU,fQ,h];rw[if_pos hl]
theorem WD (h1:1<=w) (hx:x < w) (hl:acc.length < 1000000):
  ∃ z8 z9,Yj [e0,e1,vA (row w (f y)),vA (row w (f (y - 1))),vA (.int ((w - 1:Nat):Int)),some (.lst acc),vA (.int (x:Int)),vA (.int (gap w (f y) x)),e8,e9] =
   .nx [e0,e1,vA (row w (f y)),vA (row w (f (y - 1))),vA (.int ((w - 1:Nat):Int)),some (.lst (acc++[eU (uo w f y x)])),vA (.int (x:Int)),vA (.int (gap w (f y) x)),z8,z9]:=by
 refine⟨_,_,aL (bw (d:= .int (uo w f y x 0)) (au (x:= .int (gap w (f y) x)) (y:= .int (ab (f (y - 1) x - f y (x - 1)))) rfl (aO (aA (au (x:= .int (f (y - 1) x)) (y:= .int (f y (x - 1))) (au rfl rfl (jN hx)) (au rfl (aO (aD (au rfl rfl rfl) (aA rfl)) QD) (jN (by omega))) rfl)) rfl) rfl) rfl)
  (aL (bw (d:= .int (uo w f y x 2)) (au (x:= .int (gap w (f y) x)) (y:= .int (ab (f (y - 1) x - f y (min (x+1) (w - 1))))) rfl (aO (aA (au (x:= .int (f (y - 1) x)) (y:= .int (f y (min (x+1) (w - 1)))) (au rfl rfl (jN hx)) (au rfl (aO (aD (x:= .int ((x+1:Nat):Int)) (au rfl rfl rfl) (aA rfl)) min1) (jN (by omega))) rfl)) rfl) rfl) rfl)
  (oV (d:=eU (uo w f y x)) ((gA (aD rfl (aD rfl (aA rfl)))).trans ?_) rfl hl))⟩
 have:uo w f y x 1=gap w (f y) x:=by simp[uo]
 rw[eU,this]
theorem join_loop (h1:1<=w) {y:Nat} {e0 e1:Option Ent}:∀{xs:List Nat} {acc:List D} {e6 e7 e8 e9:Option Ent},(∀x∈xs,x < w)->acc.length+xs.length<=1000->
  ∃ z6 z7 z8 z9,forL (cD (cF 2 (aQ (aF 6) (aQ (aF 7) nilG)))) Yj (xs.map λ (x:Nat)=>D.tup [.int (x:Int),.int (gap w (f y) x)]) [e0,e1,vA (row w (f y)),vA (row w (f (y - 1))),vA (.int ((w - 1:Nat):Int)),some (.lst acc),e6,e7,e8,e9] =
   .nx [e0,e1,vA (row w (f y)),vA (row w (f (y - 1))),vA (.int ((w - 1:Nat):Int)),some (.lst (acc++xs.map λ x=>eU (uo w f y x))),z6,z7,z8,z9]
 |[],acc,e6,e7,e8,e9,_,_=>⟨e6,e7,e8,e9,by rw[List.map_nil,List.map_nil,List.append_nil];rfl⟩
 | x::xs,acc,e6,e7,e8,e9,hx,hl=>by
  rw[List.length_cons] at hl;obtain⟨z8,z9,e⟩:=WD (f:=f) (y:=y) h1 (hx x (by simp)) (e0:=e0) (e1:=e1) (e8:=e8) (e9:=e9) (acc:=acc) (by omega);obtain⟨y6,y7,y8,y9,e'⟩:=join_loop h1 (y:=y) (e0:=e0) (e1:=e1) (xs:=xs) (acc:=acc++[eU (uo w f y x)]) (e6:=vA (.int (x:Int))) (e7:=vA (.int (gap w (f y) x))) (e8:=z8) (e9:=z9) (λ z hz=>hx z (by simp[hz])) (by simp;omega);refine⟨y6,y7,y8,y9,?_⟩;rw[List.append_assoc] at e';rw[z1h,z1h];exact cQ rfl e e'
theorem Gp {p:Nat->D}:∀{n m:Nat},iR m ((List.range' m n).map p)=(List.range' m n).map λ (x:Nat)=>D.tup [.int (x:Int),p x]
 |0,_=>rfl
 |n+1,m=>by rw[List.range'_succ,z1h,z1h,iR,Gp]
theorem uq {x:D} {n:Nat} {p:Nat->D} (e:fa ρ= .ok [x]) (h:dG x= .ok ((List.range n).map p)):(λ ρ=>(fa ρ).bind kY) ρ= .ok ((List.range n).map λ (y:Nat)=>D.tup [.int (y:Int),p y]):=by
 show (fa ρ).bind kY=_;rw[e,R.aR,kY,h,R.aR,List.range_eq_range',Gp]
theorem G3 (o:Ok w h f) (hy:y < h):jJ [bH w h f,.int (y:Int)]= .ok (.lst ((List.range w).map λ x=>eU (uo w f y x))):=by
 have w20:=o.w2;obtain⟨z6,z7,z8,z9,e⟩:=join_loop (f:=f) (y:=y) o.w1 (e0:=vA (bH w h f)) (e1:=vA (.int (y:Int))) (xs:=List.range w) (acc:=[]) (e6:=none) (e7:=none) (e8:=none) (e9:=none) (λ x hx=>z2e hx) (by rw[z2d,List.length_nil];omega);exact cC (aL (bw (au rfl rfl (JT hy)) rfl) (aL (bw (au rfl (aO (aD (au rfl rfl rfl) (aA rfl)) QD) (JT (by omega))) rfl) (aL (bw (au (aO (aA rfl) DP) rfl (abb o.w1)) rfl) (aL (jt rfl)
  (aL (gY (uq (aA (aY (aA rfl) (DR o.w1 o.w2))) rfl) e) (bC (d:= .lst ((List.range w).map λ x=>eU (uo w f y x))) rfl))))))
theorem Ol {a b:Str}:lY (.str a) (.str b)= .ok (.bl (a ==b)):=by
 rw[lY,if_pos (by simp[dep])];show R.ok (D.bl (cP (.str a) (.str b)))=_;simp[jX,jY,jZ,j5,j7,gw,dY]
def Yk (w h:Nat) (f:Nat->Nat->Int) (y x i:Nat):Int:=Oj w h f y x
theorem Zy (o:Ok w h f):nD [bH w h f,.str "worth"]= .ok (tab w h (Yk w h f)):=by
 have mJ:=o.h2;have w20:=o.w2;exact cC (qb (iB (bf (b:=true) (au rfl rfl Ol)) (bC (bL (c:=λ y=>row w (Oj w h f y)) (h:=λ y=> .lst ((List.range w).map λ x=>eU (Yk w h f y x))) (l:=List.range h) (fB (aY (aA rfl) (T4 o))) (by rw[z2d];omega) λ y hy=>
  bW rfl (bL (c:=λ x=> .int (Oj w h f y x)) (h:=λ x=>eU (Yk w h f y x)) (l:=List.range w) (fB rfl) (by rw[z2d];omega) λ x hx=>bW rfl (gA (aD rfl (aD rfl (aA rfl)))))))))
theorem Zz (o:Ok w h f):nD [bH w h f,.str "joins"]= .ok (tab w h (uo w f)):=by
 have mJ:=o.h2;exact cC (aL (cT (bf (b:=false) (au rfl rfl Ol)) rfl) (bC (bL (c:=λ (y:Nat)=>D.int (y:Int)) (h:=λ y=> .lst ((List.range w).map λ x=>eU (uo w f y x))) (l:=List.range h) (gU (aA (aO (aA rfl) DQ)) (by omega)) (by rw[z2d];omega) λ y hy=>
  bW rfl (aY (aD rfl (aA rfl)) (G3 o (z2e hy))))))
def fare (T:Nat->Nat->Nat->Int) (s:Nat->Nat) (y:Nat):Int:=T y (s y) (s (y - 1)+1 - s y)
def cost (h:Nat) (T:Nat->Nat->Nat->Int) (s:Nat->Nat):Int:=T 0 (s 0) 1+((List.range (h - 1)).map λ y=>fare T s (y+1)).sum
theorem Ca {T:Nat->Int} {p:Nat->D} {a b:Nat} (hb:b < w) (h1:b<=a+1) (h2:a<=b+1) (hp:p b=eU T):gZ [.lst ((List.range w).map p),.int (a:Int),.int (b:Int)]= .ok (.int (T (a+1 - b))):=by
 refine cC (bC (au (x:=eU T) (y:= .int ((a+1 - b:Nat):Int)) (au rfl rfl ((mK (α:=D) hb).trans (congrArg R.ok hp))) (au (au rfl rfl rfl) rfl ?_) (gW (i:=a+1 - b) ?_)))
 ·show R.ok (D.int ((a:Int) - (b:Int)+1))=_;rw[show (a:Int) - (b:Int)+1=((a+1 - b:Nat):Int) by omega]
 ·have:a+1 - b=0\/a+1 - b=1\/a+1 - b=2:=by omega
  rcases this with e |e |e <;> rw[e] <;> rfl
theorem abd {a b:Int} (h:ρ[i]?=some (some (.val (.int a)))) (e:u ρ= .ok (.int b)):Jl i u ρ= .nx (ρ.set i (some (.val (.int (a+b))))):=by
 unfold Jl;simp only[h];rw[e];rfl
theorem DY {m:Str} (hm:m= "worth"\/m= "joins"):jh [.str m]= .ok .non:=by
 rcases hm with rfl |rfl
 ·exact Bg (cT (bf (b:=false) (au rfl rfl (by simp[Nt,Qk,gH,jX,jY,jZ,j5,j7,gw,dY]))) rfl)
 ·exact Bg (cT (bf (b:=false) (au rfl rfl (by simp[Nt,Qk,gH,jX,jY,jZ,j5,j7,gw,dY]))) rfl)
def tbl (m:Str) (w h:Nat) (f:Nat->Nat->Int):Nat->Nat->Nat->Int:=if m= "worth" then Yk w h f else uo w f
end
section
variable {n w h:Nat} {g:Nat->Int} {f:Nat->Nat->Int} {s:Nat->Nat} {c:Int} {m:Str} {ρ:ao}
theorem WK {F:List D->R D} {n j:Nat} {sel:List (Sum Nat D)} {fk:ao->R (List D)} {zs:List D} {d:D} (e1:fa ρ= .ok ds) (e2:fk ρ= .ok zs) (e3:F (ds++pickK .non sel zs)= .ok d) (hl:(ds++pickK .non sel zs).length=n:=by rfl) (hj:zs.length=j:=by rfl):Ie F n j sel fa fk ρ= .ok d:=by
 rw[Ie,e1,R.aR,e2,R.aR,if_pos hj,aV,if_pos hl,e3];rfl
theorem Om {c:ao->R Bool} {f g:ao->R D} {r:R D} (e:c ρ= .ok true) (h:f ρ=r):Fp c f g ρ=r:=by rw[Fp,e,R.aR,if_pos rfl,h]
theorem Oo {c:ao->R Bool} {f g:ao->R D} {r:R D} (e:c ρ= .ok false) (h:g ρ=r):Fp c f g ρ=r:=by rw[Fp,e,R.aR,if_neg (by decide),h]
end
abbrev Wy:=Int×Int×List Int
def fl (t:Wy):List Int:=t.1::t.2.1::t.2.2
def un (l:List Int):Wy:=(l.getD 0 0,l.getD 1 0,l.drop 2)
theorem QF (t:Wy):un (fl t)=t:=rfl
theorem T5 (h:fl a=fl b):a=b:=by have:=congrArg un h;simpa[QF] using this
def fG (t:Wy):D:= .tup [.int t.1,.int t.2.1,.tup (t.2.2.map .int)]
theorem zZ (t:Wy):fG t=iw (fl t):=rfl
def cH (l:List Wy):D:= .lst (l.map fG)
section
variable {n w h:Nat} {g:Nat->Int} {f:Nat->Nat->Int} {ρ:ao}
theorem Oq {es:List D} (h:ρ[i]?=some (some (.lst ds))) (e:u ρ= .ok (.lst es)) (hl:ds.length+es.length<=1000000):zV i u ρ= .nx (ρ.set i (some (.lst (ds++es)))):=by
 unfold zV;simp only[h,e,tU,fQ];rw[if_pos hl]
theorem ZC {es:List D} (h:ρ[i]?=some (some (.lst ds))) (h2:ρ[k]?=some (some (.lst es))) (hl:ds.length < 1000000):Jq i k ρ= .nx ((ρ.set i (some (.lst (ds++[.lst es])))).set k (some (.val (.lst es)))):=by
 unfold Jq;simp only[h,h2];rw[if_pos hl]
theorem JV {a:Nat} {G:List D->R D} {n:Nat} {d:D} (h:ρ[i]?=some (some (.obj (.fn a)))) (e:fa ρ= .ok ds) (e2:G ds= .ok d) (hl:ds.length=n:=by rfl):yI i a G n fa ρ= .ok d:=by
 unfold yI;simp only[h,e,if_true,R.aR,aV,hl,e2];rfl
theorem T6 {k:Int} {d:D} (h:ρ[i]?=some (some (.lst ds))) (e:u ρ= .ok (.int k)) (e2:bZ (.lst ds) (.int k)= .ok d):wO i u ρ= .ok d:=by
 unfold wO;simp only[h,e,R.aR,e2]
theorem yM (e:u ρ= .ok (.lst ds)):Jx u ρ= .ok (!ds.isEmpty):=by unfold Jx;rw[e];rfl
theorem kJ {m:Nat} {s:ao->So} {es:List Ent} {d:D} (e:s (es.map some++List.replicate m none)= .rt d):iC m s es= .ok d:=by rw[iC,e]
def nr (w x:Nat):List Nat:=List.range' (x - 1) (min (x+2) w - (x - 1))
theorem Cd {p:Nat} (hx:x < w):p∈nr w x↔p < w/\p<=x+1/\x<=p+1:=by
 unfold nr;rw[List.mem_range'_1,Nat.add_sub_cancel' (Nat.le_min.mpr ⟨z0b (Nat.sub_le x 1) (Nat.le_add_right x 2),z0b (Nat.sub_le x 1) (z0e hx)⟩),Nat.lt_min];exact⟨λ h=>⟨h.2.2,Nat.le_of_lt_succ h.2.1,Nat.le_add_of_sub_le h.1⟩,λ h=>⟨Nat.sub_le_of_le_add h.2.2,Nat.lt_succ_of_le h.2.1,h.1⟩⟩
theorem T7:(nr w x).length<=3:=by unfold nr;rw[List.length_range'];omega
theorem ZD (hx:x < w) (hw:w<=20):xg [.int (x:Int),.int (w:Int)]= .ok (.lst ((nr w x).map λ (p:Nat)=>D.int (p:Int))):=by
 have e2:minD [.int ((x+2:Nat):Int),.int (w:Int)]= .ok (.int ((min (x+2) w:Nat):Int)):=by
  show R.ok (D.int (if (w:Int) < ((x+2:Nat):Int) then (w:Int) else ((x+2:Nat):Int)))=_;congr 2;by_cases hz:w < x+2
  ·rw[if_pos (Int.ofNat_lt.mpr hz),Nat.min_eq_right (z0e hz)]
  ·rw[if_neg (λ q=>hz (Int.ofNat_lt.mp q)),Nat.min_eq_left (Nat.le_of_not_lt hz)]
 refine cC (bC (aO (aD (x:= .int ((x - 1:Nat):Int)) (aO (aD (au rfl rfl rfl) (aA rfl)) QD) (aA (x:= .int ((min (x+2) w:Nat):Int)) (aO (aD (x:= .int ((x+2:Nat):Int)) (au rfl rfl rfl) (aA rfl)) e2))) ?_));show (if _ then _ else _)=_;have b1:x - 1<=1000:=z0b (Nat.sub_le x 1) (z0b (z0e hx) (z0b hw (by decide)));have b2:min (x+2) w<=1000:=z0b (Nat.min_le_right _ _) (z0b hw (by decide));rw[if_pos ⟨Int.le_trans (by decide) (Int.natCast_nonneg _),Int.ofNat_le.mpr b1,Int.le_trans (by decide) (Int.natCast_nonneg _),Int.ofNat_le.mpr b2⟩];congr 2;unfold upto nr;rw[Int.toNat_sub,List.range'_eq_map_range,List.map_map];refine List.map_congr_left λ i _=>?_;simp
def eZ (c:Int) (t:Wy):Wy:=(t.1,t.2.1+c,t.2.2)
def cands (w:Nat) (C:Nat->List Wy) (T:Nat->Nat->Int) (x:Nat):List Wy:=(nr w x).flatMap λ p=>(C p).map (eZ (T p (x+1 - p)))
variable {C:Nat->List Wy} {T:Nat->Nat->Int}
theorem abe {p:Nat} (hx:x < w) (hp:p∈nr w x) (hC:(C p).length<=1) (hl:acc.length<=1000):
  onB [vA (.lst ((List.range w).map λ x=>cH (C x))),vA (.lst ((List.range w).map λ x=>eU (T x))),vA (.int (x:Int)),some (.lst acc),vA (.int (p:Int)),e5] =
   .nx [vA (.lst ((List.range w).map λ x=>cH (C x))),vA (.lst ((List.range w).map λ x=>eU (T x))),vA (.int (x:Int)),some (.lst (acc++((C p).map (eZ (T p (x+1 - p)))).map fG)),vA (.int (p:Int)),vA (.int (T p (x+1 - p)))]:=by
 obtain⟨h1,h2,h3⟩:=(Cd hx).mp hp;refine aL (bw (aY (aD rfl (aD rfl (aA rfl))) (Ca (T:=T p) (p:=λ x=>eU (T x)) h1 (by omega) (by omega) rfl)) rfl) ?_;refine Oq (ds:=acc) rfl (bL (c:=fG) (h:=λ t=>fG (eZ (T p (x+1 - p)) t)) (l:=C p) (m9 (au rfl rfl (mK (α:=D) h1))) (by omega) λ t ht=>?_) (by simp;omega) |>.trans ?_
 ·exact bW rfl (gA (aD rfl (aD (x:= .int (t.2.1+T p (x+1 - p))) (au rfl rfl rfl) (aA rfl))))
 ·rw[List.map_map];rfl
theorem Ot {x:Nat} (hx:x < w) (hC:∀p < w,(C p).length<=1):∀{ps:List Nat} {acc:List D} {e4 e5:Option Ent},(∀p∈ps,p∈nr w x)->acc.length+ps.length<=1000->
  ∃ z4 z5,forL (aF 4) onB (ps.map λ (p:Nat)=>D.int (p:Int)) [vA (.lst ((List.range w).map λ x=>cH (C x))),vA (.lst ((List.range w).map λ x=>eU (T x))),vA (.int (x:Int)),some (.lst acc),e4,e5] =
   .nx [vA (.lst ((List.range w).map λ x=>cH (C x))),vA (.lst ((List.range w).map λ x=>eU (T x))),vA (.int (x:Int)),some (.lst (acc++(ps.flatMap λ p=>(C p).map (eZ (T p (x+1 - p)))).map fG)),z4,z5]
 |[],acc,e4,e5,_,_=>⟨e4,e5,by simp[forL]⟩
 | p::ps,acc,e4,e5,hp,hl=>by
  rw[List.length_cons] at hl;have hpn:=hp p (by simp);have hpw:=((Cd hx).mp hpn).1;have hc:=hC p hpw;obtain⟨z4,z5,e⟩:=Ot hx hC (ps:=ps) (acc:=acc++((C p).map (eZ (T p (x+1 - p)))).map fG) (e4:=vA (.int (p:Int))) (e5:=vA (.int (T p (x+1 - p)))) (λ q hq=>hp q (by simp[hq])) (by simp;omega);refine⟨z4,z5,cQ rfl (abe hx hpn hc (by omega)) (e.trans ?_)⟩;rw[List.flatMap_cons,List.map_append,List.append_assoc]
theorem T8 (hx:x < w) (hw:w<=20) (hC:∀p < w,(C p).length<=1):nF [.lst ((List.range w).map λ x=>cH (C x)),.lst ((List.range w).map λ x=>eU (T x)),.int (x:Int)]= .ok (.lst ((cands w C T x).map fG)):=by
 obtain⟨z4,z5,e⟩:=Ot (T:=T) hx hC (ps:=nr w x) (acc:=[]) (e4:=none) (e5:=none) (λ p hp=>hp) (by have:=T7 (w:=w) (x:=x);simp;omega);have hlen:cJ [.lst ((List.range w).map λ x=>cH (C x))]= .ok (.int (w:Int)):=by simp[cJ]
 refine cC (aL (jt rfl) (aL (gY (m9 (aY (aD rfl (aA (aO (aA rfl) hlen))) (ZD hx hw))) e) (bC rfl)))
end
section
variable {n w h:Nat} {g:Nat->Int} {f:Nat->Nat->Int} {ρ:ao}
theorem Ik {i:Int}:lY (.int i) (.int j)= .ok (.bl (decide (i=j))):=by
 rw[lY,if_pos (by simp[dep])];show R.ok (D.bl (cP (.int i) (.int j)))=_;by_cases h:i=j <;> simp[jX,jY,jZ,j5,j7,gw,dY,h]
def cu (cs:List Wy):List Wy:=((jG (cs.map fl)).take 1).map un
def pre (x:Nat) (t:Wy):Wy:=(t.1,t.2.1,(x:Int)::t.2.2)
theorem uW:∀cs:List Wy,nu (cs.map fG)=some (cs.map fl)
 |[]=>rfl
 | t::cs=>by
  rw[z1h,nu,uW cs,zZ,show uf (iw (fl t))=some (fl t) from Jv];rfl
theorem JW:∀l∈jG (cs.map fl),fl (un l)=l:=λ l hl=>by
 obtain⟨t,_,rfl⟩:=List.mem_map.mp ((iK _).mem_iff.mp hl);rw[QF]
theorem uX:∀t∈cu cs,t∈cs:=λ t ht=>by
 obtain⟨l,hl,rfl⟩:=List.mem_map.mp ht;have hl:=List.mem_of_mem_take hl;obtain⟨t,h1,rfl⟩:=List.mem_map.mp ((iK _).mem_iff.mp hl);rw[QF];exact h1
theorem pQ:(cu cs).length<=1:=by unfold cu;simp;omega
theorem vU (hl:cs.length < 64) (hn:(cs.map fl).Nodup) (hp:∀t∈cs,t.2.2.length<=100):dN 1 [.int (x:Int),.lst (cs.map fG)]= .ok (cH ((cu cs).map (pre x))):=by
 have e1:mq [.lst (cs.map fG)]= .ok (.lst ((jG (cs.map fl)).map iw)):=by
  rw[mq,uW];show (if _ then _ else _)=_;rw[if_pos ⟨by simpa using hl,hn⟩]
 have e2:jE ((jG (cs.map fl)).map iw) none (some 1)=(cu cs).map fG:=by
  have e3:∀{n d:Nat},HT.sIx n d (some 1)=min 1 n:=λ {n d}=>by
   show (if (1:Int) < 0 then ((1:Int)+(n:Int)).toNat else min (1:Int).toNat n)=min 1 n;rw[if_neg (by decide)];rfl
  rw[jE,e3,BX,Nat.sub_zero,List.drop_zero,<-List.map_take];have e4:∀l:List (List Int),l.take (min 1 (l.map iw).length)=l.take 1:=λ l=>by cases l <;> simp
  rw[e4];unfold cu;rw[List.map_map];refine List.map_congr_left λ l hl=>?_;show iw l=fG (un l);rw[zZ,JW l (List.mem_of_mem_take hl)]
 have e5:cH ((cu cs).map (pre x))= .lst ((cu cs).map λ t=>fG (pre x t)):=by unfold cH;rw[List.map_map];rfl
 rw[e5];refine kJ (bC (bL (c:=fG) (h:=λ t=>fG (pre x t)) (l:=cu cs) (m9 (ds:=(cu cs).map fG) ?_) (by have:=pQ (cs:=cs);omega) λ t ht=>?_))
 ·show eN _ _ _ _=_;unfold eN;rw[aO (aA rfl) e1];show R.ok (D.lst (jE _ none (some 1)))=_;rw[e2]
 ·refine bW rfl (gA (aD rfl (aD rfl (aA (x:= .tup ((((x:Int)::t.2.2)).map .int)) (au (gA (aA rfl)) rfl ?_)))));have:=hp t (uX t ht);exact Oi (xs:=[.int (x:Int)]) (ys:=t.2.2.map .int) (by simp;omega)
end
def eG (m:Int):Int:=if m=2 then 1 else 0
def sb (c:Int) (t:Wy):Wy:=(t.1 - c,t.2.1,t.2.2)
def jO (x:Nat) (m:Int) (cs:List Wy):List Wy:=if m=1 then [] else ((cu cs).map (pre x)).map (sb (eG m))
section
variable {w h a y:Nat} {T:Nat->Nat->Nat->Int} {M:Nat->Nat->Int} {ρ:ao}
theorem WL {l:List Wy} (hl:l.length<=1) (ha:acc.length<=1000):
  Ye [e0,e1,e2,e3,e4,e5,some (.lst acc),e7,vA (.int m),vA (cH l),e10]= .nx [e0,e1,e2,e3,e4,e5,some (.lst (acc++[cH (l.map (sb (eG m)))])),e7,vA (.int m),vA (cH l),vA (.int (eG m))]:=by
 have e:(Fp (cI (bin (gv 8) (ci 2) lY)) (ci 1) (ci 0)) [e0,e1,e2,e3,e4,e5,some (.lst acc),e7,vA (.int m),vA (cH l),e10]= .ok (.int (eG m)):=by
  unfold eG;by_cases hm:m=2
  ·rw[if_pos hm];exact Om (bf (au rfl rfl (by rw[Ik,decide_eq_true hm]))) rfl
  ·rw[if_neg hm];exact Oo (bf (au rfl rfl (by rw[Ik,decide_eq_false hm]))) rfl
 refine aL (bw e rfl) ?_;have e2:cH (l.map (sb (eG m)))= .lst (l.map λ t=>fG (sb (eG m) t)):=by unfold cH;rw[List.map_map];rfl
 rw[e2];refine oV (ds:=acc) (bL (c:=fG) (h:=λ t=>fG (sb (eG m) t)) (l:=l) (m9 rfl) (by omega) λ t ht=>?_) rfl (by omega);exact bW rfl (gA (aD (x:= .int (t.1 - eG m)) (au rfl rfl rfl) (aD rfl (aA rfl))))
inductive T9 (w:Nat) (T:Nat->Nat->Nat->Int) (y:Nat):List D->(Nat->List Wy)->Prop
 |last:T9 w T y [] λ _=>[(0,0,[])]
 |more (rs:List D) (C:Nat->List Wy):(∀p < w,(C p).length<=1)->T9 w T y (rs++[.lst ((List.range w).map λ x=>cH (C x))]) (cands w C (T (y+1)))
theorem WM {rows:List D} {cs:Nat->List Wy} (B:T9 w T y rows cs) (hy:rows≠[]->y+1 < h) (hx:x < w) (hw:w<=20) (hl:(cs x).length < 64) (hn:((cs x).map fl).Nodup) (hp:∀t∈cs x,t.2.2.length<=100):
  Yd a (dN 1) [vA (tab w h T),e1,vA (.tup []),some (.obj (.fn a)),some (.lst rows),vA (.int (y:Int)),e6,vA (.int (x:Int)),vA (.int m),e9,e10] =
   .nx [vA (tab w h T),e1,vA (.tup []),some (.obj (.fn a)),some (.lst rows),vA (.int (y:Int)),e6,vA (.int (x:Int)),vA (.int m),vA (cH (if m=1 then [] else (cu (cs x)).map (pre x))),e10]:=by
 have th:∀(u:Option Ent),Qg (vA (.int m))=vA (.int m):=λ _=>rfl;by_cases hm:m=1
 ·rw[if_pos hm];exact iB (bf (au rfl rfl (by rw[Ik,decide_eq_true hm]))) (bw (j9 rfl) rfl)
 ·rw [if_neg hm];refine cT (bf (au rfl rfl (by rw[Ik,decide_eq_false hm]))) ?_;cases B with
  | last=>
   refine iB (eX (yM (ds:=[]) rfl)) (bw (JV rfl (aD rfl (aA (j9 (aA (gA (aD rfl (aD rfl (aA rfl)))))))) (vU (cs:=[(0,0,[])]) hl hn hp)) rfl)
  | more rs C hC=>
   have hy:=hy (by simp);refine cT (eX (yM (ds:=rs++[.lst ((List.range w).map λ x=>cH (C x))]) rfl) |>.trans (by simp)) (bw (JV rfl (aD rfl (aA (aY (aD (x:= .lst ((List.range w).map λ x=>cH (C x))) (T6 rfl (k:= -1) rfl ?_) (aD (au rfl (au (x:= .int (y:Int)) (y:= .int 1) (r:= .ok (.int ((y+1:Nat):Int))) rfl rfl rfl) (mK (α:=D) hy)) (aA rfl))) (T8 (C:=C) (T:=T (y+1)) hx hw hC)))) (vU hl hn hp)) rfl);rw[bZ];have:L2.atI (rs++[D.lst ((List.range w).map λ x=>cH (C x))]) (-1)=some (.lst ((List.range w).map λ x=>cH (C x))):=by
    unfold L2.atI ixN;rw[if_neg (by decide),if_pos (by simp;omega)];simp only[z1d,List.length_singleton,Option.bind_some];rw[show ((-1:Int)+((rs.length+1:Nat):Int)).toNat=rs.length by omega,List.getElem?_append_right (z0g _)];simp
   rw[this]
end
def mR (w h:Nat) (T:Nat->Nat->Nat->Int) (M:Nat->Nat->Int):Nat->Nat->List Wy
 |0,_=>[(0,0,[])]
 |k+1,x=>cands w (λ p=>jO p (M (h - 1 - k) p) (mR w h T M k p)) (T (h - 1 - k)) x
def mU (w h:Nat) (T:Nat->Nat->Nat->Int) (M:Nat->Nat->Int) (k x:Nat):List Wy:=jO x (M (h - 1 - k) x) (mR w h T M k x)
section
variable {w h a:Nat} {T:Nat->Nat->Nat->Int} {M:Nat->Nat->Int} {ρ:ao}
theorem nG:mR w h T M (k+1) x=cands w (mU w h T M k) (T (h - 1 - k)) x:=rfl
theorem nH:(jO x m cs).length<=1:=by
 unfold jO;split
 ·simp
 ·have:=pQ (cs:=cs);simpa using this
theorem lC {t:Wy} (h:t∈jO x m cs):∃u∈cs,t=sb (eG m) (pre x u):=by
 unfold jO at h;split at h
 ·simp at h
 ·rw[List.map_map] at h;obtain⟨u,hu,rfl⟩:=List.mem_map.mp h;exact⟨u,uX u hu,rfl⟩
theorem Aa {α β:Type} {F:α->List β}:∀{l:List α},(∀a∈l,(F a).length<=1)->(l.flatMap F).length<=l.length
 |[],_=>by simp
 | a::l,h=>by
  rw[List.flatMap_cons,z1d,List.length_cons];have h1:=h a (by simp);have h2:=Aa (l:=l) λ b hb=>h b (by simp[hb]);omega
theorem ZF:∀{k x:Nat},(mR w h T M k x).length < 64
 |0,_=>by simp[mR]
 | k+1,x=>by
  rw[nG];unfold cands;have:=Aa (F:=λ p=>(mU w h T M k p).map (eZ (T (h - 1 - k) p (x+1 - p)))) (l:=nr w x) λ p _=>by rw[z1g];exact nH
  have h2:=T7 (w:=w) (x:=x);omega
theorem Ua:∀{k x:Nat},∀t∈mR w h T M k x,t.2.2.length=k
 |0,_,t,ht=>by simp[mR] at ht;subst ht;rfl
 | k+1,x,t,ht=>by
  rw[nG] at ht;obtain⟨p,_,hp⟩:=List.mem_flatMap.mp ht;obtain⟨u,hu,rfl⟩:=List.mem_map.mp hp;obtain⟨v,hv,rfl⟩:=lC hu;show (((p:Nat):Int)::v.2.2).length=k+1;rw[List.length_cons,Ua v hv]
theorem JX:∀{k x:Nat},((mR w h T M k x).map fl).Nodup
 |0,_=>by simp[mR]
 | k +1,x=>by
  rw[nG];unfold cands List.Nodup;rw[List.pairwise_map,List.pairwise_flatMap];refine⟨λ p _=>?_,?_⟩
  ·have hl:((mU w h T M k p).map (eZ (T (h - 1 - k) p (x+1 - p)))).length<=1:=by rw[z1g];exact nH
   match (mU w h T M k p).map (eZ (T (h - 1 - k) p (x+1 - p))),hl with
   |[],_=>exact .nil
   |[_],_=>simp
   |_::_::_,hl=>simp at hl
  ·have nd:(nr w x).Nodup:=List.nodup_range';refine nd.imp λ {p q} hpq t ht u hu z=>?_;obtain⟨t',ht',rfl⟩:=List.mem_map.mp ht;obtain⟨u',hu',rfl⟩:=List.mem_map.mp hu;obtain⟨t2,_,rfl⟩:=lC ht';obtain⟨u2,_,rfl⟩:=lC hu';have:=T5 z;have h2:((p:Nat):Int)::t2.2.2=((q:Nat):Int)::u2.2.2:=congrArg (λ t:Wy=>t.2.2) this;have h3:((p:Nat):Int)=((q:Nat):Int):=(List.cons.inj h2).1;exact hpq (by omega)
def sO (w h:Nat) (T:Nat->Nat->Nat->Int) (M:Nat->Nat->Int) (k:Nat):D:= .lst ((List.range w).map λ x=>cH (mU w h T M k x))
theorem Ou {y:Nat} {rows:List D} {cs:Nat->List Wy} (B:T9 w T y rows cs) (hy:rows≠[]->y+1 < h) (hw:w<=20) (hl:∀x,(cs x).length < 64) (hn:∀x,((cs x).map fl).Nodup) (hp:∀x,∀t∈cs x,t.2.2.length<=100) {e1:Option Ent}:∀{xs:List Nat} {acc:List D} {e7 e8 e9 e10:Option Ent},(∀x∈xs,x < w)->acc.length+xs.length<=1000->
  ∃ z7 z8 z9 oW,forL (cD (cF 2 (aQ (aF 7) (aQ (aF 8) nilG)))) (inW a (dN 1)) (xs.map λ (x:Nat)=>D.tup [.int (x:Int),.int (M y x)]) [vA (tab w h T),e1,vA (.tup []),some (.obj (.fn a)),some (.lst rows),vA (.int (y:Int)),some (.lst acc),e7,e8,e9,e10] =
   .nx [vA (tab w h T),e1,vA (.tup []),some (.obj (.fn a)),some (.lst rows),vA (.int (y:Int)),some (.lst (acc++xs.map λ x=>cH (jO x (M y x) (cs x)))),z7,z8,z9,oW]
 |[],acc,e7,e8,e9,e10,_,_=>⟨e7,e8,e9,e10,by simp[forL]⟩
 | x ::xs,acc,e7,e8,e9,e10,hx,hle=>by
  rw[List.length_cons] at hle;have hxw:=hx x (by simp);obtain⟨z7,z8,z9,oW,e⟩:=Ou B hy hw hl hn hp (e1:=e1) (xs:=xs) (acc:=acc++[cH (jO x (M y x) (cs x))]) (e7:=vA (.int (x:Int))) (e8:=vA (.int (M y x))) (e9:=vA (cH (if M y x=1 then [] else (cu (cs x)).map (pre x)))) (e10:=vA (.int (eG (M y x)))) (λ q hq=>hx q (by simp[hq])) (by simp;omega);refine⟨z7,z8,z9,oW,cQ rfl (aL (WM B hy hxw hw (hl x) (hn x) (hp x)) (WL ?_ (by omega) |>.trans ?_)) (e.trans ?_)⟩
  ·split
   ·simp
   ·have:=pQ (cs:=cs x);simpa using this
  ·have:jO x (M y x) (cs x)=(if M y x=1 then [] else (cu (cs x)).map (pre x)).map (sb (eG (M y x))):=by unfold jO;split <;> rfl
   rw[this]
  ·rw[z1h,List.append_assoc];rfl
def dn (r:Nat):List D:=(List.range r).map λ (i:Nat)=>D.int ((r:Int) - 1 - (i:Int))
theorem ZG (r:Nat):dn (r+1)=D.int (r:Int)::dn r:=by
 unfold dn;rw[List.range_succ_eq_map,z1h,List.map_map];congr 1
 ·congr 1;omega
 ·refine List.map_congr_left λ i _=>?_;show D.int _=D.int _;congr 1;simp only[Nat.succ_eq_add_one];omega
theorem abf (hk:k < h) (hy:y=h - 1 - k):T9 w T y ((List.range k).map (sO w h T M)) (mR w h T M k):=by
 cases k with
 |zero=>exact .last
 | succ k=>
  rw[List.range_succ,List.map_append];have e:mR w h T M (k+1)=cands w (mU w h T M k) (T (y+1)):=by
   funext x;rw[nG,show y+1=h - 1 - k by omega]
  rw[e];exact .more _ _ λ p _=>nH
theorem abg (hk:k < h) (hy:y=h - 1 - k) (hh:h<=20) (hw:w<=20):∃z6 z7 z8 z9 oW,Ww a (dN 1) [vA (tab w h T),vA (bH w h M),vA (.tup []),some (.obj (.fn a)),some (.lst ((List.range k).map (sO w h T M))),vA (.int (y:Int)),e6,e7,e8,e9,e10] =
  .nx [vA (tab w h T),vA (bH w h M),vA (.tup []),some (.obj (.fn a)),some (.lst ((List.range (k+1)).map (sO w h T M))),vA (.int (y:Int)),z6,z7,z8,z9,oW]:=by
 obtain⟨z7,z8,z9,oW,e⟩:=Ou (h:=h) (a:=a) (M:=M) (e1:=vA (bH w h M)) (abf (w:=w) (T:=T) (M:=M) hk hy) (λ hne=>by
  have:k≠0:=λ z=>hne (by rw[z];rfl);omega) hw (λ x=>ZF) (λ x=>JX) (λ x t ht=>by rw[Ua t ht];omega) (xs:=List.range w) (acc:=[]) (e7:=e7) (e8:=e8) (e9:=e9) (e10:=e10) (λ x hx=>z2e hx) (by simp;omega)
 refine⟨vA (.lst ([]++(List.range w).map λ x=>cH (jO x (M y x) (mR w h T M k x)))),z7,z8,z9,oW,aL (jt rfl) (aL (gY (uq (aA (au rfl rfl (JT (by omega)))) rfl) e) ((ZC (ds:=(List.range k).map (sO w h T M)) (es:=[]++(List.range w).map λ x=>cH (jO x (M y x) (mR w h T M k x))) rfl rfl (by rw[z1g,z2d];omega)).trans ?_))⟩;rw[List.range_succ,List.map_append];have er:((List.range w).map λ x=>cH (jO x (M y x) (mR w h T M k x)))=(List.range w).map λ x=>cH (mU w h T M k x):=by
  refine List.map_congr_left λ x _=>?_;unfold mU;rw[hy]
 simp only[List.nil_append];rw[er];rfl
theorem JZ (hh:h<=20) (hw:w<=20):∀{r k:Nat} {e5 e6 e7 e8 e9 e10:Option Ent},k+r=h->∃z5 z6 z7 z8 z9 oW,forL (aF 5) (Ww a (dN 1)) (dn r) [vA (tab w h T),vA (bH w h M),vA (.tup []),some (.obj (.fn a)),some (.lst ((List.range k).map (sO w h T M))),e5,e6,e7,e8,e9,e10] =
  .nx [vA (tab w h T),vA (bH w h M),vA (.tup []),some (.obj (.fn a)),some (.lst ((List.range h).map (sO w h T M))),z5,z6,z7,z8,z9,oW]
 |0,k,e5,e6,e7,e8,e9,e10,hk=>⟨e5,e6,e7,e8,e9,e10,by rw[show k=h by omega];rfl⟩
 | r+1,k,e5,e6,e7,e8,e9,e10,hk=>by
  obtain⟨y6,y7,y8,y9,y10,e1⟩:=abg (a:=a) (w:=w) (T:=T) (M:=M) (k:=k) (y:=r) (by omega) (by omega) hh hw (e6:=e6) (e7:=e7) (e8:=e8) (e9:=e9) (e10:=e10);obtain⟨z5,z6,z7,z8,z9,oW,e2⟩:=JZ hh hw (r:=r) (k:=k+1) (e5:=vA (.int (r:Int))) (e6:=y6) (e7:=y7) (e8:=y8) (e9:=y9) (e10:=y10) (by omega);rw[ZG];exact⟨z5,z6,z7,z8,z9,oW,cQ rfl e1 e2⟩
theorem WQ (hh:h<=20) (hw:w<=20):qe a (dN 1) [tab w h T,bH w h M,.tup []]= .ok (.lst ((List.range h).map (sO w h T M)).reverse):=by
 obtain⟨z5,z6,z7,z8,z9,oW,e⟩:=JZ (a:=a) (w:=w) (T:=T) (M:=M) hh hw (r:=h) (k:=0) (e5:=none) (e6:=none) (e7:=none) (e8:=none) (e9:=none) (e10:=none) (by omega);have er:Jr [.int (h:Int)]= .ok (dn h):=by
  show (if _ then _ else _)=_;rw[if_pos (by omega)];rfl
 refine kJ (aL (jt rfl) (aL (gY ?_ e) (bC ?_)))
 ·show ((ak (aB cJ (ak (gv 1) nA)) nA) _).bind Jr=_;rw[aA (aO (aA rfl) DQ)];exact er
 ·show Ih _ _=_;unfold Ih;rfl
end
section
variable {w h:Nat} {T:Nat->Nat->Nat->Int} {M:Nat->Nat->Int} {f:Nat->Nat->Int} {m:Str} {ρ:ao}
theorem ZJ (hh:h<=20) (hw:w<=20):ou [tab w h T,bH w h M,.int 1]= .ok (.lst ((List.range h).map (sO w h T M)).reverse):=by
 refine kJ ?_;show (match allOf (λ x=>qe x (dN 1) [tab w h T,bH w h M,.tup []]) with | .ok r=>So.rt r |_=> .bad)=_;rw[Wf λ a=>WQ hh hw]
theorem Ub {F:Nat->D}:((List.range h).map F).reverse=(List.range h).map λ y=>F (h - 1 - y):=by
 apply List.ext_getElem?;intro i;by_cases hi:i < h
 ·rw[List.getElem?_reverse (by simpa using hi),z2b,z2b,List.getElem?_range hi,z1g,z2d,List.getElem?_range (by omega)];rfl
 ·rw[List.getElem?_eq_none (by simp;omega),List.getElem?_eq_none (by simp;omega)]
theorem mul_one {d:D} (h1:1<=k) (mJ:k<=20):sI (.tup [d]) (.int (k:Int))= .ok (.tup ((List.range k).map λ _=>d)):=by
 rw[sI,if_pos ⟨by simp,by omega,by omega,by simp;omega⟩];congr 2;rw[show ((k:Nat):Int).toNat=k by omega]
 clear h1 mJ
 induction k with
 |zero=>rfl
 |succ k ih=>rw[List.replicate_succ,List.flatten_cons,ih,List.range_succ_eq_map,z1h,List.map_map];rfl
theorem LR (o:Ok w h f):mF [bH w h f]= .ok (bH w h λ _ _=>0):=
 cC (bC (au (gA (aA (au (gA (aA rfl)) (len0 o rfl) (mul_one o.w1 o.w2)))) (aO (aA rfl) DQ) (mul_one o.h1 o.h2)))
theorem J4 (hm:m= "worth"\/m= "joins") (o:Ok w h f):nD [bH w h f,.str m]= .ok (tab w h (tbl m w h f)):=by
 rcases hm with rfl |rfl
 ·exact Zy o
 ·exact Zz o
end
abbrev lt (a b:Wy):Bool:=eY (fl a) (fl b)
section
variable {w h:Nat} {T:Nat->Nat->Nat->Int} {M:Nat->Nat->Int}
theorem Uc {c:Int}:lt (eZ c a) (eZ c b)=lt a b:=by
 obtain⟨a1,a2,a3⟩:=a;obtain⟨b1,b2,b3⟩:=b;simp only[lt,fl,eZ,eY];by_cases e1:a1=b1
 ·rw[if_pos e1,if_pos e1];by_cases e:a2=b2
  ·rw[if_pos (by omega),if_pos e]
  ·rw[if_neg (by omega),if_neg e];exact decide_eq_decide.mpr (by omega)
 ·rw[if_neg e1,if_neg e1]
theorem acz {c:Int}:lt (sb c a) (sb c b)=lt a b:=by
 obtain⟨a1,a2,a3⟩:=a;obtain⟨b1,b2,b3⟩:=b;simp only[lt,fl,sb,eY];by_cases e:a1=b1
 ·rw[if_pos (by omega),if_pos e]
 ·rw[if_neg (by omega),if_neg e];exact decide_eq_decide.mpr (by omega)
theorem abh:lt (pre x a) (pre x b)=lt a b:=by
 obtain⟨a1,a2,a3⟩:=a;obtain⟨b1,b2,b3⟩:=b;simp only[lt,fl,pre,eY,if_true]
theorem J5 {c:Wy} (h1:lt b a=false) (h2:lt c b=false):lt c a=false:=by
 cases z:lt c a with
 |false=>rfl
 | true=>
  by_cases e:fl b=fl a
  ·have h2:eY (fl c) (fl b)=false:=h2;rw[e] at h2;exact h2.symm.trans z |>.symm
  ·have:=lG z (yJ e h1);exact (this.symm.trans h2)
theorem qP (hn:(cs.map fl).Nodup) (hne:cs≠[]):∃v,cu cs=[v]/\v∈cs/\∀u∈cs,lt u v=false:=by
 have hr:=wV hn;cases es:jG (cs.map fl) with
 | nil=>
  have:=(iK (cs.map fl)).length_eq;rw[es,z1g] at this;exact absurd (List.length_eq_zero_iff.mp this.symm) hne
 | cons l ls=>
  have ef:cu cs=[un l]:=by unfold cu;rw[es];rfl
  rw[es] at hr;obtain⟨hr1,_⟩:=List.pairwise_cons.mp hr;have hl:l∈jG (cs.map fl):=by rw[es];exact List.mem_cons_self
  have hul:fl (un l)=l:=JW l hl;refine⟨un l,ef,uX _ (by rw[ef];exact List.mem_cons_self),λ u hu=>?_⟩;have hm:fl u∈jG (cs.map fl):=(iK _).mem_iff.mpr (List.mem_map_of_mem hu);rw[es] at hm;show eY (fl u) (fl (un l))=false;rw[hul];rcases List.mem_cons.mp hm with z |z
  ·rw[z];exact qd _
  ·cases q:eY (fl u) l with
   |false=>rfl
   |true=>have:=lG q (hr1 _ z);rw[qd] at this;cases this
def vl (T:Nat->Nat->Nat->Int) (M:Nat->Nat->Int):Nat->List Nat->Wy
 |_,[]=>(0,0,[])
 |y,[x]=>sb (eG (M y x)) (pre x (0,0,[]))
 |y,x::p::l=>sb (eG (M y x)) (pre x (eZ (T (y+1) p (x+1 - p)) (vl T M (y+1) (p::l))))
def Pa (w:Nat) (M:Nat->Nat->Int):Nat->List Nat->Prop
 |_,[]=>True
 |y,[x]=>x < w/\M y x≠1
 |y,x::p::l=>x < w/\M y x≠1/\p<=x+1/\x<=p+1/\Pa w M (y+1) (p::l)
theorem Pa.lt (h:Pa w M y (x::l)):x < w:=by
 cases l with
 |nil=>exact h.1
 |cons p l=>exact h.1
theorem Pa.ne (h:Pa w M y (x::l)):M y x≠1:=by
 cases l with
 |nil=>exact h.2
 |cons p l=>exact h.2.1
theorem Ov {t:Wy} (h:t∈jO x m cs):m≠1:=λ e=>by
 unfold jO at h;rw[if_pos e] at h;cases h
theorem Ud {h:Nat} (hk:k+1 < h):h - 1 - k=h - 1 - (k+1)+1:=by omega
theorem Gq:∀{k x:Nat} {t:Wy},x < w->k < h->t∈mU w h T M k x->∃l,l.length=k/\Pa w M (h - 1 - k) (x::l)/\t=vl T M (h - 1 - k) (x::l)
 | 0,x,t,hx,hk,ht=>by
  obtain⟨u,hu,e⟩:=lC ht;have hu:u=(0,0,[]):=by simpa[mR] using hu
  subst hu;exact⟨[],rfl,⟨hx,Ov ht⟩,e⟩
 | k+1,x,t,hx,hk,ht=>by
  obtain⟨u,hu,e⟩:=lC ht;have hm:=Ov ht;rw[nG] at hu;obtain⟨p,hp,hu⟩:=List.mem_flatMap.mp hu;obtain⟨v,hv,rfl⟩:=List.mem_map.mp hu;obtain⟨h1,h2,h3⟩:=(Cd hx).mp hp;obtain⟨l,hl,hP,hvl⟩:=Gq h1 (by omega) hv;have ey:h - 1 - k=h - 1 - (k+1)+1:=Ud hk;rw[ey] at hP hvl e;exact⟨p::l,by rw[List.length_cons,hl],⟨hx,hm,h2,h3,hP⟩,by rw[e,hvl];rfl⟩
theorem Gr {v:Wy} (hm:m≠1) (e:cu cs=[v]):jO x m cs=[sb (eG m) (pre x v)]:=by
 unfold jO;rw[if_neg hm,e];rfl
theorem Gs:∀{k x:Nat} {l:List Nat},l.length=k->k < h->Pa w M (h - 1 - k) (x::l)->∃t∈mU w h T M k x,lt (vl T M (h - 1 - k) (x::l)) t=false
 | 0,x,l,hl,hk,hP=>by
  cases List.length_eq_zero_iff.mp hl;obtain⟨v,ev,hv,_⟩:=qP (JX (w:=w) (h:=h) (T:=T) (M:=M) (k:=0) (x:=x)) (by simp[mR]);have hv:v=(0,0,[]):=by simpa[mR] using hv
  subst hv;exact⟨_,by unfold mU;rw[Gr hP.ne ev];exact List.mem_cons_self,qd _⟩
 | k + 1,x,l,hl,hk,hP=>by
  cases l with
  |nil=>cases hl
  | cons p l=>
   have ey:h - 1 - k=h - 1 - (k+1)+1:=Ud hk;obtain⟨hx,hm,h2,h3,hP'⟩:=hP;have hl:l.length=k:=by simpa using hl
   rw[<-ey] at hP';obtain⟨t,ht,hlt⟩:=Gs hl (by omega) hP';have hu:eZ (T (h - 1 - k) p (x+1 - p)) t∈mR w h T M (k+1) x:=by
    rw[nG];exact List.mem_flatMap.mpr ⟨p,(Cd hx).mpr ⟨hP'.lt,h2,h3⟩,List.mem_map_of_mem ht⟩
   obtain⟨v,ev,hv,hle⟩:=qP (JX (w:=w) (h:=h) (T:=T) (M:=M) (k:=k+1) (x:=x)) (List.ne_nil_of_mem hu);refine⟨_,by unfold mU;rw[Gr hm ev];exact List.mem_cons_self,?_⟩;show lt (sb _ (pre x (eZ (T (h - 1 - (k+1)+1) p (x+1 - p)) (vl T M (h - 1 - (k+1)+1) (p::l))))) _=false;rw[acz,abh,<-ey];exact J5 (hle _ hu) (by rw[Uc];exact hlt)
def topC (w h:Nat) (T:Nat->Nat->Nat->Int) (M:Nat->Nat->Int):List Wy:=(List.range w).flatMap λ x=>(mU w h T M (h - 1) x).map (eZ (T 0 x 1))
theorem WR:(topC w h T M).length<=w:=by
 have:=Aa (F:=λ x=>(mU w h T M (h - 1) x).map (eZ (T 0 x 1))) (l:=List.range w) λ p _=>by rw[z1g];exact nH
 rw[z2d] at this;exact this
theorem Ow:((topC w h T M).map fl).Nodup:=by
 unfold topC List.Nodup;rw[List.pairwise_map,List.pairwise_flatMap];refine⟨λ p _=>?_,?_⟩
 ·have hl:((mU w h T M (h - 1) p).map (eZ (T 0 p 1))).length<=1:=by rw[z1g];exact nH
  match (mU w h T M (h - 1) p).map (eZ (T 0 p 1)),hl with
  |[],_=>exact .nil
  |[_],_=>simp
  |_::_::_,hl=>simp at hl
 ·have nd:(List.range w).Nodup:=List.nodup_range;refine nd.imp λ {p q} hpq t ht u hu z=>?_;obtain⟨t',ht',rfl⟩:=List.mem_map.mp ht;obtain⟨u',hu',rfl⟩:=List.mem_map.mp hu;obtain⟨t2,_,rfl⟩:=lC ht';obtain⟨u2,_,rfl⟩:=lC hu';have:=T5 z;have h2:((p:Nat):Int)::t2.2.2=((q:Nat):Int)::u2.2.2:=congrArg (λ t:Wy=>t.2.2) this;have h3:((p:Nat):Int)=((q:Nat):Int):=(List.cons.inj h2).1;exact hpq (by omega)
def gn (M:Nat->Nat->Int) (h:Nat) (s:Nat->Nat):Int:=((List.range h).map λ y=>eG (M y (s y))).sum
def wS (T:Nat->Nat->Nat->Int) (M:Nat->Nat->Int) (h:Nat) (s:Nat->Nat):Wy:=(-gn M h s,cost h T s,(List.range h).map λ y=>((s y:Nat):Int))
structure Ce (w h:Nat) (M:Nat->Nat->Int) (s:Nat->Nat):Prop where
 sm:xu w h s
 ne:∀y < h,M y (s y)≠1
theorem abj {s:Nat->Nat}:∀{k y:Nat},vl T M y ((List.range' y (k+1)).map s)=(-((List.range' y (k+1)).map λ y=>eG (M y (s y))).sum,((List.range' (y+1) k).map λ y=>fare T s y).sum,(List.range' y (k+1)).map λ y=>((s y:Nat):Int))
 | 0,y=>by
  show (0 - eG (M y (s y)),(0:Int),[((s y:Nat):Int)])=(-(eG (M y (s y))+0),0,[((s y:Nat):Int)]);rw[show 0 - eG (M y (s y))= -(eG (M y (s y))+0) by omega]
 | k +1,y=>by
  have ih:=abj (s:=s) (k:=k) (y:=y+1);rw[List.range'_succ (s:=y),z1h,z1h,z1h,List.sum_cons];rw[List.range'_succ (s:=y+1),z1h,z1h,z1h,List.sum_cons] at ih |-;show sb _ (pre _ (eZ _ (vl T M (y+1) _)))=_;rw[ih];simp only[sb,pre,eZ];refine Prod.ext ?_ (Prod.ext ?_ rfl)
  ·show -_ - eG _= -_;omega
  ·rw[z1h,List.sum_cons];show _+T (y+1) (s (y+1)) (s y+1 - s (y+1))=T (y+1) (s (y+1)) (s y+1 - s (y+1))+_;rw[Int.add_comm]
theorem abk (h1:1<=h):eZ (T 0 (s 0) 1) (vl T M 0 ((List.range h).map s))=wS T M h s:=by
 obtain⟨k,rfl⟩:∃k,h=k+1:=⟨h - 1,by omega⟩;rw[List.range_eq_range',abj];simp only[eZ,wS,gn,cost];refine Prod.ext ?_ (Prod.ext ?_ ?_)
 ·rw[List.range_eq_range']
 ·show ((List.range' (0+1) k).map λ y=>fare T s y).sum+T 0 (s 0) 1=T 0 (s 0) 1+((List.range (k+1 - 1)).map λ y=>fare T s (y+1)).sum;rw[Int.add_comm,Nat.add_sub_cancel,List.range'_eq_map_range,List.map_map];congr 3;funext i;show fare T s (0+1+i)=fare T s (i+1);rw[show 0+1+i=i+1 by omega]
 ·rw[List.range_eq_range']
theorem abl {s : Nat -> Nat} : ∀ {k y : Nat},Pa w M y ((List.range' y (k+1)).map s)↔(∀z,y<=z->z<=y+k->s z < w/\M z (s z)≠1)/\∀z,y<=z->z < y+k->s (z+1)<=s z+1/\s z<=s (z+1)+1
 | 0, y => ⟨λ h => ⟨λ z h1 h2 => by have:z=y:=by omega
                                    subst this;exact h,λ z h1 h2=>by omega⟩,λ h=>h.1 y (z0g _) (z0g _)⟩
 | k + 1,y=>by
  have ih:=abl (s:=s) (k:=k) (y:=y+1);rw[List.range'_succ (s:=y),z1h];rw[List.range'_succ (s:=y+1),z1h] at ih |-;constructor
  ·rintro⟨h1,h2,h3,h4,h5⟩
   obtain⟨q1,q2⟩:=ih.mp h5;refine⟨λ z z1 z2=>?_,λ z z1 z2=>?_⟩
   ·by_cases e:z=y
    ·subst e;exact⟨h1,h2⟩
    ·exact q1 z (by omega) (by omega)
   ·by_cases e:z=y
    ·subst e;exact⟨h3,h4⟩
    ·exact q2 z (by omega) (by omega)
  ·rintro⟨q1,q2⟩
   have a:=q1 y (z0g _) (by omega);have b:=q2 y (z0g _) (by omega);exact⟨a.1,a.2,b.1,b.2,ih.mpr ⟨λ z z1 z2=>q1 z (by omega) (by omega),λ z z1 z2=>q2 z (by omega) (by omega)⟩⟩
theorem Ue (h1:1<=h):Pa w M 0 ((List.range h).map s)↔Ce w h M s:=by
 obtain⟨k,rfl⟩:∃k,h=k+1:=⟨h - 1,by omega⟩;rw[List.range_eq_range',abl];constructor
 ·rintro⟨a,b⟩
  exact⟨⟨λ y hy=>(a y (by omega) (by omega)).1,λ y hy=>b y (by omega) (by omega)⟩,λ y hy=>(a y (by omega) (by omega)).2⟩
 ·rintro⟨⟨a,b⟩,c⟩
  exact⟨λ z _ z2=>⟨a z (by omega),c z (by omega)⟩,λ z _ z2=>b z (by omega)⟩
theorem ZK (l:List Nat):∃s:Nat->Nat,l=(List.range l.length).map s:=
 ⟨λ y=>l.getD y 0,by
  apply List.ext_getElem?;intro i;rw[z2b];by_cases hi:i < l.length
  ·rw[List.getElem?_range hi];simp[hi]
  ·rw[List.getElem?_eq_none (by omega),List.getElem?_eq_none (by simp;omega)];rfl⟩
theorem ZL (h1:1<=h) {t:Wy} (ht:t∈topC w h T M):∃s,Ce w h M s/\t=wS T M h s:=by
 obtain⟨x,hx,hu⟩:=List.mem_flatMap.mp ht;obtain⟨u,hv,rfl⟩:=List.mem_map.mp hu;obtain⟨l,hl,hP,rfl⟩:=Gq (k:=h - 1) (h:=h) (z2e hx) (by omega) hv;rw[show h - 1 - (h - 1)=0 by omega] at hP |-;obtain⟨s,hs⟩:=ZK (x::l);have hlen:(x::l).length=h:=by rw[List.length_cons,hl];omega
 rw[hlen] at hs;have h0:s 0=x:=by
  obtain⟨k,rfl⟩:∃k,h=k+1:=⟨h - 1,by omega⟩;rw[List.range_succ_eq_map,z1h] at hs;exact (List.cons.inj hs).1.symm
 rw[hs] at hP |-;refine⟨s,(Ue h1).mp hP,?_⟩;rw[<-abk h1,h0]
theorem Ug (h1:1<=h) (q:Ce w h M s):∃t∈topC w h T M,lt (wS T M h s) t=false:=by
 have hP:=(Ue h1).mpr q;rw[<-abk h1];obtain⟨k,rfl⟩:∃k,h=k+1:=⟨h - 1,by omega⟩;have e:(List.range (k+1)).map s=s 0::(List.range k).map λ y=>s (y+1):=by
  rw[List.range_succ_eq_map,z1h,List.map_map];rfl
 rw[e] at hP |-;obtain⟨t,ht,hl⟩:=Gs (w:=w) (h:=k+1) (T:=T) (M:=M) (k:=k+1 - 1) (x:=s 0) (l:=(List.range k).map λ y=>s (y+1)) (by simp) (by omega) (by rw[show k+1 - 1 - (k+1 - 1)=0 by omega];exact hP);rw[show k+1 - 1 - (k+1 - 1)=0 by omega] at hl;exact⟨_,List.mem_flatMap.mpr ⟨s 0,List.mem_range.mpr (q.sm.lt 0 (by omega)),List.mem_map_of_mem ht⟩,by rw[Uc];exact hl⟩
def Bst (w h:Nat) (T:Nat->Nat->Nat->Int) (M:Nat->Nat->Int) (s:Nat->Nat):Prop:=Ce w h M s/\∀s',Ce w h M s'->lt (wS T M h s') (wS T M h s)=false
theorem least (h1:1<=h):(cu (topC w h T M)=[]/\∀s,¬Ce w h M s)\/∃s,cu (topC w h T M)=[wS T M h s]/\Bst w h T M s:=by
 by_cases hne:topC w h T M=[]
 ·left;refine⟨by rw[hne];rfl,λ s q=>?_⟩;obtain⟨t,ht,_⟩:=Ug (T:=T) h1 q;rw[hne] at ht;cases ht
 ·right;obtain⟨v,ev,hv,hle⟩:=qP Ow hne;obtain⟨s,q,rfl⟩:=ZL h1 hv;refine⟨s,ev,q,λ s' q'=>?_⟩;obtain⟨t,ht,hl⟩:=Ug (T:=T) h1 q';exact J5 (hle t ht) hl
end
section
variable {w h:Nat} {T:Nat->Nat->Nat->Int} {M:Nat->Nat->Int} {f:Nat->Nat->Int} {m:Str} {ρ:ao}
def abm:ao->So:=(aP (bB (aB (aV gZ 3) (ak (bin (gv 0) (ci 0) bZ) (ak (gv 3) (ak (gv 3) nA)))) (aF 5)) (zV 2 (bF 3 [5] (d9 (gv 4)) (cD (cF 3 (aQ (aF 0) (aQ (aF 1) (aQ (aF 2) nilG))))) tT (ig (ak (gv 0) (ak (bin (gv 1) (gv 3) cO) (ak (gv 2) nA)))))))
theorem ZM (h1:1<=h) {C:Nat->List Wy} (hx:x < w) (hC:(C x).length<=1) (hl:acc.length<=1000):
  abm [vA (tab w h T),e1,some (.lst acc),vA (.int (x:Int)),vA (cH (C x)),e5]= .nx [vA (tab w h T),e1,some (.lst (acc++((C x).map (eZ (T 0 x 1))).map fG)),vA (.int (x:Int)),vA (cH (C x)),vA (.int (T 0 x 1))]:=by
 have e0:gZ [.lst ((List.range w).map λ x=>eU (T 0 x)),.int (x:Int),.int (x:Int)]= .ok (.int (T 0 x 1)):=by
  have:=Ca (T:=T 0 x) (p:=λ x=>eU (T 0 x)) (a:=x) (b:=x) hx (by omega) (by omega) rfl
  rwa [show x+1 - x=1 by omega] at this
 refine aL (bw (aY (aD (au rfl rfl (mK (α:=D) (x:=0) h1)) (aD rfl (aA rfl))) e0) rfl) ?_;refine (Oq (ds:=acc) rfl (bL (c:=fG) (h:=λ t=>fG (eZ (T 0 x 1) t)) (l:=C x) (m9 rfl) (by omega) λ t ht=>?_) (by simp;omega)).trans ?_
 ·exact bW rfl (gA (aD rfl (aD (x:= .int (t.2.1+T 0 x 1)) (au rfl rfl rfl) (aA rfl))))
 ·rw[List.map_map];rfl
theorem J6 (h1:1<=h) {C:Nat->List Wy} (hC:∀p,(C p).length<=1) {e1:Option Ent}:∀{ps:List Nat} {acc:List D} {e3 e4 e5:Option Ent},(∀p∈ps,p < w)->acc.length+ps.length<=1000->
  ∃ z3 z4 z5,forL (cD (cF 2 (aQ (aF 3) (aQ (aF 4) nilG)))) abm (ps.map λ (p:Nat)=>D.tup [.int (p:Int),cH (C p)]) [vA (tab w h T),e1,some (.lst acc),e3,e4,e5] =
   .nx [vA (tab w h T),e1,some (.lst (acc++(ps.flatMap λ p=>(C p).map (eZ (T 0 p 1))).map fG)),z3,z4,z5]
 |[],acc,e3,e4,e5,_,_=>⟨e3,e4,e5,by simp[forL]⟩
 | p::ps,acc,e3,e4,e5,hp,hl=>by
  rw[List.length_cons] at hl;have hpw:=hp p (by simp);have hc:=hC p;obtain⟨z3,z4,z5,e⟩:=J6 h1 hC (e1:=e1) (ps:=ps) (acc:=acc++((C p).map (eZ (T 0 p 1))).map fG) (e3:=vA (.int (p:Int))) (e4:=vA (cH (C p))) (e5:=vA (.int (T 0 p 1))) (λ q hq=>hp q (by simp[hq])) (by simp;omega);refine⟨z3,z4,z5,cQ rfl (ZM h1 hpw hc (by omega)) (e.trans ?_)⟩;rw[List.flatMap_cons,List.map_append,List.append_assoc]
theorem Ma (h1:1<=h) (hw:w<=20):mH [tab w h T,.lst ((List.range h).map λ y=>sO w h T M (h - 1 - y))]= .ok (.lst ((topC w h T M).map fG)):=by
 obtain⟨z3,z4,z5,e⟩:=J6 (T:=T) h1 (C:=mU w h T M (h - 1)) (λ p=>nH) (e1:=vA (.lst ((List.range h).map λ y=>sO w h T M (h - 1 - y)))) (ps:=List.range w) (acc:=[]) (e3:=none) (e4:=none) (e5:=none) (λ p hp=>z2e hp) (by simp;omega);exact cC (aL (jt rfl) (aL (gY (uq (p:=λ p=>cH (mU w h T M (h - 1) p)) (aA (au rfl rfl (mK (α:=D) (x:=0) h1))) rfl) e) (bC rfl)))
theorem QG (hl:cs.length < 64) (hn:(cs.map fl).Nodup) {v:ao->R (Option Int)} (e:u ρ= .ok (.lst (cs.map fG))) (e0:v ρ= .ok (some 1)):eN (aB mq (ak u nA)) (λ _=> .ok none) v ρ= .ok (.lst ((cu cs).map fG)):=by
 have e1:mq [.lst (cs.map fG)]= .ok (.lst ((jG (cs.map fl)).map iw)):=by
  rw[mq,uW];show (if _ then _ else _)=_;rw[if_pos ⟨by simpa using hl,hn⟩]
 have e2:jE ((jG (cs.map fl)).map iw) none (some 1)=(cu cs).map fG:=by
  have e3:∀{n d:Nat},HT.sIx n d (some 1)=min 1 n:=λ {n d}=>by
   show (if (1:Int) < 0 then ((1:Int)+(n:Int)).toNat else min (1:Int).toNat n)=min 1 n;rw[if_neg (by decide)];rfl
  rw[jE,e3,BX,Nat.sub_zero,List.drop_zero,<-List.map_take];have e4:∀l:List (List Int),l.take (min 1 (l.map iw).length)=l.take 1:=λ l=>by cases l <;> simp
  rw[e4];unfold cu;rw[List.map_map];refine List.map_congr_left λ l hl=>?_;show iw l=fG (un l);rw[zZ,JW l (List.mem_of_mem_take hl)]
 unfold eN;rw[aO (aA e) e1,e0];show R.ok (D.lst (jE _ none (some 1)))=_;rw[e2]
theorem Ea (h1:1<=h) (hh:h<=20) (hw:w<=20):kZ [tab w h T,bH w h M,.int 1]= .ok (.lst ((cu (topC w h T M)).map fG)):=by
 have hl:=WR (w:=w) (h:=h) (T:=T) (M:=M);exact kJ (bC (QG (by omega) Ow (aY (aD rfl (aA (aY (aD rfl (aD rfl (aA rfl))) ((ZJ hh hw).trans (by rw[Ub]))))) (Ma h1 hw)) rfl))
def lwD:List Wy->D
 |[]=> .non
 |t::_=> .tup [.int t.2.1,.tup (t.2.2.map .int)]
theorem Ka (h1:1<=h) (hh:h<=20) (hw:w<=20):kI [tab w h T,bH w h M]= .ok (lwD (cu (topC w h T M))):=by
 have e:=Ea (T:=T) (M:=M) h1 hh hw;have hl:=pQ (cs:=topC w h T M)
 match cu (topC w h T M),e,hl with
 |[],e,_=>exact kJ (aL (bw (aY (aD rfl (aD rfl (aA rfl))) e) rfl) (qb (iB (eX (yM (ds:=[]) rfl)) (bC rfl))))
 |[t],e,_=>exact kJ (aL (bw (aY (aD rfl (aD rfl (aA rfl))) e) rfl) (aL (cT (eX (yM (ds:=[fG t]) rfl)) rfl) (aL (bw (d:=fG t) (au (y:= .int 0) rfl rfl (Bf (i:=0) rfl)) rfl) (bC (gA (aD rfl (aA rfl)))))))
 |_::_::_,_,hl=>simp at hl
theorem Uh {α:Type} {k:D->R (Option D)} {c:α->D} {o:α->Option D}:∀{l:List α},(∀a∈l,k (c a)= .ok (o a))->jz k (l.map c)= .ok (l.filterMap o)
 |[],_=>rfl
 | a::l,h=>by
  rw[z1h,jz,h a (by simp),tU,R.aR,Uh λ b hb=>h b (by simp[hb]),R.aR];cases e:o a with
  |none=>rw[List.filterMap_cons_none e];rfl
  |some d=>rw[List.filterMap_cons_some e];rfl
theorem abn {n:Nat} {caps:List Nat} {fi:ao->R (List D)} {gt:D->ao->R ao} {ft:ao->R Bool} {fe:ao->R D} {ρ:ao} {c:α->D} {o:α->Option D} {l:List α} (e1:fi ρ= .ok (l.map c)) (hl:l.length<=1000000)
  (e2:∀a∈l,m6 gt ft fe (yw n caps ρ) (c a)= .ok (o a)):bF n caps fi gt ft fe ρ= .ok (.lst (l.filterMap o)):=by
 rw[bF,e1,R.aR,Uh e2,R.aR,cap,if_pos (z0b (List.length_filterMap_le _ _) hl)]
theorem ZP {ρ:ao} {gt:D->ao->R ao} {ft:ao->R Bool} {fe:ao->R D} {x d:D} {b:Bool} (e1:gt x ρ= .ok ρ1) (e2:ft ρ1= .ok b) (e3:fe ρ1= .ok d):m6 gt ft fe ρ x= .ok (if b=true then some d else none):=by
 rw[m6,e1,R.aR,e2,R.aR];cases b with
 |true=>rw[if_pos rfl,if_pos rfl,e3];rfl
 |false=>rw[if_neg (by decide),if_neg (by decide)]
end
section
variable {ns:List Int} {w h k:Nat} {f M:Nat->Nat->Int} {T:Nat->Nat->Nat->Int} {m:Str} {s:Nat->Nat} {ρ:ao}
theorem abo (hns:ns.length<=1000000):∃w h f,kh [.lst (ns.map .int),.int 0,.int 9,.int 6]= .ok (bH w h f)/\Ok w h f/\w<=9/\h<=6:=by
 obtain⟨e1,h1,h2⟩:=nW (k:=0) (m:=9) hns (by omega) (by omega);obtain⟨e2,h3,h4⟩:=nW (k:=0+1) (m:=6) hns (by omega) (by omega);obtain⟨w,hw⟩:=Int.eq_ofNat_of_zero_le (show 0<=1+dr ns 0 9 by omega);obtain⟨h,hh⟩:=Int.eq_ofNat_of_zero_le (show 0<=1+dr ns (0+1) 6 by omega);obtain⟨f,e,o⟩:=QC (ns:=ns) (a:=0+2) (w:=w) (h:=h) hns (by omega) (by omega) (by omega) (by omega) (by omega);refine⟨w,h,f,cC (bC (aY (aD rfl (aD (au rfl rfl rfl) (aD (au rfl (aY (aD rfl (aD rfl (aA rfl))) e1) (congrArg (λ z=>R.ok (D.int z)) hw)) (aA (au rfl (aY (aD rfl (aD (au rfl rfl rfl) (aA rfl))) e2) (congrArg (λ z=>R.ok (D.int z)) hh)))))) e)),o,by omega,by omega⟩
theorem Ui {i:Int} (hi:0<=i) (hns:ns.length<=1000000):∃m:Str,(m= "worth"\/m= "joins")/\jg [.lst (ns.map .int),.int i]= .ok (.str m):=by
 obtain⟨e1,h0,h2⟩:=nW (k:=i) (m:=2) hns (by omega) (by omega);obtain⟨d,hd,ed⟩:=Dg (xs:=[D.str "worth",.str "joins"]) h0 h2;simp only[List.mem_cons,List.not_mem_nil,or_false] at hd;rcases hd with rfl |rfl
 ·exact⟨"worth",.inl rfl,cC (bC (au (x:= .lst [D.str "worth",.str "joins"]) (j9 rfl) (aY (aD rfl (aD rfl (aA rfl))) e1) (tX ed)))⟩
 ·exact⟨"joins",.inr rfl,cC (bC (au (x:= .lst [D.str "worth",.str "joins"]) (j9 rfl) (aY (aD rfl (aD rfl (aA rfl))) e1) (tX ed)))⟩
theorem abp:lwD [wS T M h s]= .tup [.int (cost h T s),sm h s]:=by
 show D.tup [.int (cost h T s),.tup (((List.range h).map λ y=>((s y:Nat):Int)).map .int)]=_;rw[List.map_map];rfl
theorem adp {p:ao->R Bool} {b:ao->So} {n:Nat} (e:p (cG ρ)= .ok false):gR p b (n+1) ρ= .nx ρ:=by rw[gR,e]
theorem abq {p:ao->R Bool} {b:ao->So} {n:Nat} {o:So} (e:p (cG ρ)= .ok true) (e1:b ρ= .nx ρ1) (e2:gR p b n ρ1=o):gR p b (n+1) ρ=o:=by rw[gR,e];simp only[e1,e2]
theorem acA {p:ao->R Bool} {b:ao->So} {n:Nat} {d:D} (e:p (cG ρ)= .ok true) (e1:b ρ= .rt d):gR p b (n+1) ρ= .rt d:=by rw[gR,e];simp only[e1]
section
variable {a:Int} {t:Option Ent}
theorem ZQ (hns:ns.length<=1000000) (ha:0<=a) (hw:1<=w) {l k:Nat} (g:Good w (ps++[l])) (hl:(ps++[l]).length < 1000000):
  ∃p,Wv [vA (.lst (ns.map .int)),vA (.int a),vA (.int (w:Int)),t,some (.lst (pl (ps++[l]))),vA (.int (k:Int))]= .nx [vA (.lst (ns.map .int)),vA (.int a),vA (.int (w:Int)),t,some (.lst (pl (ps++[l]++[p]))),vA (.int (k:Int))]/\Good w (ps++[l]++[p]):=by
 obtain⟨e1,d0,d3⟩:=nW (k:=a+1+(k:Int)) (m:=3) hns (by omega) (by omega);have hlw:l < w:=g.lt l (by simp)
 generalize hd:dr ns (a+1+(k:Int)) 3=d at *
 generalize hm:(if (l:Int)+d - 1 < (w:Int) - 1 then (l:Int)+d - 1 else (w:Int) - 1)=m
 generalize hv:(if m > 0 then m else 0)=v
 have hv0:0<=v/\v < w/\v<=l+1/\(l:Int)<=v+1:=by
  subst hv;subst hm;split <;> split <;> omega
 obtain⟨p,hp⟩:=Int.eq_ofNat_of_zero_le hv0.1;refine⟨p,(oV (d:= .int (p:Int)) (ds:=pl (ps++[l])) ?_ rfl (by simpa[pl] using hl)).trans ?_,g.snoc (by omega) (by omega)⟩
 ·refine aO (aD rfl (aA (x:= .int m) (aO (aD (x:= .int ((w:Int) - 1)) (au rfl rfl rfl) (aA (x:= .int ((l:Int)+d - 1)) (au (x:= .int ((l:Int)+d)) (y:= .int 1) (au (x:= .int (l:Int)) (y:= .int d) (T6 rfl rfl Zw) (aY (aD rfl (aD (au (au rfl rfl rfl) rfl rfl) (aA rfl))) e1) rfl) rfl rfl))) ?_))) ?_
  ·rw[<-hm];rfl
  ·rw[<-hp,<-hv];rfl
 ·have:pl (ps++[l])++[D.int (p:Int)]=pl (ps++[l]++[p]):=by simp[pl]
  rw[<-this];rfl
theorem Kc (hns:ns.length<=1000000) (ha:0<=a) (hw:1<=w):∀{ks:List Nat} {ps:List Nat} {l:Nat} {x:Option Ent},Good w (ps++[l])->ps.length+1+ks.length<=1000->
  ∃ qs x',forL (aF 5) Wv (ks.map λ (k:Nat)=>D.int (k:Int)) [vA (.lst (ns.map .int)),vA (.int a),vA (.int (w:Int)),t,some (.lst (pl (ps++[l]))),x] =
   .nx [vA (.lst (ns.map .int)),vA (.int a),vA (.int (w:Int)),t,some (.lst (pl (ps++[l]++qs))),x']/\qs.length=ks.length/\Good w (ps++[l]++qs)
 |[],ps,l,x,g,_=>⟨[],x,by rw[List.append_nil];rfl,rfl,by rw[List.append_nil];exact g⟩
 | k::ks,ps,l,x,g,hl=>by
  rw[List.length_cons] at hl;obtain⟨p,e1,g1⟩:=ZQ (t:=t) hns ha hw (k:=k) g (by simp;omega);obtain⟨qs,x',e2,h2,g2⟩:=Kc hns ha hw (ks:=ks) (ps:=ps++[l]) (l:=p) (x:=vA (.int (k:Int))) g1 (by simp;omega);refine⟨p::qs,x',?_,by simp[h2],by simpa using g2⟩;rw[z1h];refine cQ rfl e1 (e2.trans ?_);simp
theorem abr (hns:ns.length<=1000000) (ha:0<=a) (hw:1<=w) (hh1:1<=h) (hh:h<=20):∃s,mC [.lst (ns.map .int),.int a,.int (w:Int),.int (h:Int)]= .ok (sm h s)/\xu w h s:=by
 obtain⟨e1,d0,d3⟩:=nW (k:=a) (m:=(w:Int)) hns ha (by omega);obtain⟨l,hl⟩:=Int.eq_ofNat_of_zero_le d0;rw[hl] at e1;have g0:Good w ([]++[l]):=⟨λ p hp=>by simp at hp;omega,λ i x y hx hy=>by simp at hy⟩;obtain⟨qs,x',e2,h2,g⟩:=Kc (t:=vA (.int (h:Int))) hns ha hw (ks:=List.range (h - 1)) (x:=none) g0 (by simp;omega);rw[z2d] at h2
 generalize hps:[]++[l]++qs=ps at *
 have hlen:ps.length=h:=by rw[<-hps];simp;omega
 have hrow:sm h (λ y=>ps.getD y 0)= .tup (pl ps):=by
  unfold sm row pl;refine congrArg D.tup (List.ext_getElem (by simp[hlen]) λ i h1 h2=>?_);have:i < ps.length:=by simpa using h2
  simp[this]
 refine⟨λ y=>ps.getD y 0,?_,?_,?_⟩
 ·rw[hrow];refine cC (aL (ρ':=[vA (.lst (ns.map .int)),vA (.int a),vA (.int (w:Int)),vA (.int (h:Int)),some (.lst (pl ([]++[l]))),none]) ?_ (aL (gY (gU (m:=h - 1) (aA (au (x:= .int (h:Int)) (y:= .int 1) rfl rfl ?_)) (by omega)) e2) (bC (aO (aA rfl) rfl))))
  ·exact jt (aA (x:= .int (l:Int)) (aY (aD rfl (aD rfl (aA rfl))) e1))
  ·show R.ok (D.int ((h:Int) - 1))=_;rw[show (h:Int) - 1=((h - 1:Nat):Int) by omega]
 ·intro y hy;have:y < ps.length:=by omega
  simp only[List.getD_eq_getElem?_getD,List.getElem?_eq_getElem this,Option.getD_some];exact g.lt _ (List.getElem_mem _)
 ·intro y hy;have k1:y < ps.length:=by omega
  have k2:y+1 < ps.length:=by omega
  simp only[List.getD_eq_getElem?_getD,List.getElem?_eq_getElem k1,List.getElem?_eq_getElem k2,Option.getD_some];exact g.st y _ _ (List.getElem?_eq_getElem k1) (List.getElem?_eq_getElem k2)
end
end
section
variable {ns:List Int} {w h k:Nat} {f M:Nat->Nat->Int} {T:Nat->Nat->Nat->Int} {m:Str} {s:Nat->Nat} {ρ:ao}
abbrev vV:=(Nat->Nat)×(Nat->Int)
def yN (h:Nat) (p:vV):D:= .tup [sm h p.1,row h p.2]
def Go (m:Str) (h:Nat):Nat->Nat->(Nat->Nat->Int)->(Nat->Nat->Int)->Option (List vV)->Prop
 |0,_,_,_,r=>r=some []
 |k+1,w,f,M,r=>(cu (topC w h (tbl m w h f) M)=[]/\(∀s,¬Ce w h M s)/\r=none)\/∃s r',Ce w h M s/\cu (topC w h (tbl m w h f) M)=[wS (tbl m w h f) M h s]/\Go m h k (w - 1) (less s f) (less s M) r'/\r=r'.map ((s,λ y=>f y (s y)):: ·)
def Yl:(Nat->Nat->Int)->List vV->Nat->Nat->Int
 |f,[]=>f
 |f,p::L=>Yl (less p.1 f) L
def tot (m:Str) (h:Nat):Nat->(Nat->Nat->Int)->List vV->Int
 |_,_,[]=>0
 |w,f,p::L=>cost h (tbl m w h f) p.1+tot m h (w - 1) (less p.1 f) L
theorem Ym (h1:1<=h):∀{k w:Nat} {f M:Nat->Nat->Int},∃r,Go m h k w f M r
 |0,w,f,M=>⟨_,rfl⟩
 | k +1,w,f,M=>by
  rcases least (w:=w) (T:=tbl m w h f) (M:=M) h1 with⟨e,q⟩ |⟨s,e,q,_⟩
  ·exact⟨none,.inl ⟨e,q,rfl⟩⟩
  ·obtain⟨r,g⟩:=Ym h1 (k:=k) (w:=w - 1) (f:=less s f) (M:=less s M);exact⟨_,.inr ⟨s,r,q,e,g,rfl⟩⟩
theorem Ke:∀{k w:Nat} {f M:Nat->Nat->Int} {L:List vV},Go m h k w f M (some L)->L.length=k
 |0,w,f,M,L,g=>by cases Option.some.inj g;rfl
 | k +1,w,f,M,L,g=>by
  rcases g with⟨_,_,e⟩ |⟨s,r,_,_,g,e⟩
  ·cases e
  ·cases r with
   |none=>cases e
   |some L'=>cases Option.some.inj e;rw[List.length_cons,Ke g]
theorem Ox:∀{k w:Nat} {f M:Nat->Nat->Int} {r:Option (List vV)},k<=w->(∀y < h,∀x < w,M y x≠1)->Go m h k w f M r->∃L,r=some L
 |0,w,f,M,r,_,_,g=>⟨_,g⟩
 | k +1,w,f,M,r,hk,z,g=>by
  rcases g with⟨_,q,_⟩ |⟨s,r',q,_,g,e⟩
  ·exact absurd ⟨⟨λ y hy=>by show 0 < w;omega,λ y hy=>by show 0<=0+1/\0<=0+1;omega⟩,λ y hy=>z y hy 0 (by omega)⟩ (q λ _=>0)
  ·obtain⟨L,rfl⟩:=Ox (by omega) (λ y hy x hx=>by unfold less;split;exact z _ hy _ (by omega);exact z _ hy _ (by omega)) g;exact⟨_,e⟩
def tkD (m:Str) (w h k:Nat) (f:Nat->Nat->Int):Option (List vV)->D
 |none=> .non
 |some L=> .tup [bH (w - k) h (Yl f L),.lst (L.map (yN h)),.int (tot m h w f L)]
section
variable (hm:m= "worth"\/m= "joins") (o:Ok w h f)
include hm o
theorem Yn:kI [tab w h (tbl m w h f),bH w h M]= .ok (lwD (cu (topC w h (tbl m w h f) M))):=Ka o.h1 o.h2 o.w2
theorem WT (e:cu (topC w h (tbl m w h f) M)=[]):tkB [e0,e1,vA (.str m),e3,vA (bH w h f),vA (bH w h M),some (.lst acc),e7,e8,e9,e10]= .rt .non:=by
 have el:=Yn (M:=M) hm o;rw[e] at el;exact aL (bw (aY (aD (aY (aD rfl (aA rfl)) (J4 hm o)) (aA rfl)) el) rfl) (qb (iB (bf (au rfl rfl rfl)) (bC rfl)))
theorem Uj (q:Ce w h M s) (e:cu (topC w h (tbl m w h f) M)=[wS (tbl m w h f) M h s]) {t:Int} (hl:acc.length<=1000):tkB [e0,e1,vA (.str m),e3,vA (bH w h f),vA (bH w h M),some (.lst acc),vA (.int t),e8,e9,e10] =
  .nx [e0,e1,vA (.str m),e3,vA (bH (w - 1) h (less s f)),vA (bH (w - 1) h (less s M)),some (.lst (acc++[yN h (s,λ y=>f y (s y))])),vA (.int (t+cost h (tbl m w h f) s)),vA (.tup [.int (cost h (tbl m w h f) s),sm h s]),vA (.int (cost h (tbl m w h f) s)),vA (sm h s)]:=by
 have el:=Yn (M:=M) hm o;rw[e,abp] at el;refine aL (bw (aY (aD (aY (aD rfl (aA rfl)) (J4 hm o)) (aA rfl)) el) rfl) (aL (cT (bf (au rfl rfl rfl)) rfl) (aL (bw rfl rfl) (aL (oV (ds:=acc) (d:=yN h (s,λ y=>f y (s y))) (gA (aD rfl (aA (aY (aD rfl (aA rfl)) (DN q.sm o.h2))))) rfl (by omega)) (aL (abd (a:=t) (b:=cost h (tbl m w h f) s) rfl rfl) ?_))));exact Di (aY (aD rfl (aA rfl)) (BZ q.sm o.h2 o.w2)) (aY (aD rfl (aA rfl)) (BZ q.sm o.h2 o.w2))
end
theorem Uk {K:Nat}:TF (cG [e0,vA (.int (K:Int)),e2,e3,e4,e5,some (.lst acc),e7,e8,e9,e10])= .ok (decide (acc.length < K)):=by
 refine bf (au (aO (aA rfl) rfl) rfl ?_);show R.ok (D.bl (decide ((acc.length:Int) < (K:Int))))=_;rw[decide_eq_decide.mpr (by omega:(acc.length:Int) < (K:Int)↔acc.length < K)]
theorem Oz (hm:m= "worth"\/m= "joins") {e0 e3:Option Ent}:∀{k w n K:Nat} {f M:Nat->Nat->Int} {r:Option (List vV)} {acc:List D} {t:Int} {e8 e9 e10:Option Ent},Go m h k w f M r->(1<=k->Ok w h f)->k<=w->k < n->acc.length+k=K->K<=500->
  match (generalizing:=false) r with
  |none=>gR TF tkB n [e0,vA (.int (K:Int)),vA (.str m),e3,vA (bH w h f),vA (bH w h M),some (.lst acc),vA (.int t),e8,e9,e10]= .rt .non
  | some L=>∃z5 z8 z9 oW,gR TF tkB n [e0,vA (.int (K:Int)),vA (.str m),e3,vA (bH w h f),vA (bH w h M),some (.lst acc),vA (.int t),e8,e9,e10] =
    .nx [e0,vA (.int (K:Int)),vA (.str m),e3,vA (bH (w - k) h (Yl f L)),z5,some (.lst (acc++L.map (yN h))),vA (.int (t+tot m h w f L)),z8,z9,oW]
 | 0,w,n,K,f,M,r,acc,t,e8,e9,e10,g,o,hw,hn,hK,hb=>by
  obtain⟨n,rfl⟩:∃j,n=j+1:=⟨n - 1,by omega⟩;have g:r=some []:=g;subst g;refine⟨vA (bH w h M),e8,e9,e10,?_⟩;rw[adp (by rw[Uk,decide_eq_false (by omega)]),List.map_nil,List.append_nil,Yl,tot,Int.add_zero];rfl
 | k + 1,w,n,K,f,M,r,acc,t,e8,e9,e10,g,o,hw,hn,hK,hb=>by
  obtain⟨n,rfl⟩:∃j,n=j+1:=⟨n - 1,by omega⟩;have o:=o (by omega);have et:∀e8 e9 e10,TF (cG [e0,vA (.int (K:Int)),vA (.str m),e3,vA (bH w h f),vA (bH w h M),some (.lst acc),vA (.int t),e8,e9,e10])= .ok true:=λ _ _ _=>by rw[Uk,decide_eq_true (by omega)]
  rcases g with⟨e,_,rfl⟩ |⟨s,r',q,e,g,rfl⟩
  ·exact acA (et _ _ _) (WT hm o e)
  ·have ih:=Oz hm (e0:=e0) (e3:=e3) (n:=n) (K:=K) (acc:=acc++[yN h (s,λ y=>f y (s y))]) (t:=t+cost h (tbl m w h f) s) (e8:=vA (.tup [.int (cost h (tbl m w h f) s),sm h s])) (e9:=vA (.int (cost h (tbl m w h f) s))) (e10:=vA (sm h s)) g (λ hk=>o.less (by omega)) (by omega) (by omega) (by rw[z1d,List.length_singleton];omega) hb;cases r' with
   |none=>exact abq (et _ _ _) (Uj hm o q e (by omega)) ih
   | some L=>
    obtain⟨z5,z8,z9,oW,e'⟩:=ih;refine⟨z5,z8,z9,oW,abq (et _ _ _) (Uj hm o q e (by omega)) ?_⟩;rw[e',List.append_assoc,Int.add_assoc,show w - (k+1)=w - 1 - k by omega];rfl
theorem WW {r:Option (List vV)} (hm:m= "worth"\/m= "joins") (o:Ok w h f) (hk:k<=w) (g:Go m h k w f M r):yL [bH w h f,.int (k:Int),.str m,bH w h M]= .ok (tkD m w h k f r):=by
 have ow:=o.w2;have e:=Oz hm (e0:=vA (bH w h f)) (e3:=vA (bH w h M)) (n:=64) (K:=k) (acc:=[]) (t:=0) (e8:=none) (e9:=none) (e10:=none) g (λ _=>o) hk (by omega) (by rw[List.length_nil];omega) (by omega);cases r with
 |none=>exact kJ (aL (Di rfl rfl) (aL (jt rfl) (aL (bw rfl rfl) (qb e))))
 | some L=>
  obtain⟨z5,z8,z9,oW,e⟩:=e;rw[List.nil_append,Int.zero_add] at e;exact kJ (aL (Di rfl rfl) (aL (jt rfl) (aL (bw rfl rfl) (aL e (bC (gA (aD rfl (aD rfl (aA rfl)))))))))
end
section
variable {ns:List Int} {w h k:Nat} {f M:Nat->Nat->Int} {T:Nat->Nat->Nat->Int} {m:Str} {s:Nat->Nat} {ρ:ao}
def bU:List Nat->List Nat
 |[]=>[]
 |p::ps=>((bU ps).map (· +1)).take p++0::((bU ps).map (· +1)).drop p
def Pv:List Nat->Prop
 |[]=>True
 |p::ps=>p<=ps.length/\Pv ps
theorem fK:∀{ps:List Nat},Pv ps->(bU ps).length=ps.length
 |[],_=>rfl
 | p::ps,v=>by
  have i:=fK v.2;have:=v.1;simp[bU,i];omega
theorem uY {p:Nat} (v:Pv (p::ps)):∃A B,bU ps=A++B/\A.length=p/\bU (p::ps)=A.map (· +1)++0::B.map (· +1):=by
 refine⟨(bU ps).take p,(bU ps).drop p,(List.take_append_drop _ _).symm,?_,?_⟩
 ·rw[List.length_take,fK v.2];have:=v.1;omega
 ·rw[bU,List.map_take,List.map_drop]
theorem xG:∀{ps:List Nat},Pv ps->(bU ps).Perm (List.range ps.length)
 |[],_=> .refl _
 | p::ps,v=>by
  obtain⟨A,B,e,_,e2⟩:=uY v;have i:=xG v.2;rw[e2,List.length_cons,List.range_succ_eq_map];refine List.perm_middle.trans (.cons _ ?_);rw[<-List.map_append,<-e];exact i.map _
def oX:List Nat->Nat->Nat
 |[],_=>0
 |a::l,i=>if a=i then 0 else (if i < a then 1 else 0)+oX l i
theorem Yo {B:List Nat}:∀{A:List Nat},oX (A.map (· +1)++0::B) 0=A.length
 |[]=>rfl
 | a::A=>by
  show (if a+1=0 then 0 else (if 0 < a+1 then 1 else 0)+oX (A.map (· +1)++0::B) 0)=_;rw[if_neg (by omega),if_pos (by omega),Yo,List.length_cons];omega
theorem Yp {i:Nat}:∀{B:List Nat},oX (B.map (· +1)) (i+1)=oX B i
 |[]=>rfl
 | b ::B=>by
  show (if b+1=i+1 then 0 else (if i+1 < b+1 then 1 else 0)+oX (B.map (· +1)) (i+1))=if b=i then 0 else (if i < b then 1 else 0)+oX B i;rw[Yp];by_cases c:b=i
  ·rw[if_pos c,if_pos (by omega)]
  ·rw[if_neg c,if_neg (by omega)];by_cases d:i < b
   ·rw[if_pos d,if_pos (by omega)]
   ·rw[if_neg d,if_neg (by omega)]
theorem Yq {i:Nat} {B:List Nat}:∀{A:List Nat},oX (A.map (· +1)++0::B.map (· +1)) (i+1)=oX (A++B) i
 | []=>by
  show (if 0=i+1 then 0 else (if i+1 < 0 then 1 else 0)+oX (B.map (· +1)) (i+1))=_;rw[if_neg (by omega),if_neg (by omega),Nat.zero_add,Yp];rfl
 | b ::A=>by
  show (if b+1=i+1 then 0 else (if i+1 < b+1 then 1 else 0)+oX (A.map (· +1)++0::B.map (· +1)) (i+1))=if b=i then 0 else (if i < b then 1 else 0)+oX (A++B) i;rw[Yq];by_cases c:b=i
  ·rw[if_pos c,if_pos (by omega)]
  ·rw[if_neg c,if_neg (by omega)];by_cases d:i < b
   ·rw[if_pos d,if_pos (by omega)]
   ·rw[if_neg d,if_neg (by omega)]
theorem OD:∀{ps:List Nat} {i p:Nat},Pv ps->ps[i]?=some p->oX (bU ps) i=p
 | q::ps,0,p,v,e=>by
  obtain⟨A,B,_,l,e2⟩:=uY v;rw[e2,Yo,l];exact Option.some.inj e
 | q::ps,i+1,p,v,e=>by
  obtain⟨A,B,e1,_,e2⟩:=uY v;rw[e2,Yq,<-e1];exact OD v.2 e
theorem Ul {i:Nat}:∀{l:List Nat},((l.take (l.findIdx (· ==i))).filter λ o=>decide (i < o)).length=oX l i
 |[]=>rfl
 | a ::l=>by
  rw[List.findIdx_cons,oX];by_cases c:a=i
  ·subst c;simp
  ·rw[if_neg c,show (a ==i)=false from beq_eq_false_iff_ne.mpr c,cond_false,List.take_succ_cons,List.filter_cons,<-Ul];by_cases d:i < a
   ·rw[if_pos (decide_eq_true d),if_pos d,List.length_cons,Nat.add_comm]
   ·rw[if_neg (by simpa using d),if_neg d,Nat.zero_add]
def zp (m:Nat) (l:List Nat):Nat:=(l.filter λ n=>decide (n < m)).length
theorem acB:zp 0 l=0:=by simp[zp]
theorem Yr {m:Nat} {B:List Nat}:zp (m+1) (B.map (· +1))=zp m B:=by
 unfold zp;rw[List.filter_map,z1g];refine congrArg List.length (congrArg (List.filter · B) (funext λ n=>?_));show decide (n+1 < m+1)=decide (n < m);exact decide_eq_decide.mpr (by omega)
theorem OJ:∀{m:Nat} {ps:List Nat},Pv ps->m<=ps.length->zp m (bU ps)=m
 |0,ps,_,_=>acB
 | m+1,p::ps,v,h=>by
  obtain⟨A,B,e1,l,e2⟩:=uY v;rw[List.length_cons] at h;have a1:=Yr (m:=m) (B:=A);have a2:=Yr (m:=m) (B:=B);have i:=OJ v.2 (show m<=ps.length by omega);rw[e1] at i;rw[e2];unfold zp at *;rw[List.filter_append,z1d] at i;rw[List.filter_append,List.filter_cons,if_pos (decide_eq_true (by omega)),z1d,List.length_cons,a1,a2];omega
section
variable {α:Type} {g:Nat->α}
def imp (g:Nat->α):List Nat->Nat->List Nat->List α->List α
 |[],_,_,r=>r
 |p::ps,k,L,r=>imp g ps (k+1) (L.eraseIdx p) (r.set (L.getD p 0) (g k))
theorem O5:∀{ps:List Nat} {k:Nat} {L:List Nat} {r:List α},(imp g ps k L r).length=r.length
 |[],_,_,_=>rfl
 |p::ps,k,L,r=>by rw[imp,O5,List.length_set]
theorem O6 {q:Nat}:∀{ps:List Nat} {k:Nat} {L:List Nat} {r:List α},Pv ps->ps.length=L.length->q∉L->(imp g ps k L r)[q]?=r[q]?
 |[],_,_,_,_,_,_=>rfl
 | p::ps,k,L,r,v,h,hq=>by
  have:=v.1;rw[List.length_cons] at h;have hp:p < L.length:=by omega
  rw[imp,O6 v.2 (by rw[List.length_eraseIdx,if_pos hp];omega) (λ z=>hq (List.mem_of_mem_eraseIdx z))];have hne:q≠L.getD p 0:=λ z=>hq (by rw[z,List.getD_eq_getElem?_getD,List.getElem?_eq_getElem hp];exact List.getElem_mem _);rw[z1e (Ne.symm hne)]
theorem Um:∀{ps:List Nat} {k:Nat} {L:List Nat} {r:List α},Pv ps->ps.length=L.length->L.Nodup->(∀q∈L,q < r.length)->L.map (λ q=>(imp g ps k L r)[q]?)=(bU ps).map λ n=>some (g (k+n))
 |[],_,L,_,_,h,_,_=>by cases List.eq_nil_of_length_eq_zero h.symm;rfl
 | p::ps,k,L,r,v,h,nd,hr=>by
  have:=v.1;rw[List.length_cons] at h;have hp:p < L.length:=by omega
  have e:L=L.take p++L[p]::L.drop (p+1):=by rw[<-List.drop_eq_getElem_cons hp,List.take_append_drop]
  have ec:L.getD p 0=L[p]:=by rw[List.getD_eq_getElem?_getD,List.getElem?_eq_getElem hp];rfl
  have ee:L.eraseIdx p=L.take p++L.drop (p+1):=List.eraseIdx_eq_take_drop_succ _ _;have nd':=nd;rw[e] at nd';have hc:=List.nodup_cons.mp (List.perm_middle.nodup_iff.mp nd');have i:=Um (k:=k+1) (L:=L.eraseIdx p) (r:=r.set (L.getD p 0) (g k)) v.2 (by rw[List.length_eraseIdx,if_pos hp];omega) (by rw[ee];exact hc.2) (λ q hq=>by rw[List.length_set];exact hr q (List.mem_of_mem_eraseIdx hq));have o:=O6 (g:=g) (q:=L[p]) (k:=k+1) (r:=r.set (L.getD p 0) (g k)) v.2 (show ps.length=(L.eraseIdx p).length by rw[List.length_eraseIdx,if_pos hp];omega) (by rw[ee];exact hc.1);rw[ec,z2a (hr _ (List.getElem_mem _))] at o;rw[imp];rw[ec] at i |-
  generalize hX:imp g ps (k+1) (L.eraseIdx p) (r.set L[p] (g k))=X at *
  have ol:(bU ps).length=ps.length:=fK v.2;rw[ee,List.map_append] at i;have l1:((L.take p).map λ q=>X[q]?).length=p:=by rw[z1g,List.length_take];omega
  have t1:(L.take p).map (λ q=>X[q]?)=((bU ps).map λ n=>some (g (k+1+n))).take p:=by rw[<-i,List.take_left' l1]
  have t2:(L.drop (p+1)).map (λ q=>X[q]?)=((bU ps).map λ n=>some (g (k+1+n))).drop p:=by rw[<-i,List.drop_left' l1]
  have m:((bU ps).map (· +1)).map (λ n=>some (g (k+n)))=(bU ps).map λ n=>some (g (k+1+n)):=by rw[List.map_map];exact List.map_congr_left λ a _=>by show some (g (k+(a+1)))=some (g (k+1+a));rw[show k+(a+1)=k+1+a by omega]
  clear hX
  rw[e,List.map_append,z1h,t1,t2,o,bU,List.map_append,z1h,List.map_take,List.map_drop,m];rfl
theorem O7 {r:List α} (v:Pv ps) (h:r.length=ps.length):imp g ps 0 (List.range ps.length) r=(bU ps).map g:=by
 have i:=Um (g:=g) (k:=0) (r:=r) v (z2d).symm List.nodup_range (λ q hq=>by rw[h];exact z2e hq);have l:(imp g ps 0 (List.range ps.length) r).length=ps.length:=by rw[O5,h]
 refine List.ext_getElem? λ j=>?_;by_cases c:j < ps.length
 ·have i:=congrArg (·[j]?) i;simp only[z2b,List.getElem?_range c,Option.map_some,Nat.zero_add] at i;rw[z2b];cases q:(bU ps)[j]? with
  |none=>rw[q] at i;cases i
  |some n=>rw[q] at i;exact Option.some.inj i
 ·rw[List.getElem?_eq_none (by omega),List.getElem?_eq_none (by rw[z1g,fK v];omega)]
end
end
section
variable {ns:List Int} {w h k:Nat} {f M:Nat->Nat->Int} {T:Nat->Nat->Nat->Int} {m:Str} {s:Nat->Nat} {ρ:ao}
theorem kO:(pl ps).length=ps.length:=z1g _
theorem Cg {p:Nat} (e:ps[i]?=some p):(pl ps)[i]?=some (.int (p:Int)):=by rw[pl,z2b,e];rfl
theorem Uo:(pl ps).eraseIdx i=pl (ps.eraseIdx i):=by rw[List.eraseIdx_eq_take_drop_succ,List.eraseIdx_eq_take_drop_succ,pl,pl,List.map_append,List.map_take,List.map_drop]
theorem ZR {n:Nat}:upto 0 n=pl (List.range n):=by unfold upto pl;exact jM λ i _=>by rw[Int.zero_add]
theorem abt {n:Nat}:(List.replicate n [D.int 0]).flatten=pl (List.replicate n 0):=by rw[List.flatten_replicate_singleton,pl,List.map_replicate];rfl
theorem Ab {n:Nat} (h:n<=1000):pP [.int (n:Int)]= .ok (.lst (pl (List.range n))):=by
 rw[pP,if_pos ⟨by omega,by omega⟩,Int.toNat_natCast,ZR]
theorem O8 {n:Nat} (h1:1<=n) (h:n<=1000):Dv (.lst [.int 0]) (.int (n:Int))= .ok (.lst (pl (List.replicate n 0))):=by
 rw[Dv,if_pos ⟨by simp,by omega,by omega,by rw[Int.toNat_natCast];simp;omega⟩,Int.toNat_natCast,abt]
theorem Uq (e:u ρ= .ok (.lst ds)):Du u i ρ= .nx (ρ.set i (some (.lst ds))):=by unfold Du;rw[e];rfl
theorem Ur {k:Nat} {fp:ao->R D} {row left:List D} {p c:Nat} {d:D} (e1:ρ[i]?=some (some (.lst row))) (e2:ρ[k]?=some (some (.lst left))) (e3:fp ρ= .ok (.int (p:Int))) (e4:fv ρ= .ok d) (e5:left[p]?=some (.int (c:Int))) (hp:p < 1000000) (hc:c < row.length):
  Pu.setPop i k fp fv ρ= .nx ((ρ.set k (some (.lst (left.eraseIdx p)))).set i (some (.lst (row.set c d)))):=by
 unfold Pu.setPop;rw[e1,e2,e3,e4];simp only[Int.toNat_natCast,e5];rw[if_pos ⟨by omega,by omega,by omega,by omega⟩]
abbrev nI:Nat->D:=λ p=> .int ((p:Nat):Int)
abbrev orB:ao->So:=Pu.setPop 3 2 (gv 5) (gv 4)
theorem O9 {e0 e1:Option Ent}:∀{ps:List Nat} {k:Nat} {L:List Nat} {r:List D} {x4 x5:Option Ent},Pv ps->ps.length=L.length->(∀q∈L,q < r.length)->L.length<=1000->
  ∃z2 z4 z5,forL (cD (cF 2 (aQ (aF 4) (aQ (aF 5) nilG)))) orB (iR k (pl ps)) [e0,e1,some (.lst (pl L)),some (.lst r),x4,x5]= .nx [e0,e1,z2,some (.lst (imp nI ps k L r)),z4,z5]
 |[],k,L,r,x4,x5,_,_,_,_=>⟨_,x4,x5,rfl⟩
 | p::ps,k,L,r,x4,x5,v,hl,hr,hb=>by
  have:=v.1;rw[List.length_cons] at hl;have hp:p < L.length:=by omega
  have ec:L.getD p 0=L[p]:=by rw[List.getD_eq_getElem?_getD,List.getElem?_eq_getElem hp];rfl
  have hc:=hr _ (List.getElem_mem hp);obtain⟨z2,z4,z5,i⟩:=O9 (e0:=e0) (e1:=e1) (ps:=ps) (k:=k+1) (L:=L.eraseIdx p) (r:=r.set (L.getD p 0) (nI k)) (x4:=vA (.int (k:Int))) (x5:=vA (.int (p:Int))) v.2 (by rw[List.length_eraseIdx,if_pos hp];omega) (λ q hq=>by rw[List.length_set];exact hr q (List.mem_of_mem_eraseIdx hq)) (by rw[List.length_eraseIdx,if_pos hp];omega);refine⟨z2,z4,z5,cQ (ρ1:=[e0,e1,some (.lst (pl L)),some (.lst r),vA (.int (k:Int)),vA (.int (p:Int))]) rfl (Ur (row:=r) (left:=pl L) (p:=p) (c:=L.getD p 0) (d:= .int (k:Int)) rfl rfl rfl rfl (Cg (by rw[ec,List.getElem?_eq_getElem hp])) (by omega) (by rw[ec];exact hc)) ?_⟩;rw[Uo];exact i
theorem Kf {n:Nat} (v:Pv ps) (hn:ps.length=n) (n1:1<=n) (n20:n<=20):kj [.lst (pl ps),.int (n:Int)]= .ok (.tup (pl (bU ps))):=by
 subst hn;obtain⟨z2,z4,z5,e⟩:=O9 (e0:=vA (.lst (pl ps))) (e1:=vA (.int (ps.length:Int))) (k:=0) (L:=List.range ps.length) (r:=pl (List.replicate ps.length 0)) (x4:=none) (x5:=none) v (z2d).symm (λ q hq=>by rw[kO,List.length_replicate];exact z2e hq) (by rw[z2d];omega);rw[O7 v (by rw[kO,List.length_replicate])] at e;exact cC (aL (Uq (aO (aA rfl) (Ab (by omega)))) (aL (Uq (au (j9 (aA rfl)) rfl (O8 n1 (by omega)))) (aL (gY (xs:=iR 0 (pl ps)) rfl e) (bC (aO (aA rfl) rfl)))))
theorem Kg {α:Type} {p:α->Bool} {g:α->D}:∀{l:List α},(l.filterMap λ a=>if p a=true then some (g a) else none).length=(l.filter p).length
 |[]=>rfl
 | a::l=>by
  cases e:p a with
  |true=>rw[List.filterMap_cons_some (b:=g a) (by simp[e]),List.length_cons,List.filter_cons,if_pos e,List.length_cons,Kg]
  |false=>rw[List.filterMap_cons_none (by simp[e]),List.filter_cons,if_neg (by simp[e]),Kg]
theorem idx_eq (hi:i∈l):Ij (pl l) (.int (i:Int))= .ok (.int ((l.findIdx (· ==i):Nat):Int)):=by
 have e:(pl l).findIdx (cP · (.int (i:Int)))=l.findIdx (· ==i):=by
  clear hi
  induction l with
  |nil=>rfl
  | cons a l ih=>
   show (D.int (a:Int)::pl l).findIdx _=_;rw[List.findIdx_cons,List.findIdx_cons,ih];have:cP (.int (a:Int)) (.int (i:Int))=(a ==i):=by
    by_cases c:a=i
    ·subst c;simp[jX,jY,jZ,j5,j7,gw,dY]
    ·have:¬(a:Int)=(i:Int):=by omega
     show ((a:Int) ==(i:Int))=_;rw[beq_eq_false_iff_ne.mpr this,beq_eq_false_iff_ne.mpr c]
   rw[this]
 have hlt:l.findIdx (· ==i) < l.length:=List.findIdx_lt_length_of_exists ⟨i,hi,by simp⟩;rw[Ij,e,if_pos ⟨List.all_eq_true.mpr λ d hd=>by
  obtain⟨a,_,rfl⟩:=List.mem_map.mp hd;simp[dep],by rw[kO];exact hlt⟩]
theorem G4 (hi:i∈l) (hl:l.length<=1000):jH [.tup (pl l),.int (i:Int)]= .ok (.int ((oX l i:Nat):Int)):=by
 rw[<-Ul,<-Kg (g:=λ (a:Nat)=>D.int (a:Int))];have hb:l.findIdx (· ==i)<=l.length:=List.findIdx_le_length;refine cC (bC (aO (aA (abn (c:=λ (a:Nat)=>D.int (a:Int)) (o:=λ (a:Nat)=>if decide (i < a)=true then some (D.int (a:Int)) else none) (l:=l.take (l.findIdx (· ==i))) ?_ (by rw[List.length_take];omega) λ a _=>?_)) rfl))
 ·refine fB ?_;rw[List.map_take];refine Oh (ds:=pl l) (n:=l.findIdx (· ==i)) rfl ?_ (by rw[kO];exact hb);show (Ij (pl l) (.int (i:Int))).bind vH=_;rw[idx_eq hi];rfl
 ·refine ZP rfl (bf (au rfl rfl ?_)) rfl;show R.ok (D.bl (decide ((i:Int) < (a:Int))))=_;rw[decide_eq_decide.mpr (by omega:(i:Int) < (a:Int)↔i < a)]
def lJ (h:Nat):Nat->List (Nat->Nat)->Prop
 |_,[]=>True
 |w,s::S=>xu w h s/\lJ h (w - 1) S
def col (y:Nat) (S:List (Nat->Nat)):List Nat:=S.map (· y)
theorem fH {S:List (Nat->Nat)}:(col y S).length=S.length:=z1g _
theorem jP {y:Nat} (hy:y < h):∀{S:List (Nat->Nat)},lJ h S.length S->Pv (col y S)
 |[],_=>trivial
 |s::S,v=>⟨by have:=v.1.lt y hy;rw[List.length_cons] at this;show s y<=(col y S).length;rw[fH];omega,jP hy v.2⟩
theorem Pb:∀{S:List (Nat->Nat)} {w i:Nat} {s:Nat->Nat},lJ h w S->S[i]?=some s->xu (w - i) h s
 |t::S,w,0,s,v,e=>by cases Option.some.inj e;exact v.1
 |t::S,w,i+1,s,v,e=>by rw[show w - (i+1)=w - 1 - i by omega];exact Pb v.2 e
def tabS (h:Nat) (S:List (Nat->Nat)):D:= .tup ((List.range h).map λ y=> .tup (pl (bU (col y S))))
theorem len_tab {S:List (Nat->Nat)} (h1:1<=h) (v:lJ h S.length S) (e:u ρ= .ok (tabS h S)):aB cJ (ak (bin u (ci 0) bZ) nA) ρ= .ok (.int (S.length:Int)):=by
 refine aO (aA (au e rfl (gW (i:=0) (d:= .tup (pl (bU (col 0 S)))) ?_))) ?_
 ·rw[z2b,List.getElem?_range h1];rfl
 ·show R.ok (D.int ((pl (bU (col 0 S))).length:Int))=_;rw[kO,fK (jP h1 v),fH]
theorem ZS (v:Pv ps) (hi:i < ps.length):i∈bU ps:=(xG v).mem_iff.mpr (List.mem_range.mpr hi)
theorem Mf {S:List (Nat->Nat)} (h1:1<=h) (mJ:h<=20) (w20:S.length<=20) (v:lJ h S.length S):mD [tabS h S]= .ok (.lst (S.map (sm h))):=by
 have e:S.map (sm h)=(List.range S.length).map λ n=>sm h (S.getD n λ _=>0):=by
  refine List.ext_getElem (by simp) λ i h1 h2=>?_;have:i < S.length:=by simpa using h1
  simp[this]
 rw[e];refine cC (bC (bL (c:=λ (n:Nat)=> .int (n:Int)) (l:=List.range S.length) (gU (aA (len_tab h1 v rfl)) (by omega)) (by rw[z2d];omega) λ n hn=>?_));have hn:n < S.length:=z2e hn;refine bW rfl (aO (aA (bL (c:=λ y=> .tup (pl (bU (col y S)))) (h:=λ y=> .int ((S.getD n (λ _=>0) y:Nat):Int)) (l:=List.range h) (fB rfl) (by rw[z2d];omega) λ y hy=>?_)) rfl);have hy:y < h:=z2e hy;have pv:=jP hy v;have ep:oX (bU (col y S)) n=S.getD n (λ _=>0) y:=OD pv (by rw[col,z2b,List.getElem?_eq_getElem hn,List.getD_eq_getElem?_getD,List.getElem?_eq_getElem hn];rfl);rw[<-ep];exact bW rfl (aY (aD rfl (aA rfl)) (G4 (ZS pv (by rw[fH];exact hn)) (by rw[fK pv,fH];omega)))
theorem Us:intsOf (pl l)=some (l.map λ (a:Nat)=>(a:Int)):=wB
theorem ZV (v:Pv ps):(FJ ((bU ps).map λ (a:Nat)=>(a:Int))).map D.int=pl (List.range ps.length):=by
 rw[<-Jj (a:=(List.range ps.length).map λ (a:Nat)=>(a:Int)) ((xG v).symm.map _) (List.pairwise_map.mpr (List.pairwise_le_range.imp λ h=>by omega)),List.map_map];rfl
theorem abu:deps (pl l)<=0:=p8 (c:=λ (a:Nat)=>D.int (a:Int)) (λ a _=>by simp[dep])
theorem Ci {n:Nat} (v:Pv ps) (hn:ps.length=n) (n20:n<=20):iH [.tup (pl (bU ps)),.int (n:Int)]= .ok (.bl true):=by
 subst hn;have hl:(bU ps).length=ps.length:=fK v;refine cC (aL (cT (qI (eX (b:=true) (bf rfl)) (eX (bf (aO (aA (bL (c:=λ (a:Nat)=> .int (a:Int)) (h:=λ _=> .bl true) (l:=bU ps) (fB rfl) (by omega) λ a _=>bW rfl (aY (aA rfl) oA))) lE)))) rfl) (bC (au (x:= .lst (pl (List.range ps.length))) (aO (aA rfl) ?_) (aO (aA rfl) (Ab (by omega))) (zN rfl ?_))))
 ·show wW [.tup (pl (bU ps))]=_;rw[wW,Us];show (if _ then _ else _)=_;rw[if_pos (by rw[z1g];omega),ZV v]
 ·rw[dep];have:=abu (l:=List.range ps.length);omega
theorem xH {S:List (Nat->Nat)} (o:Ok w h f) (hw:S.length=w) (v:lJ h S.length S):fX [tabS h S,bH w h f]= .ok (.bl true):=by
 subst hw;have ow:=o.w2;have oh:=o.h2;have en:S.map (sm h)=(List.range S.length).map λ n=>sm h (S.getD n λ _=>0):=by
  refine List.ext_getElem (by simp) λ i h1 h2=>?_;have:i < S.length:=by simpa using h1
  simp[this]
 have es:=Mf o.h1 oh ow v;rw[en] at es;refine cC (aL (bw (aY (aA rfl) (size_eq o)) rfl) (aL (cT (qI (eX (b:=true) (bf rfl)) (qI (bf (au (aO (aA rfl) rfl) rfl (Od ?_))) (eX (bf (aO (aA (bL (c:=λ y=> .tup (pl (bU (col y S)))) (h:=λ _=> .bl true) (l:=List.range h) (fB rfl) (by rw[z2d];omega) λ y hy=>?_)) lE))))) rfl)
  (bC (aO (aA (bL (c:=λ (n:Nat)=> .tup [.int (n:Int),sm h (S.getD n λ _=>0)]) (h:=λ _=> .bl true) (l:=List.range S.length) (uq (aA (aY (aA rfl) es)) rfl) (by rw[z2d];omega) λ n hn=>?_)) lE))))
 ·rw[z1g,z2d]
 ·exact bW rfl (aY (aD rfl (aA rfl)) (Ci (jP (z2e hy) v) fH ow))
 ·have hn:n < S.length:=z2e hn;have q:=Pb v (List.getElem?_eq_getElem hn);have eg:S.getD n (λ _=>0)=S[n]:=by rw[List.getD_eq_getElem?_getD,List.getElem?_eq_getElem hn];rfl
  rw[eg];refine bW rfl (aY (aD rfl (aD (x:= .int ((S.length - n:Nat):Int)) (au rfl rfl ?_) (aA rfl))) (T3 q oh));show R.ok (D.int ((S.length:Int) - (n:Int)))=_;rw[show (S.length:Int) - (n:Int)=((S.length - n:Nat):Int) by omega]
theorem Eb {S:List (Nat->Nat)} (o:Ok w h f) (hw:S.length=w) (v:lJ h S.length S):jj [tabS h S,bH w h f]= .ok .non:=Bg (cT (eX (bf (aY (aD rfl (aA rfl)) (xH o hw v)))) rfl)
theorem Kh {a n:Nat} (h1:a<=i) (h2:i<=n):jK [.int (i:Int),.int (a:Int),.int (n:Int)]= .ok .non:=
 Bg (cT (qI (eX (bf (aY (aA rfl) oA))) (eX (bf (Bd rfl rfl (rY (by omega)) rfl (rY (by omega)))))) rfl)
def vW (L:List vV):List (Nat->Nat):=L.map (·.1)
theorem Kl:∀{k w:Nat} {f M:Nat->Nat->Int} {L:List vV},Go m h k w f M (some L)->lJ h w (vW L)
 |0,w,f,M,L,g=>by cases Option.some.inj g;trivial
 | k +1,w,f,M,L,g=>by
  rcases g with⟨_,_,e⟩ |⟨s,r,q,_,g,e⟩
  ·cases e
  ·cases r with
   |none=>cases e
   |some L'=>cases Option.some.inj e;exact⟨q.sm,Kl g⟩
theorem Ut {L:List vV} (hm:m= "worth"\/m= "joins") (o:Ok w h f) (g:Go m h w w f (λ _ _=>0) (some L)):uV [bH w h f,.str m]= .ok (tabS h (vW L)):=by
 have hl:=Ke g;have v:=Kl g;have hS:(vW L).length=w:=by rw[vW,z1g,hl]
 have v':lJ h (vW L).length (vW L):=by rw[hS];exact v
 have ow:=o.w2;have oh:=o.h2;refine kJ (aL (bw (aY (aA rfl) (size_eq o)) rfl) (aL (yG (aY (aA rfl) (DY hm))) (aL (bw (aY (aD rfl (aD rfl (aD rfl (aA (aY (aA rfl) (LR o)))))) (WW hm o (z0g _) g)) rfl) (bC (aO (aA (bL (c:=λ (y:Nat)=> .int (y:Int)) (h:=λ y=> .tup (pl (bU (col y (vW L))))) (l:=List.range h) (gU (aA rfl) (by omega)) (by rw[z2d];omega) λ y hy=>?_)) rfl)))));have hy:y < h:=z2e hy;refine bW rfl (aY (aD (x:= .lst (pl (col y (vW L)))) ?_ (aA rfl)) (Kf (jP hy v') (by rw[fH,hS]) o.w1 ow));have:pl (col y (vW L))=L.map λ p=>D.int ((p.1 y:Nat):Int):=by rw[pl,col,vW,List.map_map,List.map_map];rfl
 rw[this];refine bL (c:=yN h) (l:=L) (m9 rfl) (by omega) λ p _=>bW rfl (au rfl rfl (gW (i:=y) ?_));rw[z2b,List.getElem?_range hy];rfl
end
section
variable {ns:List Int} {w h k:Nat} {f M:Nat->Nat->Int} {T:Nat->Nat->Nat->Int} {m:Str} {s:Nat->Nat} {ρ:ao}
def iU (h:Nat) (Lf:Nat->List Nat):Option Ent:=some (.lst ((List.range h).map λ y=> .lst (pl (Lf y))))
def gM (h:Nat) (rf:Nat->List D):Option Ent:=some (.rws ((List.range h).map rf))
theorem Uu {g:Nat->α} {v:α} (hy:y < h):((List.range h).map g).set y v=(List.range h).map λ z=>if z=y then v else g z:=by
 refine List.ext_getElem (by simp) λ i h1 h2=>?_;rw[List.getElem_set];by_cases c:y=i
 ·subst c;simp
 ·have c':¬i=y:=λ e=>c e.symm;simp[c,c']
theorem uZ {p q:Nat->List D} (e:∀y < h,p y=q y):gM h p=gM h q:=by unfold gM;rw[jM λ y hy=>e y (z2e hy)]
theorem Cj {p q:Nat->List Nat} (e:∀y < h,p y=q y):iU h p=iU h q:=by unfold iU;rw[jM λ y hy=>by rw[e y (z2e hy)]]
theorem WX {c:Nat} {fy fk:ao->R D} {d:D} (e1:ρ[i]?=some (gM h rf)) (e2:fy ρ= .ok (.int (y:Int))) (e3:fk ρ= .ok (.int (c:Int))) (e4:fv ρ= .ok d) (hy:y < h) (hc:c < (rf y).length):Bw i fy fk fv ρ= .nx (ρ.set i (gM h λ z=>if z=y then (rf y).set c d else rf z)):=by
 unfold Bw;rw[e1,e2,e3,e4];simp only[gM,Int.toNat_natCast,z2b,List.getElem?_range hy,Option.map_some];rw[if_pos ⟨by omega,by omega,by omega⟩,Uu hy]
theorem Uv (e1:ρ[i]?=some (iU h Lf)) (e2:u ρ= .ok (.int (y:Int))) (hy:y < h):wO i u ρ= .ok (.lst (pl (Lf y))):=by
 unfold wO;rw[e1,e2];show bZ (.lst _) (.int (y:Int))=_;exact Bf (by rw[z2b,List.getElem?_range hy];rfl)
theorem ZW {L':List Nat} {fk:ao->R D} (e1:ρ[i]?=some (iU h Lf)) (e2:fk ρ= .ok (.int (y:Int))) (e3:fv ρ= .ok (.lst (pl L'))) (hy:y < h):JB i fk fv ρ= .nx (ρ.set i (iU h λ z=>if z=y then L' else Lf z)):=by
 unfold JB;rw[e3,tU];show (match ρ[i]? with |some (some (.lst ds))=>_ |_=>_)=_;rw[e1];show fQ (wz (fk ρ)) ρ _=_;rw[e2,tU];show (if _ then _ else _)=_;rw[if_pos ⟨by omega,by rw[z1g,z2d];omega⟩,Int.toNat_natCast,Uu hy];unfold iU;refine congrArg (λ z=>So.nx (ρ.set i (some (Ent.lst z)))) (jM λ z _=>?_);by_cases c:z=y
 ·rw[if_pos c];simp only[if_pos c]
 ·rw[if_neg c];simp only[if_neg c]
theorem WY {fu:ao->R (Option Int)} {n:Nat} (e1:u ρ= .ok (.lst ds)) (e2:fu ρ= .ok (some (n:Int))) (hn:n<=ds.length):eN u (λ _=> .ok none) fu ρ= .ok (.lst (ds.take n)):=by
 rw[eN,e1,R.aR,R.aR,e2,R.aR,Dr,Og hn]
theorem QH {fl:ao->R (Option Int)} {n:Nat} (e1:u ρ= .ok (.lst ds)) (e2:fl ρ= .ok (some (n:Int))) (hn:n<=ds.length):eN u fl (λ _=> .ok none) ρ= .ok (.lst (ds.drop n)):=by
 rw[eN,e1,R.aR,e2,R.aR,R.aR,Dr,Gn hn]
theorem abv {fx:ao->R D} {L:List Nat} (e1:u ρ= .ok (.lst (pl L))) (e2:fx ρ= .ok (.int (x:Int))) (hx:x < L.length) (hl:L.length<=1000):
  bin (eN u (λ _=> .ok none) (λ ρ=>(fx ρ).bind vH)) (eN u (λ ρ=>(bin fx (ci 1) cO ρ).bind vH) (λ _=> .ok none)) cO ρ= .ok (.lst (pl (L.eraseIdx x))):=by
 refine au (WY (n:=x) e1 (by rw[e2];rfl) (by rw[kO];omega)) (QH (n:=x+1) e1 ?_ (by rw[kO];omega)) ?_
 ·show (bin fx (ci 1) cO ρ).bind vH=_;rw[au (x:= .int (x:Int)) (y:= .int 1) e2 rfl rfl];rfl
 ·rw[Zu (by rw[List.length_take,List.length_drop,kO];omega),<-Uo,List.eraseIdx_eq_take_drop_succ]
theorem Gu {α:Type} {p:α->List D}:∀{l:List α},(∀a∈l,(p a).all isAtom=true)->rowsOf (l.map λ a=>D.lst (p a))=some (l.map p)
 |[],_=>rfl
 | a::l,e=>by
  rw[z1h,rowsOf,Gu λ b hb=>e b (by simp[hb]),rowOf,if_pos (e a (by simp))];rfl
theorem ZX:(pl l).all isAtom=true:=List.all_eq_true.mpr λ d hd=>by obtain⟨a,_,rfl⟩:=List.mem_map.mp hd;rfl
theorem Z0 (e:∀y < h,(rf y).all isAtom=true) (hR:(ρ.set i none).all JD=true):JG (.lst ((List.range h).map λ y=> .lst (rf y))) i ρ=some (ρ.set i (gM h rf)):=by
 rw[JG,Gu λ a ha=>e a (z2e ha)];show (if _ then _ else _)=_;rw[if_pos hR];rfl
theorem W0 {p q:zY} {k:Nat} {g:ao->R D} {d e:D} {ρ2:ao} (e1:u ρ= .ok d) (e2:p d i ρ=some ρ1) (e3:g ρ= .ok e) (e4:q e k ρ1=some ρ2):yK p q i k u g ρ= .nx ρ2:=by
 unfold yK;rw[e1];show (match p d i ρ with |none=>_ |some ρ1=>_)=_;rw[e2];show fQ (g ρ) ρ _=_;rw[e3];show (match q e k ρ1 with |none=>_ |some ρ1=>_)=_;rw[e4]
theorem abw {n:Nat} (hy:y < h) (hx:x < (Lf y).length) (hr:∀q∈Lf y,q < (rf y).length) (hl:(Lf y).length<=1000):
  Yg [e0,e1,e2,e3,(iU h Lf),(gM h rf),(vA (.int (n:Int))),(vA (.int (y:Int))),(vA (.int (x:Int))),e9,e10,dh,gD,dJ,fY,fZ,dW,fD]= .nx [e0,e1,e2,e3,(iU h λ z=>if z=y then (Lf y).eraseIdx x else Lf z),(gM h λ z=>if z=y then (rf y).set ((Lf y).getD x 0) (nI n) else rf z),(vA (.int (n:Int))),(vA (.int (y:Int))),(vA (.int (x:Int))),e9,e10,dh,gD,dJ,fY,fZ,dW,fD]:=by
 have ec:(Lf y).getD x 0=(Lf y)[x]:=by rw[List.getD_eq_getElem?_getD,List.getElem?_eq_getElem hx];rfl
 refine aL (WX (h:=h) (rf:=rf) (y:=y) (c:=(Lf y).getD x 0) (d:=nI n) rfl rfl (au (x:= .lst (pl (Lf y))) (y:= .int (x:Int)) (Uv (h:=h) (Lf:=Lf) (y:=y) rfl rfl hy) rfl (Bf (i:=x) (Cg (by rw[ec,List.getElem?_eq_getElem hx])))) rfl hy (by rw[ec];exact hr _ (List.getElem_mem hx))) ?_;exact ZW (h:=h) (Lf:=Lf) (y:=y) (L':=(Lf y).eraseIdx x) rfl rfl (abv (Uv (h:=h) (Lf:=Lf) (y:=y) rfl rfl hy) rfl hx hl) hy
theorem Pg {n:Nat} {e0 e1 e2 e3 e9 e10 dh gD dJ fY fZ dW fD:Option Ent}:∀{ys:List Nat} {Lf:Nat->List Nat} {rf:Nat->List D} {x7 x8:Option Ent},ys.Nodup->(∀y∈ys,y < h/\s y < (Lf y).length/\(∀q∈Lf y,q < (rf y).length)/\(Lf y).length<=1000)->
  ∃ z7 z8,forL (cD (cF 2 (aQ (aF 7) (aQ (aF 8) nilG)))) Yg (ys.map λ (y:Nat)=> .tup [.int (y:Int),.int ((s y:Nat):Int)]) [e0,e1,e2,e3,(iU h Lf),(gM h rf),(vA (.int (n:Int))),x7,x8,e9,e10,dh,gD,dJ,fY,fZ,dW,fD] =
   .nx [e0,e1,e2,e3,(iU h λ z=>if z∈ys then (Lf z).eraseIdx (s z) else Lf z),(gM h λ z=>if z∈ys then (rf z).set ((Lf z).getD (s z) 0) (nI n) else rf z),(vA (.int (n:Int))),z7,z8,e9,e10,dh,gD,dJ,fY,fZ,dW,fD]
 |[],Lf,rf,x7,x8,_,_=>⟨x7,x8,by simp only[List.not_mem_nil,if_false];rfl⟩
 | y ::ys,Lf,rf,x7,x8,nd,hy=>by
  obtain⟨h1,h2,h3,h4⟩:=hy y (by simp);have ny:=(List.nodup_cons.mp nd).1;obtain⟨z7,z8,i⟩:=Pg (e0:=e0) (e1:=e1) (e2:=e2) (e3:=e3) (e9:=e9) (e10:=e10) (dh:=dh) (gD:=gD) (dJ:=dJ) (fY:=fY) (fZ:=fZ) (dW:=dW) (fD:=fD) (n:=n) (ys:=ys) (Lf:=λ z=>if z=y then (Lf y).eraseIdx (s y) else Lf z) (rf:=λ z=>if z=y then (rf y).set ((Lf y).getD (s y) 0) (nI n) else rf z) (x7:=vA (.int (y:Int))) (x8:=vA (.int ((s y:Nat):Int))) (List.nodup_cons.mp nd).2 (λ z hz=>by
   have hzy:¬z=y:=λ e=>ny (e▸hz);simp only[if_neg hzy];exact hy z (by simp[hz]))
  refine⟨z7,z8,cQ rfl (abw h1 h2 h3 h4) (i.trans ?_)⟩;have a1:(iU h λ z=>if z∈ys then (if z=y then (Lf y).eraseIdx (s y) else Lf z).eraseIdx (s z) else if z=y then (Lf y).eraseIdx (s y) else Lf z)=iU h λ z=>if z∈y::ys then (Lf z).eraseIdx (s z) else Lf z:=Cj λ z _=>by
   by_cases c:z=y
   ·subst c;simp[ny]
   ·simp[c]
  have a2:(gM h λ z=>if z∈ys then (if z=y then (rf y).set ((Lf y).getD (s y) 0) (nI n) else rf z).set ((if z=y then (Lf y).eraseIdx (s y) else Lf z).getD (s z) 0) (nI n) else if z=y then (rf y).set ((Lf y).getD (s y) 0) (nI n) else rf z)=gM h λ z=>if z∈y::ys then (rf z).set ((Lf z).getD (s z) 0) (nI n) else rf z:=uZ λ z _=>by
   by_cases c:z=y
   ·subst c;simp[ny]
   ·simp[c]
  rw[a1,a2]
theorem abx {n:Nat} {x7 x8:Option Ent} (hy:∀y < h,s y < (Lf y).length/\(∀q∈Lf y,q < (rf y).length)/\(Lf y).length<=1000):
  ∃ z7 z8,forL (cD (cF 2 (aQ (aF 7) (aQ (aF 8) nilG)))) Yg ((List.range h).map λ (y:Nat)=> .tup [.int (y:Int),.int ((s y:Nat):Int)]) [e0,e1,e2,e3,(iU h Lf),(gM h rf),(vA (.int (n:Int))),x7,x8,e9,e10,dh,gD,dJ,fY,fZ,dW,fD] =
   .nx [e0,e1,e2,e3,(iU h λ z=>(Lf z).eraseIdx (s z)),(gM h λ z=>(rf z).set ((Lf z).getD (s z) 0) (nI n)),(vA (.int (n:Int))),z7,z8,e9,e10,dh,gD,dJ,fY,fZ,dW,fD]:=by
 obtain⟨z7,z8,i⟩:=Pg (s:=s) (e0:=e0) (e1:=e1) (e2:=e2) (e3:=e3) (e9:=e9) (e10:=e10) (dh:=dh) (gD:=gD) (dJ:=dJ) (fY:=fY) (fZ:=fZ) (dW:=dW) (fD:=fD) (n:=n) (ys:=List.range h) (Lf:=Lf) (rf:=rf) (x7:=x7) (x8:=x8) List.nodup_range (λ y h'=>⟨z2e h',hy y (z2e h')⟩);refine⟨z7,z8,i.trans ?_⟩;rw[Cj (q:=λ z=>(Lf z).eraseIdx (s z)) λ z hz=>if_pos (List.mem_range.mpr hz),uZ (q:=λ z=>(rf z).set ((Lf z).getD (s z) 0) (nI n)) λ z hz=>if_pos (List.mem_range.mpr hz)]
end
section
variable {ns:List Int} {w h k:Nat} {f M:Nat->Nat->Int} {T:Nat->Nat->Nat->Int} {m:Str} {s:Nat->Nat} {ρ:ao}
def jo (w:Nat) (g:Nat->Int) (m:Nat):Nat->List Nat->List Int
 |_,[]=>[]
 |k,n::l=>g k::((if n < m then [mean w g k] else [])++jo w g m (k+1) l)
section
variable {g:Nat->Int} {mo:Nat}
theorem Ph:∀{l:List Nat} {k:Nat},(jo w g mo k l).length=l.length+zp mo l
 |[],_=>rfl
 | n::l,k=>by
  rw[jo,List.length_cons,z1d,Ph,List.length_cons,zp,zp,List.filter_cons];by_cases c:n < mo
  ·rw[if_pos c,if_pos (decide_eq_true c),List.length_cons,List.length_cons,List.length_nil];omega
  ·rw[if_neg c,if_neg (by simpa using c),List.length_nil];omega
theorem Km:∀{l:List Nat} {k:Nat},jo w g 0 k l=(List.range' k l.length).map g
 |[],_=>rfl
 |n::l,k=>by rw[jo,if_neg (by omega),List.nil_append,Km,List.length_cons,List.range'_succ,z1h]
theorem Pj {p:Int->Prop} (hg:∀x < w,p (g x)) (hm:∀x < w,p (mean w g x)):∀{l:List Nat} {k:Nat},k+l.length<=w->∀c∈jo w g mo k l,p c
 |[],_,_,c,hc=>by cases hc
 | n ::l,k,hk,c,hc=>by
  rw[List.length_cons] at hk;rw[jo] at hc;rcases List.mem_cons.mp hc with rfl |hc
  ·exact hg k (by omega)
  ·rcases List.mem_append.mp hc with hc |hc
   ·by_cases q:n < mo
    ·rw[if_pos q] at hc;rw[List.mem_singleton.mp hc];exact hm k (by omega)
    ·rw[if_neg q] at hc;cases hc
   ·exact Pj hg hm (by omega) c hc
theorem ur {i:Int}:ltI (.int i) (.int j)= .ok (.bl (decide (i < j))):=rfl
theorem aby {n k:Nat} {acc:List Int} (hk:k < w) (w20:w<=20) (hl:acc.length<=1000):
  wrB [vA (row w g),e1,vA (.int (mo:Int)),some (.lst (acc.map .int)),vA (.int (k:Int)),vA (.int (n:Int))] =
   .nx [vA (row w g),e1,vA (.int (mo:Int)),some (.lst ((acc++(g k::if n < mo then [mean w g k] else [])).map .int)),vA (.int (k:Int)),vA (.int (n:Int))]:=by
 refine aL (oV (ds:=acc.map .int) (au rfl rfl (jN hk)) rfl (by rw[z1g];omega)) ?_;by_cases c:n < mo
 ·rw[if_pos c];refine (iB (bf (au rfl rfl (ur.trans (by rw[decide_eq_true (by omega:(n:Int) < (mo:Int))])))) (oV (ds:=acc.map .int++[.int (g k)]) (aY (aD rfl (aA rfl)) (Zv hk w20)) rfl (by simp;omega))).trans ?_;simp
 ·rw[if_neg c];refine (cT (bf (au rfl rfl (ur.trans (by rw[decide_eq_false (by omega:¬(n:Int) < (mo:Int))])))) rfl).trans ?_;simp
theorem Pk {e1:Option Ent} (w20:w<=20):∀{l:List Nat} {k:Nat} {acc:List Int} {x4 x5:Option Ent},k+l.length<=w->acc.length+2*l.length<=500->
  ∃ z4 z5,forL (cD (cF 2 (aQ (aF 4) (aQ (aF 5) nilG)))) wrB (iR k (pl l)) [vA (row w g),e1,vA (.int (mo:Int)),some (.lst (acc.map .int)),x4,x5] =
   .nx [vA (row w g),e1,vA (.int (mo:Int)),some (.lst ((acc++jo w g mo k l).map .int)),z4,z5]
 |[],k,acc,x4,x5,_,_=>⟨x4,x5,by rw[jo,List.append_nil];rfl⟩
 | n::l,k,acc,x4,x5,hk,hl=>by
  rw[List.length_cons] at hk hl;have hb:(g k::if n < mo then [mean w g k] else []).length<=2:=by split <;> simp
  obtain⟨z4,z5,i⟩:=Pk (e1:=e1) w20 (l:=l) (k:=k+1) (acc:=acc++(g k::if n < mo then [mean w g k] else [])) (x4:=vA (.int (k:Int))) (x5:=vA (.int (n:Int))) (by omega) (by rw[z1d];omega);refine⟨z4,z5,cQ (ρ1:=[vA (row w g),e1,vA (.int (mo:Int)),some (.lst (acc.map .int)),vA (.int (k:Int)),vA (.int (n:Int))]) rfl (aby (by omega) w20 (by omega)) (i.trans ?_)⟩;rw[jo,List.append_assoc,List.cons_append]
theorem Ec (hl:l.length=w) (w20:w<=20):jm [row w g,.tup (pl l),.int (mo:Int)]= .ok (.tup ((jo w g mo 0 l).map .int)):=by
 obtain⟨z4,z5,e⟩:=Pk (g:=g) (mo:=mo) (e1:=vA (.tup (pl l))) w20 (l:=l) (k:=0) (acc:=[]) (x4:=none) (x5:=none) (by omega) (by rw[List.length_nil];omega);rw[List.nil_append] at e;exact cC (aL (jt rfl) (aL (gY (xs:=iR 0 (pl l)) rfl e) (bC (aO (aA rfl) rfl))))
end
def xJ (w:Nat) (f:Nat->Nat->Int) (S:List (Nat->Nat)) (mo:Nat):Nat->Nat->Int:=λ y x=>(jo w (f y) mo 0 (bU (col y S))).getD x 0
section
variable {S:List (Nat->Nat)} {mo:Nat}
theorem abz {l:List Int} {n:Nat} (hl:l.length=n):row n (λ x=>l.getD x 0)= .tup (l.map .int):=by
 unfold row;refine congrArg D.tup (List.ext_getElem (by simp[hl]) λ i h1 h2=>?_);have:i < l.length:=by simpa using h2
 simp[this]
theorem Pn (hw:S.length=w) (v:lJ h S.length S) (hm:mo<=w) (hy:y < h):(jo w (f y) mo 0 (bU (col y S))).length=w+mo:=by
 have pv:=jP hy v;rw[Ph,fK pv,fH,hw,OJ pv (by rw[fH,hw];exact hm)]
theorem Pq (hw:S.length=w) (v:lJ h S.length S) (hm:mo<=w) (hy:y < h):row (w+mo) (xJ w f S mo y)= .tup ((jo w (f y) mo 0 (bU (col y S))).map .int):=abz (Pn hw v hm hy)
theorem abA (o:Ok w h f) (hw:S.length=w) (v:lJ h S.length S) (hm:mo<=w) (mJ:w+mo<=20):Ok (w+mo) h (xJ w f S mo):=by
 refine⟨by have:=o.w1;omega,mJ,o.h1,o.h2,λ y hy x hx=>?_⟩;have hl:=Pn (f:=f) hw v hm hy;have pv:=jP hy v;have:x < (jo w (f y) mo 0 (bU (col y S))).length:=by omega
 unfold xJ;rw[List.getD_eq_getElem?_getD,List.getElem?_eq_getElem this];exact Pj (p:=λ c=>0<=c/\c<=99) (λ x hx=>o.c y hy x hx) (λ x hx=>Zx o hy hx) (by rw[fK pv,fH];omega) _ (List.getElem_mem this)
theorem W2 (hw:S.length=w) (v:lJ h S.length S):bH (w+0) h (xJ w f S 0)=bH w h f:=by
 refine TV λ y hy x hx=>?_;unfold xJ;have pv:=jP hy v;rw[Km,fK pv,fH,hw,List.getD_eq_getElem?_getD,z2b,<-List.range_eq_range',List.getElem?_range (by omega)];rfl
theorem minD_eq {a b:Nat}:minD [.int (a:Int),.int (b:Int)]= .ok (.int ((min a b:Nat):Int)):=by
 show R.ok (D.int (if (b:Int) < (a:Int) then _ else _))=_;congr 2;split <;> omega
theorem abB {n:Nat} (hn:n<=1000):sI (.int 2) (.int (n:Int))= .ok (.int ((2*n:Nat):Int)):=by
 show gj (.int 2) (.int (n:Int))=_;rw[jC (.inl ⟨by omega,by omega⟩),show (2:Int)*(n:Int)=((2*n:Nat):Int) by omega]
theorem Ck (o:Ok w h f) (hw:S.length=w) (v:lJ h S.length S) (hm:mo<=w) (mJ:w+mo<=20):jL [bH w h f,tabS h S,.int ((w+mo:Nat):Int)]= .ok (bH (w+mo) h (xJ w f S mo)):=by
 have ow:=o.w2;refine cC (aL (yG (aY (aD rfl (aA rfl)) (Eb o hw v))) (aL (bw (len0 o rfl) rfl) (aL (yG (aY (aD rfl (aD rfl (aA (aO (aD (au rfl rfl (abB (by omega))) (aA (x:= .int ((20:Nat):Int)) rfl)) minD_eq)))) (Kh (by omega) (by omega)))) (bC (aO (aA (bL (c:=λ y=> .tup [row w (f y),.tup (pl (bU (col y S)))]) (h:=λ y=>row (w+mo) (xJ w f S mo y)) (l:=List.range h) (Dz (aD rfl (aA rfl)) rfl rfl) (by rw[z2d];have:=o.h2;omega) λ y hy=>?_)) rfl)))));have hy:y < h:=z2e hy;rw[Pq hw v hm hy];refine bW rfl (aY (aD rfl (aD rfl (aA (x:= .int (mo:Int)) (au rfl rfl ?_)))) (Ec (by rw[fK (jP hy v),fH,hw]) ow));show R.ok (D.int (((w+mo:Nat):Int) - (w:Int)))=_;rw[show ((w+mo:Nat):Int) - (w:Int)=(mo:Int) by omega]
end
end
section
variable {ns:List Int} {w h k:Nat} {f M:Nat->Nat->Int} {T:Nat->Nat->Nat->Int} {m:Str} {s:Nat->Nat} {ρ:ao}
section
variable {g:Nat->Int} {mo:Nat} {S:List (Nat->Nat)}
theorem abC {n:Nat} {acc:List Int} (hx:x < w) (w20:w<=20) (hn:l[x]?=some n) (hl:acc.length<=1000):
  lxB [e0,e1,vA (.int (w:Int)),e3,e4,e5,e6,e7,vA (.int (x:Int)),e9,e10,dh,vA (.int ((w+mo:Nat):Int)),dJ,vA (row w g),vA (.tup (pl l)),dW,some (.lst (acc.map .int))] =
   .nx [e0,e1,vA (.int (w:Int)),e3,e4,e5,e6,e7,vA (.int (x:Int)),e9,e10,dh,vA (.int ((w+mo:Nat):Int)),dJ,vA (row w g),vA (.tup (pl l)),dW,some (.lst ((acc++(g x::if n < mo then [mean w g x] else [])).map .int))]:=by
 refine aL (oV (ds:=acc.map .int) (au rfl rfl (jN hx)) rfl (by rw[z1g];omega)) ?_;by_cases c:n < mo
 ·rw [if_pos c];refine (iB (bf (au (x:= .int (n:Int)) (y:= .int ((w+mo:Nat) - (w:Int))) (au rfl rfl (gW (i:=x) (Cg hn))) (au rfl rfl rfl) (ur.trans (by rw[decide_eq_true (by omega)])))) (oV (d:= .int (mean w g x)) (ds:=acc.map .int++[.int (g x)]) (au (x:= .int (g x+g (min (x+1) (w - 1)))) (y:= .int 2) (au (x:= .int (g x)) (y:= .int (g (min (x+1) (w - 1)))) (au rfl rfl (jN hx)) ?_ rfl) rfl (jD (by omega))) rfl (by simp;omega))).trans ?_
  ·by_cases d:x+1 < w
   ·rw[Nat.min_eq_left (by omega)];exact Om (bf (au (au (x:= .int (x:Int)) (y:= .int 1) rfl rfl rfl) rfl (ur.trans (by rw[decide_eq_true (by omega)])))) (au rfl (au (x:= .int (x:Int)) (y:= .int 1) rfl rfl rfl) (jN (x:=x+1) d))
   ·rw[show min (x+1) (w - 1)=x by omega];exact Oo (bf (au (au (x:= .int (x:Int)) (y:= .int 1) rfl rfl rfl) rfl (ur.trans (by rw[decide_eq_false (by omega)])))) (au rfl rfl (jN hx))
  ·simp
 ·rw[if_neg c];refine (cT (bf (au (x:= .int (n:Int)) (y:= .int ((w+mo:Nat) - (w:Int))) (au rfl rfl (gW (i:=x) (Cg hn))) (au rfl rfl rfl) (ur.trans (by rw[decide_eq_false (by omega)])))) rfl).trans ?_;simp
theorem Pr {l:List Nat} {e0 e1 e3 e4 e5 e6 e7 e9 e10 dh dJ dW:Option Ent} (w20:w<=20):∀{t:List Nat} {k:Nat} {acc:List Int} {x8:Option Ent},l.drop k=t->k+t.length=w->acc.length+2*t.length<=500->
  ∃ z8,forL (aF 8) lxB ((List.range' k t.length).map λ (x:Nat)=> .int (x:Int)) [e0,e1,vA (.int (w:Int)),e3,e4,e5,e6,e7,x8,e9,e10,dh,vA (.int ((w+mo:Nat):Int)),dJ,vA (row w g),vA (.tup (pl l)),dW,some (.lst (acc.map .int))] =
   .nx [e0,e1,vA (.int (w:Int)),e3,e4,e5,e6,e7,z8,e9,e10,dh,vA (.int ((w+mo:Nat):Int)),dJ,vA (row w g),vA (.tup (pl l)),dW,some (.lst ((acc++jo w g mo k t).map .int))]
 |[],k,acc,x8,_,_,_=>⟨x8,by rw[jo,List.append_nil];rfl⟩
 | n::t,k,acc,x8,ht,hk,hl=>by
  rw[List.length_cons] at hk hl;have hn:l[k]?=some n:=by have:=congrArg (·[0]?) ht;simpa using this
  have ht':l.drop (k+1)=t:=by rw[<-List.drop_drop,ht];rfl
  have hb:(g k::if n < mo then [mean w g k] else []).length<=2:=by split <;> simp
  obtain⟨z8,i⟩:=Pr (e0:=e0) (e1:=e1) (e3:=e3) (e4:=e4) (e5:=e5) (e6:=e6) (e7:=e7) (e9:=e9) (e10:=e10) (dh:=dh) (dJ:=dJ) (dW:=dW) w20 (t:=t) (k:=k+1) (acc:=acc++(g k::if n < mo then [mean w g k] else [])) (x8:=vA (.int (k:Int))) ht' (by omega) (by rw[z1d];omega);refine⟨z8,?_⟩;rw[List.length_cons,List.range'_succ,z1h];refine cQ rfl (abC (by omega) w20 hn (by omega)) (i.trans ?_);rw[jo,List.append_assoc,List.cons_append]
theorem abD (hl:l.length=w) (w20:w<=20):
  ∃ z8 Ko,lzB [e0,e1,vA (.int (w:Int)),e3,e4,e5,e6,e7,e8,e9,e10,dh,vA (.int ((w+mo:Nat):Int)),dJ,vA (row w g),vA (.tup (pl l)),vA (.tup ((jo w g mo 0 l).map .int)),fD] =
   .nx [e0,e1,vA (.int (w:Int)),e3,e4,e5,e6,e7,z8,e9,e10,dh,vA (.int ((w+mo:Nat):Int)),dJ,vA (row w g),vA (.tup (pl l)),vA (.tup ((jo w g mo 0 l).map .int)),Ko]:=by
 obtain⟨z8,i⟩:=Pr (g:=g) (mo:=mo) (l:=l) (e0:=e0) (e1:=e1) (e3:=e3) (e4:=e4) (e5:=e5) (e6:=e6) (e7:=e7) (e9:=e9) (e10:=e10) (dh:=dh) (dJ:=dJ) (dW:=vA (.tup ((jo w g mo 0 l).map .int))) w20 (t:=l) (k:=0) (acc:=[]) (x8:=e8) rfl (by omega) (by rw[List.length_nil];omega);rw[hl,<-List.range_eq_range',List.nil_append] at i;refine⟨z8,_,aL (jt rfl) (aL (gY (gU (m:=w) (aA rfl) (by omega)) i) (cT (bf (au (aO (aA rfl) rfl) rfl (Pu.uO rfl ?_))) rfl))⟩;rw[dep];have:=p8 (c:=λ (c:Int)=>D.int c) (n:=0) (l:=jo w g mo 0 l) (λ x _=>by simp[dep]);exact z0b (Nat.add_le_add_right this 1) (by omega)
theorem Px {e0 e3 e4 e5 e6 e7 e10 dh:Option Ent} (hw:S.length=w) (v:lJ h S.length S) (w20:w<=20):∀{ys:List Nat} {x8 Py Pz PB x17:Option Ent},(∀y∈ys,y < h)->
  ∃ z8 z14 z15 z16 Ko,forL (cD (cF 3 (aQ (aF 14) (aQ (aF 15) (aQ (aF 16) nilG))))) lzB (ys.map λ y=> .tup [row w (f y),.tup (pl (bU (col y S))),.tup ((jo w (f y) mo 0 (bU (col y S))).map .int)]) [e0,vA (bH w h f),vA (.int (w:Int)),e3,e4,e5,e6,e7,x8,vA (tabS h S),e10,dh,vA (.int ((w+mo:Nat):Int)),vA (bH (w+mo) h (xJ w f S mo)),Py,Pz,PB,x17] =
   .nx [e0,vA (bH w h f),vA (.int (w:Int)),e3,e4,e5,e6,e7,z8,vA (tabS h S),e10,dh,vA (.int ((w+mo:Nat):Int)),vA (bH (w+mo) h (xJ w f S mo)),z14,z15,z16,Ko]
 |[],x8,Py,Pz,PB,x17,_=>⟨x8,Py,Pz,PB,x17,rfl⟩
 | y::ys,x8,Py,Pz,PB,x17,hy=>by
  have hy0:=hy y (by simp);obtain⟨z8,Ko,i⟩:=abD (w:=w) (g:=f y) (mo:=mo) (l:=bU (col y S)) (e0:=e0) (e1:=vA (bH w h f)) (e3:=e3) (e4:=e4) (e5:=e5) (e6:=e6) (e7:=e7) (e8:=x8) (e9:=vA (tabS h S)) (e10:=e10) (dh:=dh) (dJ:=vA (bH (w+mo) h (xJ w f S mo))) (fD:=x17) (by rw[fK (jP hy0 v),fH,hw]) w20;obtain⟨a,b,c,d,e,j⟩:=Px (e0:=e0) (e3:=e3) (e4:=e4) (e5:=e5) (e6:=e6) (e7:=e7) (e10:=e10) (dh:=dh) hw v w20 (ys:=ys) (x8:=z8) (Py:=vA (row w (f y))) (Pz:=vA (.tup (pl (bU (col y S))))) (PB:=vA (.tup ((jo w (f y) mo 0 (bU (col y S))).map .int))) (x17:=Ko) (λ z hz=>hy z (by simp[hz]));exact⟨a,b,c,d,e,cQ rfl i j⟩
theorem Kp {k:Nat} (hns:ns.length<=1000000) (o:Ok w h f) (hw:S.length=w) (v:lJ h S.length S):
  ∃ z8 z12 z13 z14 z15 z16 Ko,l3B [vA (.lst (ns.map .int)),vA (bH w h f),vA (.int (w:Int)),vA (.int (h:Int)),e4,e5,e6,e7,e8,vA (tabS h S),vA (.int ((min 20 (2*w):Nat):Int)),vA (.int (k:Int)),gD,dJ,fY,fZ,dW,fD] =
   .nx [vA (.lst (ns.map .int)),vA (bH w h f),vA (.int (w:Int)),vA (.int (h:Int)),e4,e5,e6,e7,z8,vA (tabS h S),vA (.int ((min 20 (2*w):Nat):Int)),vA (.int (k:Int)),z12,z13,z14,z15,z16,Ko]:=by
 have ow:=o.w2;have ow1:=o.w1;obtain⟨d1,d2,d3⟩:=nW (k:=62+(k:Int)) (m:=((min 20 (2*w):Nat):Int) - (w:Int)+1) hns (by omega) (by omega);obtain⟨mo,hmo⟩:=Int.eq_ofNat_of_zero_le d2;have hm:mo<=w:=by omega
 have hm2:w+mo<=20:=by omega
 have okk:=abA o hw v hm hm2;obtain⟨a,b,c,d,e,j⟩:=Px (f:=f) (mo:=mo) (e0:=vA (.lst (ns.map .int))) (e3:=vA (.int (h:Int))) (e4:=e4) (e5:=e5) (e6:=e6) (e7:=e7) (e10:=vA (.int ((min 20 (2*w):Nat):Int))) (dh:=vA (.int (k:Int))) hw v ow (ys:=List.range h) (x8:=e8) (Py:=fY) (Pz:=fZ) (PB:=dW) (x17:=fD) (λ y hy=>z2e hy);refine⟨a,vA (.int ((w+mo:Nat):Int)),vA (bH (w+mo) h (xJ w f S mo)),b,c,d,e,?_⟩;refine aL (bw (d:= .int ((w+mo:Nat):Int)) (au rfl (aY (aD rfl (aD (au rfl rfl rfl) (aA (au (au rfl rfl rfl) rfl rfl)))) d1) ?_) rfl) ?_
 ·rw[hmo];show R.ok (D.int ((w:Int)+(mo:Int)))=_;rw[show (w:Int)+(mo:Int)=((w+mo:Nat):Int) by omega]
 refine aL (bw (aY (aD rfl (aD rfl (aA rfl))) (Ck o hw v hm hm2)) rfl) ?_;refine aL (cT (qI (eX (bf (aY (aA rfl) (vR okk)))) (bf (au (aY (aA rfl) (size_eq okk)) (gA (aD rfl (aA rfl))) (Pu.uO rfl (by simp[dep,deps]))))) rfl) ?_;refine gY (Zt (l:=List.range h) (p:=λ y=>row w (f y)) (q:=λ y=> .tup (pl (bU (col y S)))) (r:=λ y=> .tup ((jo w (f y) mo 0 (bU (col y S))).map .int)) (aD rfl (aD rfl (aA rfl))) rfl rfl ?_) j;show R.ok _=_;exact congrArg R.ok (jM λ y hy=>Pq hw v hm (z2e hy))
end
theorem abE {n:Nat} {x7 x8:Option Ent} (hns:ns.length<=1000000) (hn:n < w) (h1:1<=h) (mJ:h<=20) (w20:w<=20) (hL:∀y < h,(Lf y).length=w - n/\∀q∈Lf y,q < (rf y).length):
  ∃ s z7 z8,xu (w - n) h s/\Yh [vA (.lst (ns.map .int)),e1,vA (.int (w:Int)),vA (.int (h:Int)),iU h Lf,gM h rf,vA (.int (n:Int)),x7,x8,e9,e10,dh,gD,dJ,fY,fZ,dW,fD] =
   .nx [vA (.lst (ns.map .int)),e1,vA (.int (w:Int)),vA (.int (h:Int)),iU h λ z=>(Lf z).eraseIdx (s z),gM h λ z=>(rf z).set ((Lf z).getD (s z) 0) (nI n),vA (.int (n:Int)),z7,z8,e9,e10,dh,gD,dJ,fY,fZ,dW,fD]:=by
 obtain⟨s,es,q⟩:=abr (ns:=ns) (a:=70+9*(n:Int)) (w:=w - n) (h:=h) hns (by omega) (by omega) h1 mJ;obtain⟨z7,z8,i⟩:=abx (s:=s) (n:=n) (Lf:=Lf) (rf:=rf) (x7:=x7) (x8:=x8) (e0:=vA (.lst (ns.map .int))) (e1:=e1) (e2:=vA (.int (w:Int))) (e3:=vA (.int (h:Int))) (e9:=e9) (e10:=e10) (dh:=dh) (gD:=gD) (dJ:=dJ) (fY:=fY) (fZ:=fZ) (dW:=dW) (fD:=fD) (λ y hy=>⟨by rw[(hL y hy).1];exact q.lt y hy,(hL y hy).2,by rw[(hL y hy).1];omega⟩);refine⟨s,z7,z8,q,gY (uq (x:=sm h s) (p:=λ y=> .int ((s y:Nat):Int)) (aA (aY (aD rfl (aD (x:= .int (70+9*(n:Int))) (au rfl (au rfl rfl (jC (i:=9) (j:=(n:Int)) (.inl ⟨by omega,by omega⟩))) rfl) (aD (x:= .int ((w - n:Nat):Int)) (au rfl rfl ?_) (aA rfl)))) es)) rfl) i⟩;show R.ok (D.int ((w:Int) - (n:Int)))=_;rw[show (w:Int) - (n:Int)=((w - n:Nat):Int) by omega]
theorem PJ {e1 e9 e10 dh gD dJ fY fZ dW fD:Option Ent} (hns:ns.length<=1000000) (h1:1<=h) (mJ:h<=20) (w20:w<=20):∀{j n:Nat} {Lf:Nat->List Nat} {rf:Nat->List D} {x6 x7 x8:Option Ent},n+j=w->(∀y < h,(Lf y).length=j/\∀q∈Lf y,q < (rf y).length)->
  ∃ S zP z6 z7 z8,S.length=j/\lJ h j S/\forL (aF 6) Yh ((List.range' n j).map λ (k:Nat)=> .int (k:Int)) [vA (.lst (ns.map .int)),e1,vA (.int (w:Int)),vA (.int (h:Int)),iU h Lf,gM h rf,x6,x7,x8,e9,e10,dh,gD,dJ,fY,fZ,dW,fD] =
   .nx [vA (.lst (ns.map .int)),e1,vA (.int (w:Int)),vA (.int (h:Int)),zP,gM h λ y=>imp nI (col y S) n (Lf y) (rf y),z6,z7,z8,e9,e10,dh,gD,dJ,fY,fZ,dW,fD]
 |0,n,Lf,rf,x6,x7,x8,_,_=>⟨[],_,x6,x7,x8,rfl,trivial,rfl⟩
 | j +1,n,Lf,rf,x6,x7,x8,hn,hL=>by
  obtain⟨s,z7,z8,q,i⟩:=abE (ns:=ns) (w:=w) (n:=n) (Lf:=Lf) (rf:=rf) (x7:=x7) (x8:=x8) (e1:=e1) (e9:=e9) (e10:=e10) (dh:=dh) (gD:=gD) (dJ:=dJ) (fY:=fY) (fZ:=fZ) (dW:=dW) (fD:=fD) hns (by omega) h1 mJ w20 (λ y hy=>⟨by rw[(hL y hy).1];omega,(hL y hy).2⟩);rw[show w - n=j+1 by omega] at q;obtain⟨S,zP,y6,y7,y8,l,v,e⟩:=PJ (e1:=e1) (e9:=e9) (e10:=e10) (dh:=dh) (gD:=gD) (dJ:=dJ) (fY:=fY) (fZ:=fZ) (dW:=dW) (fD:=fD) hns h1 mJ w20 (j:=j) (n:=n+1) (Lf:=λ z=>(Lf z).eraseIdx (s z)) (rf:=λ z=>(rf z).set ((Lf z).getD (s z) 0) (nI n)) (x6:=vA (.int (n:Int))) (x7:=z7) (x8:=z8) (by omega) (λ y hy=>by
   have a:=hL y hy;have b:=q.lt y hy;exact⟨by rw[List.length_eraseIdx,if_pos (by omega)];omega,λ z hz=>by rw[List.length_set];exact a.2 z (List.mem_of_mem_eraseIdx hz)⟩)
  refine⟨s::S,zP,y6,y7,y8,by rw[List.length_cons,l],⟨q,v⟩,?_⟩;rw[List.range'_succ,z1h];exact cQ rfl i e
theorem abF (hns:ns.length<=1000000) (h1:1<=h) (mJ:h<=20) (w20:w<=20):
  ∃ S zP z6 z7 z8,S.length=w/\lJ h w S/\forL (aF 6) Yh ((List.range w).map λ (k:Nat)=> .int (k:Int)) [vA (.lst (ns.map .int)),e1,vA (.int (w:Int)),vA (.int (h:Int)),iU h λ _=>List.range w,gM h λ _=>pl (List.replicate w 0),e6,e7,e8,e9,e10,dh,gD,dJ,fY,fZ,dW,fD] =
   .nx [vA (.lst (ns.map .int)),e1,vA (.int (w:Int)),vA (.int (h:Int)),zP,gM h λ y=>pl (bU (col y S)),z6,z7,z8,e9,e10,dh,gD,dJ,fY,fZ,dW,fD]:=by
 obtain⟨S,zP,z6,z7,z8,l,v,e⟩:=PJ (ns:=ns) (h:=h) (w:=w) (e1:=e1) (e9:=e9) (e10:=e10) (dh:=dh) (gD:=gD) (dJ:=dJ) (fY:=fY) (fZ:=fZ) (dW:=dW) (fD:=fD) hns h1 mJ w20 (j:=w) (n:=0) (Lf:=λ _=>List.range w) (rf:=λ _=>pl (List.replicate w 0)) (x6:=e6) (x7:=e7) (x8:=e8) (by omega) (λ y hy=>⟨z2d,λ q hq=>by rw[kO,List.length_replicate];exact z2e hq⟩);refine⟨S,zP,z6,z7,z8,l,v,?_⟩;rw[<-List.range_eq_range'] at e;rw[e,uZ (q:=λ y=>pl (bU (col y S))) λ y hy=>by
  have pv:=jP (S:=S) hy (by rw[l];exact v);have:=O7 (g:=nI) (r:=pl (List.replicate w 0)) pv (by rw[kO,List.length_replicate,fH,l]);rw[fH,l] at this;exact this]
def adq:ao->So:=(aP (bB (aB minD (ak (ci 20) (ak (bin (ci 2) (gv 2) sI) nA))) (aF 10)) (aP (iQ (λ ρ=>((ak (ci 3) nA) ρ).bind gJ) (aF 11) l3B) (retS (sH (aB (aV fX 2) (ak (gv 9) (ak (gv 1) nA))) (bin (aB (aV jL 3) (ak (gv 1) (ak (gv 9) (ak (gv 2) nA)))) (gv 1) lY)))))
theorem rest_eq {S:List (Nat->Nat)} (hns:ns.length<=1000000) (o:Ok w h f) (hw:S.length=w) (v:lJ h S.length S):
  adq [vA (.lst (ns.map .int)),vA (bH w h f),vA (.int (w:Int)),vA (.int (h:Int)),e4,e5,e6,e7,e8,vA (tabS h S),none,none,none,none,none,none,none,none]= .rt (.bl true):=by
 have ow:=o.w2;refine aL (bw (aO (aD (x:= .int ((20:Nat):Int)) rfl (aA (au rfl rfl (abB (by omega))))) minD_eq) rfl) ?_;obtain⟨a8,a12,a13,a14,a15,a16,a17,i0⟩:=Kp (k:=0) (e4:=e4) (e5:=e5) (e6:=e6) (e7:=e7) (e8:=e8) (gD:=none) (dJ:=none) (fY:=none) (fZ:=none) (dW:=none) (fD:=none) hns o hw v;obtain⟨b8,b12,b13,b14,b15,b16,b17,i1⟩:=Kp (k:=1) (e4:=e4) (e5:=e5) (e6:=e6) (e7:=e7) (e8:=a8) (gD:=a12) (dJ:=a13) (fY:=a14) (fZ:=a15) (dW:=a16) (fD:=a17) hns o hw v;obtain⟨c8,c12,c13,c14,c15,c16,c17,i2⟩:=Kp (k:=2) (e4:=e4) (e5:=e5) (e6:=e6) (e7:=e7) (e8:=b8) (gD:=b12) (dJ:=b13) (fY:=b14) (fZ:=b15) (dW:=b16) (fD:=b17) hns o hw v;refine aL (gY (gU (m:=3) (aA rfl) (by omega)) (cQ rfl i0 (cQ rfl i1 (cQ rfl i2 rfl)))) ?_;have ew:=Ck (mo:=0) o hw v (by omega) (by omega);rw[W2 hw v] at ew;exact bC (wC (aY (aD rfl (aA rfl)) (xH o hw v)) (au (aY (aD rfl (aD rfl (aA rfl))) ew) rfl (zN rfl Zq)))
theorem W3 (ns:List Int) (hns:ns.length<=63):BR [.lst (ns.map .int)]= .ok (.bl true):=by
 have hn:ns.length<=1000000:=by omega
 obtain⟨w,h,f,e1,o,hw,hh⟩:=abo (ns:=ns) hn;have ow:=o.w2;have ow1:=o.w1;have oh:=o.h2;obtain⟨S,zP,z6,z7,z8,l,v,e⟩:=abF (ns:=ns) (w:=w) (h:=h) (e1:=vA (bH w h f)) (e6:=none) (e7:=none) (e8:=none) (e9:=none) (e10:=none) (dh:=none) (gD:=none) (dJ:=none) (fY:=none) (fZ:=none) (dW:=none) (fD:=none) hn o.h1 oh ow;have v':lJ h S.length S:=by rw[l];exact v
 refine kJ (aL (bw (aY (aD rfl (aD rfl (aD rfl (aA rfl)))) e1) rfl) ?_);refine aL (bw (aY (aA rfl) (size_eq o)) rfl) ?_;refine aL (W0 (d:= .lst ((List.range h).map λ _=> .lst (pl (List.range w)))) (e:= .lst ((List.range h).map λ _=> .lst (pl (List.replicate w 0)))) ?_ rfl ?_ (Z0 (λ _ _=>ZX) rfl)) ?_
 ·exact bL (c:=λ y=>row w (f y)) (l:=List.range h) (fB rfl) (by rw[z2d];omega) λ y _=>bW rfl (aO (aA rfl) (Ab (by omega)))
 ·exact bL (c:=λ y=>row w (f y)) (l:=List.range h) (fB rfl) (by rw[z2d];omega) λ y _=>bW rfl (au (j9 (aA rfl)) rfl (O8 ow1 (by omega)))
 refine aL (gY (gU (m:=w) (aA rfl) (by omega)) e) (aa4 ?_);have et:aB gK (ak (bF 1 [] (d9 (gv 5)) (aF 0) tT (aB gK (ak (gv 0) nA))) nA) (cG [vA (.lst (ns.map .int)),vA (bH w h f),vA (.int (w:Int)),vA (.int (h:Int)),zP,gM h λ y=>pl (bU (col y S)),z6,z7,z8,none,none,none,none,none,none,none,none,none])= .ok (tabS h S):=by
  refine aO (aA (bL (c:=λ y=> .lst (pl (bU (col y S)))) (h:=λ y=> .tup (pl (bU (col y S)))) (l:=List.range h) (m9 ?_) (by rw[z2d];omega) λ y _=>bW rfl (aO (aA rfl) rfl))) rfl;show R.ok (D.lst (((List.range h).map λ y=>pl (bU (col y S))).map D.lst))=_;rw[List.map_map];rfl
 refine aL (bw et rfl) ?_;obtain⟨d1,d2,d3⟩:=nW (k:=60) (m:=2) hn (by omega) (by omega);by_cases c:dr ns 60 2=0
 ·obtain⟨m,hm,e3⟩:=Ui (i:=61) (by omega) (ns:=ns) hn;obtain⟨r,g⟩:=Ym (m:=m) o.h1 (k:=w) (w:=w) (f:=f) (M:=λ _ _=>0);obtain⟨L,rfl⟩:=Ox (z0g _) (λ _ _ _ _=>by decide) g;have lL:=Ke g;have hS:(vW L).length=w:=by rw[vW,z1g,lL]
  refine aL (iB (bf (au (aY (aD rfl (aD rfl (aA rfl))) d1) rfl (by rw[c,Oe];rfl))) (bw (WK (aA rfl) (aA (aY (aD rfl (aA rfl)) e3)) (Ut hm o g)) rfl)) ?_;exact rest_eq hn o hS (by rw[hS];exact Kl g)
 ·refine aL (cT (bf (au (aY (aD rfl (aD rfl (aA rfl))) d1) rfl (by rw[Oe,decide_eq_false c]))) rfl) ?_;exact rest_eq hn o l v'
end
end wX
namespace wX
open PySem PySem.Spec L2 Pu
open PyProof.Rows hiding St
variable {f:Addr} {fd F:FuncData} {zq:List (Addr×Str)} {outer:List PySem.Env} {ps:List Str} {us:List Value} {cdv:Value}
def DX (K:PySem.W.Frag) (x:Str) (st:Stmt):Prop:=∃f fd,Fun K x x st f fd/\PySem.W.nsIn K mainGlobals x=some (some (.ref f))
theorem acC {K:PySem.W.Frag} {x:Str} {st:Stmt} {oc:Value} {od an:Option Addr} {osl:Array (Option Value)} {kV doc pm ct:Value} (a:PySem.W.nsIn K mainGlobals x=some (some (.ref f))) (l:K.lookup f=some ⟨oc,od,.func (PySem.W.fnOf x x (defArgs st) (defBody st) (defScope st) .none kV doc pm an cdv ct),osl⟩)
  (c:PySem.W.codeIn K cdv x=true) (k:PySem.W.keepIn K (.ref f)=true):DX K x st:=⟨f,_,fun_mk l c k,a⟩
theorem zu {n:Nat} (hl:us.length=n+1):∃a u,us=a::u/\u.length=n:=by
 cases us with
 |nil=>cases hl
 |cons a u=>exact⟨a,u,rfl,Nat.succ.inj hl⟩
theorem rZ (hl:us.length=1) (h:∀a0,bindArgs F ⟨[a0],[]⟩=pure (ps.zip [a0])):bindArgs F ⟨us,[]⟩=pure (ps.zip us):=by
 obtain⟨a0,u1,rfl,h1⟩:=zu hl;cases List.eq_nil_of_length_eq_zero h1;exact h a0
theorem qQ (hl:us.length=2) (h:∀a0 a1,bindArgs F ⟨[a0,a1],[]⟩=pure (ps.zip [a0,a1])):bindArgs F ⟨us,[]⟩=pure (ps.zip us):=by
 obtain⟨a0,u1,rfl,h1⟩:=zu hl;obtain⟨a1,u2,rfl,h2⟩:=zu h1;cases List.eq_nil_of_length_eq_zero h2;exact h a0 a1
theorem Cm (hl:us.length=3) (h:∀a0 a1 a2,bindArgs F ⟨[a0,a1,a2],[]⟩=pure (ps.zip [a0,a1,a2])):bindArgs F ⟨us,[]⟩=pure (ps.zip us):=by
 obtain⟨a0,u1,rfl,h1⟩:=zu hl;obtain⟨a1,u2,rfl,h2⟩:=zu h1;obtain⟨a2,u3,rfl,h3⟩:=zu h2;cases List.eq_nil_of_length_eq_zero h3;exact h a0 a1 a2
theorem Uw (hl:us.length=4) (h:∀a0 a1 a2 a3,bindArgs F ⟨[a0,a1,a2,a3],[]⟩=pure (ps.zip [a0,a1,a2,a3])):bindArgs F ⟨us,[]⟩=pure (ps.zip us):=by
 obtain⟨a0,u1,rfl,h1⟩:=zu hl;obtain⟨a1,u2,rfl,h2⟩:=zu h1;obtain⟨a2,u3,rfl,h3⟩:=zu h2;obtain⟨a3,u4,rfl,h4⟩:=zu h3;cases List.eq_nil_of_length_eq_zero h4;exact h a0 a1 a2 a3
def top (i:Nat):Stmt:=PySem.Challenge.pw_seamhall_k43_widened.main.body.getD i (.Pass ⟨0,0,0,0⟩)
abbrev qR:Stmt:=top 56
theorem cZ:FnScope ["_law_script","_law_k","_law_many","_law_cell","_law_turn","_law_rest"] ["_law_script","_law_k","_law_many"] (defScope qR):=⟨rfl,rfl,rfl,by decide +kernel,rfl,by decide +kernel,by decide +kernel⟩
abbrev o8:Stmt:=top 60
theorem Ed:FnScope ["_law_script","_law_at"] ["_law_script","_law_at"] (defScope o8):=⟨rfl,rfl,rfl,by decide +kernel,rfl,by decide +kernel,by decide +kernel⟩
abbrev nJ:Stmt:=top 57
theorem mL:FnScope ["_law_script","_law_at","_law_broad","_law_tall","_law_most","_law_rows","_law_y"] ["_law_script","_law_at","_law_broad","_law_tall"] (defScope nJ):=⟨rfl,rfl,rfl,by decide +kernel,rfl,by decide +kernel,by decide +kernel⟩
abbrev sS:Stmt:=top 58
theorem Kq:FnScope ["_law_script","_law_at","_law_broad","_law_tall"] ["_law_script","_law_at","_law_broad","_law_tall"] (defScope sS):=⟨rfl,rfl,rfl,by decide +kernel,rfl,by decide +kernel,by decide +kernel⟩
abbrev u5:Stmt:=top 59
theorem sU:FnScope ["_law_script","_law_at","_law_broad","_law_tall","_law_way_here","_law_k"] ["_law_script","_law_at","_law_broad","_law_tall"] (defScope u5):=⟨rfl,rfl,rfl,by decide +kernel,rfl,by decide +kernel,by decide +kernel⟩
abbrev u6:Stmt:=top 9
theorem Mg:FnScope ["thing"] ["thing"] (defScope u6):=⟨rfl,rfl,rfl,by decide +kernel,rfl,by decide +kernel,by decide +kernel⟩
abbrev nM:Stmt:=top 46
theorem Cp:FnScope ["thing","wide"] ["thing","wide"] (defScope nM):=⟨rfl,rfl,rfl,by decide +kernel,rfl,by decide +kernel,by decide +kernel⟩
abbrev Ad:Stmt:=top 27
theorem Ux:FnScope ["thing","wide","high"] ["thing","wide","high"] (defScope Ad):=⟨rfl,rfl,rfl,by decide +kernel,rfl,by decide +kernel,by decide +kernel⟩
abbrev qT:Stmt:=top 47
theorem G5:FnScope ["row","number"] ["row","number"] (defScope qT):=⟨rfl,rfl,rfl,by decide +kernel,rfl,by decide +kernel,by decide +kernel⟩
abbrev u9:Stmt:=top 48
theorem Mh:FnScope ["table"] ["table"] (defScope u9):=⟨rfl,rfl,rfl,by decide +kernel,rfl,by decide +kernel,by decide +kernel⟩
abbrev xK:Stmt:=top 11
theorem QJ:FnScope ["thing"] ["thing"] (defScope xK):=⟨rfl,rfl,rfl,by decide +kernel,rfl,by decide +kernel,by decide +kernel⟩
abbrev xM:Stmt:=top 10
theorem QK:FnScope ["thing"] ["thing"] (defScope xM):=⟨rfl,rfl,rfl,by decide +kernel,rfl,by decide +kernel,by decide +kernel⟩
abbrev Ae:Stmt:=top 12
theorem Uy:FnScope ["thing"] ["thing"] (defScope Ae):=⟨rfl,rfl,rfl,by decide +kernel,rfl,by decide +kernel,by decide +kernel⟩
abbrev qU:Stmt:=top 13
theorem G6:FnScope ["thing"] ["thing"] (defScope qU):=⟨rfl,rfl,rfl,by decide +kernel,rfl,by decide +kernel,by decide +kernel⟩
abbrev nO:Stmt:=top 14
theorem Cq:FnScope ["thing"] ["thing"] (defScope nO):=⟨rfl,rfl,rfl,by decide +kernel,rfl,by decide +kernel,by decide +kernel⟩
abbrev xO:Stmt:=top 15
theorem QL:FnScope ["picture"] ["picture"] (defScope xO):=⟨rfl,rfl,rfl,by decide +kernel,rfl,by decide +kernel,by decide +kernel⟩
abbrev sV:Stmt:=top 49
theorem xP:FnScope ["thing","picture","wide","high"] ["thing","picture"] (defScope sV):=⟨rfl,rfl,rfl,by decide +kernel,rfl,by decide +kernel,by decide +kernel⟩
abbrev vd:Stmt:=top 26
theorem Mi:FnScope ["picture"] ["picture"] (defScope vd):=⟨rfl,rfl,rfl,by decide +kernel,rfl,by decide +kernel,by decide +kernel⟩
abbrev o9:Stmt:=top 25
theorem Ef:FnScope ["thing"] ["thing"] (defScope o9):=⟨rfl,rfl,rfl,by decide +kernel,rfl,by decide +kernel,by decide +kernel⟩
abbrev sW:Stmt:=top 51
theorem mO:FnScope ["places","wide","left","row","number","place"] ["places","wide"] (defScope sW):=⟨rfl,rfl,rfl,by decide +kernel,rfl,by decide +kernel,by decide +kernel⟩
abbrev pq:Stmt:=top 39
theorem Eh:FnScope ["picture","seam"] ["picture","seam"] (defScope pq):=⟨rfl,rfl,rfl,by decide +kernel,rfl,by decide +kernel,by decide +kernel⟩
abbrev Kr:Stmt:=top 18
theorem PL:FnScope ["line","last"] ["line"] (defScope Kr):=⟨rfl,rfl,rfl,by decide +kernel,rfl,by decide +kernel,by decide +kernel⟩
abbrev qW:Stmt:=top 29
theorem d8:FnScope ["picture","y","row","above","last","told","x","gap","from_left","from_right"] ["picture","y"] (defScope qW):=⟨rfl,rfl,rfl,by decide +kernel,rfl,by decide +kernel,by decide +kernel⟩
abbrev Af:Stmt:=top 16
theorem Gv:FnScope ["picture","wide","high"] ["picture"] (defScope Af):=⟨rfl,rfl,rfl,by decide +kernel,rfl,by decide +kernel,by decide +kernel⟩
abbrev Ag:Stmt:=top 19
theorem su:FnScope ["picture","wide","high","across","down"] ["picture"] (defScope Ag):=⟨rfl,rfl,rfl,by decide +kernel,rfl,by decide +kernel,by decide +kernel⟩
abbrev Ei:Stmt:=top 30
theorem W4:FnScope ["picture","manner"] ["picture","manner"] (defScope Ei):=⟨rfl,rfl,rfl,by decide +kernel,rfl,by decide +kernel,by decide +kernel⟩
abbrev xQ:Stmt:=top 31
theorem QM:FnScope ["row","above","place"] ["row","above","place"] (defScope xQ):=⟨rfl,rfl,rfl,by decide +kernel,rfl,by decide +kernel,by decide +kernel⟩
abbrev Ks:Stmt:=top 28
theorem Z1:FnScope ["place","wide"] ["place","wide"] (defScope Ks):=⟨rfl,rfl,rfl,by decide +kernel,rfl,by decide +kernel,by decide +kernel⟩
abbrev Ah:Stmt:=top 32
theorem oY:FnScope ["beneath","row","x","told","place","fare"] ["beneath","row","x"] (defScope Ah):=⟨rfl,rfl,rfl,by decide +kernel,rfl,by decide +kernel,by decide +kernel⟩
abbrev qg:Stmt:=top 33
theorem iV:FnScope ["table","marks","start","gather","rows","y","row","x","mark","told","lost"] ["table","marks","start","gather"] (defScope qg):=⟨rfl,rfl,rfl,by decide +kernel,rfl,by decide +kernel,by decide +kernel⟩
abbrev iu:Stmt:=top 34
theorem xR:FnScope ["table","marks","many","first_ones"] ["table","marks","many"] (defScope iu):=⟨rfl,rfl,rfl,by decide +kernel,rfl,by decide +kernel,by decide +kernel⟩
abbrev vf:Stmt:=top 35
theorem kW:FnScope ["table","rows","told","x","cell","fare"] ["table","rows"] (defScope vf):=⟨rfl,rfl,rfl,by decide +kernel,rfl,by decide +kernel,by decide +kernel⟩
abbrev pA:Stmt:=top 36
theorem Ej:FnScope ["table","marks","many"] ["table","marks","many"] (defScope pA):=⟨rfl,rfl,rfl,by decide +kernel,rfl,by decide +kernel,by decide +kernel⟩
abbrev sX:Stmt:=top 37
theorem qX:FnScope ["table","marks","found","less","cost","seam"] ["table","marks"] (defScope sX):=⟨rfl,rfl,rfl,by decide +kernel,rfl,by decide +kernel,by decide +kernel⟩
abbrev xT:Stmt:=top 40
theorem QS:FnScope ["rows","seam"] ["rows","seam"] (defScope xT):=⟨rfl,rfl,rfl,by decide +kernel,rfl,by decide +kernel,by decide +kernel⟩
abbrev Ek:Stmt:=top 44
theorem jQ:FnScope ["picture","many","manner","marks","left","marked","steps","total","found","cost","seam"] ["picture","many","manner","marks"] (defScope Ek):=⟨rfl,rfl,rfl,by decide +kernel,rfl,by decide +kernel,by decide +kernel⟩
abbrev iW:Stmt:=top 52
theorem xU:FnScope ["picture","manner","wide","high","left","steps","cost"] ["picture","manner"] (defScope iW):=⟨rfl,rfl,rfl,by decide +kernel,rfl,by decide +kernel,by decide +kernel⟩
abbrev pB:Stmt:=top 50
theorem El:FnScope ["thing","picture"] ["thing","picture"] (defScope pB):=⟨rfl,rfl,rfl,by decide +kernel,rfl,by decide +kernel,by decide +kernel⟩
abbrev qY:Stmt:=top 43
theorem G7:FnScope ["thing","least","most"] ["thing","least","most"] (defScope qY):=⟨rfl,rfl,rfl,by decide +kernel,rfl,by decide +kernel,by decide +kernel⟩
abbrev pC:Stmt:=top 41
theorem uw:FnScope ["row","place","following"] ["row","place"] (defScope pC):=⟨rfl,rfl,rfl,by decide +kernel,rfl,by decide +kernel,by decide +kernel⟩
abbrev pD:Stmt:=top 53
theorem nP:FnScope ["row","numbers","more","told","place","number"] ["row","numbers","more"] (defScope pD):=⟨rfl,rfl,rfl,by decide +kernel,rfl,by decide +kernel,by decide +kernel⟩
abbrev xV:Stmt:=top 54
theorem Cr:FnScope ["picture","table","wide","least"] ["picture","table","wide"] (defScope xV):=⟨rfl,rfl,rfl,by decide +kernel,rfl,by decide +kernel,by decide +kernel⟩
abbrev pR:Stmt:=top 61
theorem gF:FnScope ["_law_script","_law_picture_here","_law_broad","_law_tall","_law_places","_law_rows","_law_number","_law_y","_law_x","_law_table","_law_most","_law_k","_law_there","_law_told","_law_cells","_law_numbers","_law_row","_law_due"] ["_law_script"] (defScope pR):=⟨rfl,rfl,rfl,by decide +kernel,rfl,by decide +kernel,by decide +kernel⟩
abbrev gG:Stmt:=(defBody iu).getD 0 (.Pass ⟨0,0,0,0⟩)
theorem G8:Dq ["x","told","many"] ["x","told"] "many" (defScope gG):=⟨rfl,rfl,rfl,by decide +kernel,rfl,by decide +kernel,by decide +kernel,by decide +kernel,by decide +kernel⟩
structure Txt (K:PySem.W.Frag) (mg:Str->Option Value):Prop where
 Ku:∃t,mg "FREE" =some (.int 0 t)
 Kv:∃t,mg "GONE" =some (.int 2 t)
 Kw:∃t,mg "KEPT" =some (.int 1 t)
 sY:∃t,mg "MOST_CELL" =some (.int 99 t)
 oE:∃t,mg "MOST_LONG" =some (.int 20 t)
 xW:V8 K mg "MANNERS" ["worth","joins"]
 yO:mg "abs" =none
 oF:mg "all" =none
 Ky:mg "bool" =none
 eV:mg "enumerate" =none
 QT:mg "int" =none
 fj:mg "isinstance" =none
 dO:mg "len" =none
 qZ:mg "list" =none
 vg:mg "max" =none
 pU:mg "min" =none
 cL:mg "range" =none
 vh:mg "reversed" =none
 q8:mg "sorted" =none
 cM:mg "tuple" =none
 yP:mg "zip" =none
 Cu:∀d:D,PySem.W.kitOne K (.type (jB d)) (.type "int")=some (yE (jB d))
 xX:∀d:D,PySem.W.kitOne K (.type (jB d)) (.type "bool")=some (uN (jB d))
 lK:∀d:D,PySem.W.kitOne K (.type (jB d)) (.type "tuple")=some (fW (jB d))
 Cv:∀d:D,PySem.W.kitOne K (.type (jB d)) (.type "list")=some (IK (jB d))
section
variable {P:Program} {w:World} {K:PySem.W.Frag} {mg:Str->Option Value} {base:Heap} {f:Addr} {cdv:Value} {A:Around} {outer:List PySem.Env} {s:Shared} {H:Hp} {E:XK}
theorem G9 (Fn:Fun K "_law_drawn" "_law_drawn" qR f fd) (hmg:mg "_law_drawn" =some (.ref f)) (hb:Binds K fd ["_law_script","_law_k","_law_many"] []) (T:Txt K mg)  :aX P w K mg base 1 "_law_drawn" 3 bO:=
 bQ (k:=0) (g:=wY) Fn hmg hb cZ rfl rfl λ cdv A outer s H E hr=>(aH (bV 3 cZ.nd (aN oG aK (dv 1))) (aH (eF (dF (Ba (iz hr)) (dv 0) (qw aq)) (aH (bV 3 cZ.nd (bR (dv 0) (aN oH (dv 1) (aW cX rfl T.dO PySem.boot_len (aj (dv 0) aq))))) (aH (bV 4 cZ.nd (aN lR (dv 1) (aW cX rfl T.dO PySem.boot_len (aj (dv 0) aq)))) (aH (eF (DW.dt (Ry (dF acf (dv 3) (aN Rx aK aK)) (Nb (dF yq (dv 4) aK)))) (aH (bV 5 cZ.nd (aN lR (dv 3) (aN Rx aK aK))) (aH (Ip 64 PassesOwn.never (DW.dt (Ry (dF Ia (dv 5) aK) (Nb (dF Ia (dv 4) aK)))) (aH (bV 5 cZ.nd (aN lR (dv 5) aK)) (aM (bV 4 cZ.nd (aN cV (dv 4) aK))))) (aM (eF (dF Ia (dv 5) aK) (aM (bh (aN oH (aN oH (dv 5) aK) (dv 2)))) cU)))) cU) (aM (bV 3 cZ.nd (aN jd (dv 3) (aN oG aK (aN lR (dv 1) (aW cX rfl T.dO PySem.boot_len (aj (dv 0) aq)))))))))) cU) (aH (bV 3 cZ.nd (aN oH (aN jd (aN oG (aN oH (dv 3) aK) aK) (aN oG aK (aN jd (dv 1) aK))) aK)) (aH (bV 3 cZ.nd (aN oH (aN jd (aN oG (dv 3) (dv 3)) (aN lR (dv 3) aK)) aK)) (aM (bh (aN oH (aN lR (aN oH (aN jd (aN oG (dv 3) (dv 3)) (aN lR (dv 3) aK)) aK) aK) (dv 2))))))))
theorem Em (Fn:Fun K "_law_manner" "_law_manner" o8 f fd) (hmg:mg "_law_manner" =some (.ref f)) (hb:Binds K fd ["_law_script","_law_at"] []) (T:Txt K mg) (bJ:aX P w K mg base 1 "_law_drawn" 3 bO):aX P w K mg base 2 "_law_manner" 2 jg:=
 bQ (k:=1) (g:=vK) Fn hmg hb Ed rfl rfl λ cdv A outer s H E hr=>(aM (bh (bR (qw (aj Im (aj Im aq))) (bx bJ hr (by decide) (aj (dv 0) (aj (dv 1) (aj aK aq)))))))
theorem Cw (Fn:Fun K "_law_picture" "_law_picture" nJ f fd) (hmg:mg "_law_picture" =some (.ref f)) (hb:Binds K fd ["_law_script","_law_at","_law_broad","_law_tall"] []) (T:Txt K mg) (bJ:aX P w K mg base 1 "_law_drawn" 3 bO):aX P w K mg base 2 "_law_picture" 4 iG:=
 bQ (k:=1) (g:=ug) Fn hmg hb mL rfl rfl λ cdv A outer s H E hr=>(aH (YG 4 5 rfl mL.nd (bR (qw (aj aK (aj aK (aj aK (aj aK aq))))) (bx bJ hr (by decide) (aj (dv 0) (aj (dv 1) (aj aK aq))))) aq) (aH (gQ PassesOwn.never rfl (dB rfl T.cL (aj (dv 3) aq)) (lu 6 mL.nd) (aM (lX 5 (cW dj rfl T.cM boot_tuple (aj (bM ["_law_x"] [1,2,4,0,6] rfl (by kernel_rfl) (by kernel_rfl) (dB rfl T.cL (aj (dv 2) aq)) (aU (by decide)) (λ _ _ _ _ nd=>aZ 0 nd) (λ _ _ _ _=>bK) (λ _ _ _ _=>(bx bJ hr (by decide) (aj (dv 4) (aj (aN jd (aN jd (aN jd (dv 1) aK) (aN oG (dv 2) (dv 5))) (dv 0)) (aj (dv 3) aq)))))) aq))))) (aM (bh (cW dj rfl T.cM boot_tuple (aj (dv 5) aq))))))
theorem Kz (Fn:Fun K "_law_some" "_law_some" sS f fd) (hmg:mg "_law_some" =some (.ref f)) (hb:Binds K fd ["_law_script","_law_at","_law_broad","_law_tall"] []) (T:Txt K mg) (bJ:aX P w K mg base 1 "_law_drawn" 3 bO) (nQ:aX P w K mg base 2 "_law_picture" 4 iG):aX P w K mg base 3 "_law_some" 4 kh:=
 bQ (k:=2) (g:=za) Fn hmg hb Kq rfl rfl λ cdv A outer s H E hr=>(aM (bh (bx nQ hr (by decide) (aj (dv 0) (aj (aN jd (dv 1) aK) (aj (aN jd aK (bx bJ hr (by decide) (aj (dv 0) (aj (dv 1) (aj (dv 2) aq))))) (aj (aN jd aK (bx bJ hr (by decide) (aj (dv 0) (aj (aN jd (dv 1) aK) (aj (dv 3) aq))))) aq)))))))
theorem Mj (Fn:Fun K "_law_way" "_law_way" u5 f fd) (hmg:mg "_law_way" =some (.ref f)) (hb:Binds K fd ["_law_script","_law_at","_law_broad","_law_tall"] []) (T:Txt K mg) (bJ:aX P w K mg base 1 "_law_drawn" 3 bO):aX P w K mg base 2 "_law_way" 4 mC:=
 bQ (k:=1) (g:=Bx) Fn hmg hb sU rfl rfl λ cdv A outer s H E hr=>(aH (jT 4 sU.nd (aj (bx bJ hr (by decide) (aj (dv 0) (aj (dv 1) (aj (dv 2) aq)))) aq)) (aH (gQ PassesOwn.never rfl (dB rfl T.cL (aj (aN cV (dv 3) aK) aq)) (lu 5 sU.nd) (aM (lX 4 (aW (wF rfl) rfl T.vg boot_max (aj aK (aj (aW (qJ rfl) rfl T.pU boot_min (aj (aN cV (dv 2) aK) (aj (aN cV (aN cj (wQ 4 (RZ aK)) (bx bJ hr (by decide) (aj (dv 0) (aj (aN cj (aN cj (dv 1) aK) (dv 5)) (aj aK aq))))) aK) aq))) aq)))))) (aM (bh (cW dj rfl T.cM boot_tuple (aj (dv 4) aq))))))
theorem Ml (Fn:Fun K "is_whole" "is_whole" u6 f fd) (hmg:mg "is_whole" =some (.ref f)) (hb:Binds K fd ["thing"] []) (T:Txt K mg)  :aX P w K mg base 1 "is_whole" 1 d7:=
 bQ (k:=0) (g:=BJ) Fn hmg hb Mg rfl rfl λ cdv A outer s H E hr=>(aM (bh (tO (p7 (ans:=yE) T.Cu (dv 0) rfl T.fj boot_isinstance rfl T.QT boot_int) (tM (aaH (p7 (ans:=uN) T.xX (dv 0) rfl T.fj boot_isinstance rfl T.Ky boot_bool))))))
theorem Cy (Fn:Fun K "is_order_row" "is_order_row" nM f fd) (hmg:mg "is_order_row" =some (.ref f)) (hb:Binds K fd ["thing","wide"] []) (T:Txt K mg) (dR:aX P w K mg base 1 "is_whole" 1 d7):aX P w K mg base 2 "is_order_row" 2 iH:=
 bQ (k:=1) (g:=uh) Fn hmg hb Cp rfl rfl λ cdv A outer s H E hr=>(aH (eF (DW.dt (uH (gk (iZ (p7 (ans:=fW) T.lK (dv 0) rfl T.fj boot_isinstance rfl T.cM boot_tuple))) (tQ (gk (iZ (aW (oJ rfl) rfl T.oF boot_all (aj (bM ["number"] [] rfl (by kernel_rfl) (by kernel_rfl) (dH (dv 0)) (aU (by decide)) (λ _ _ _ _ nd=>aZ 0 nd) (λ _ _ _ _=>bK) (λ _ _ _ _=>(bx dR hr (by decide) (aj (dv 0) aq)))) aq))))))) (aM (bh uG)) cU) (aM (bh (Aw (uM (iz hr)) (aW Wu rfl T.q8 boot_sorted (aj (dv 0) aq)) (Jy rfl rfl T.qZ rfl T.cL (aj (dv 1) aq))))))
theorem Uz (Fn:Fun K "is_way" "is_way" Ad f fd) (hmg:mg "is_way" =some (.ref f)) (hb:Binds K fd ["thing","wide","high"] []) (T:Txt K mg) (dR:aX P w K mg base 1 "is_whole" 1 d7):aX P w K mg base 2 "is_way" 3 qL:=
 bQ (k:=1) (g:=JH) Fn hmg hb Ux rfl rfl λ cdv A outer s H E hr=>(aH (eF (DW.dt (uH (gk (iZ (p7 (ans:=fW) T.lK (dv 0) rfl T.fj boot_isinstance rfl T.cM boot_tuple))) (tQ (dF (Ba (iz hr)) (aW cX rfl T.dO PySem.boot_len (aj (dv 0) aq)) (dv 2))))) (aM (bh uG)) cU) (aH (eF (gk (iZ (aW (oJ rfl) rfl T.oF boot_all (aj (bM ["place"] [1] rfl (by kernel_rfl) (by kernel_rfl) (dH (dv 0)) (aU (by decide)) (λ _ _ _ _ nd=>aZ 0 nd) (λ _ _ _ _=>bK) (λ _ _ _ _=>(tO (bx dR hr (by decide) (aj (dv 0) aq)) (tM (zH rJ yq aK (dv 0) (dv 1)))))) aq)))) (aM (bh uG)) cU) (aM (bh (aW (oJ rfl) rfl T.oF boot_all (aj (bM ["y"] [0] rfl (by kernel_rfl) (by kernel_rfl) (Rz rfl T.cL (aj aK (aj (dv 2) aq))) (aU (by decide)) (λ _ _ _ _ nd=>aZ 0 nd) (λ _ _ _ _=>bK) (λ _ _ _ _=>(Aw rJ (aW Bk rfl T.yO boot_abs (aj (aN cV (bR (dv 1) (dv 0)) (bR (dv 1) (aN cV (dv 0) aK))) aq)) aK))) aq))))))
theorem Hf (Fn:Fun K "place_left" "place_left" qT f fd) (hmg:mg "place_left" =some (.ref f)) (hb:Binds K fd ["row","number"] []) (T:Txt K mg)  :aX P w K mg base 1 "place_left" 2 jH:=
 bQ (k:=0) (g:=wZ) Fn hmg hb G5 rfl rfl λ cdv A outer s H E hr=>(aM (bh (aW cX rfl T.dO PySem.boot_len (aj (bM ["other"] [1] rfl (by kernel_rfl) (by kernel_rfl) (dH (zO (dv 0) lA (lB (Tt (iz hr) (dv 0) (dv 1))))) (aU (by decide)) (λ _ _ _ _ nd=>aZ 0 nd) (λ _ _ _ _=>(Yy (dF Ia (dv 0) (dv 1)))) (λ _ _ _ _=>(dv 0))) aq))))
theorem Mp (Fn:Fun K "seams_in" "seams_in" u9 f fd) (hmg:mg "seams_in" =some (.ref f)) (hb:Binds K fd ["table"] []) (T:Txt K mg) (q9:aX P w K mg base 1 "place_left" 2 jH):aX P w K mg base 2 "seams_in" 1 mD:=
 bQ (k:=1) (g:=BK) Fn hmg hb Mh rfl rfl λ cdv A outer s H E hr=>(aM (bh (bM ["number"] [0] rfl (by kernel_rfl) (by kernel_rfl) (dB rfl T.cL (aj (aW cX rfl T.dO PySem.boot_len (aj (bR (dv 0) aK) aq)) aq)) (aU (by decide)) (λ _ _ _ _ nd=>aZ 0 nd) (λ _ _ _ _=>bK) (λ _ _ _ _=>(cW dj rfl T.cM boot_tuple (aj (bM ["row"] [0] rfl (by kernel_rfl) (by kernel_rfl) (dH (dv 1)) (aU (by decide)) (λ _ _ _ _ nd=>aZ 0 nd) (λ _ _ _ _=>bK) (λ _ _ _ _=>(bx q9 hr (by decide) (aj (dv 0) (aj (dv 1) aq))))) aq))))))
theorem QV (Fn:Fun K "is_line" "is_line" xK f fd) (hmg:mg "is_line" =some (.ref f)) (hb:Binds K fd ["thing"] []) (T:Txt K mg)  :aX P w K mg base 1 "is_line" 1 iM:=
  bQ (k:=0) (g:=Gg) Fn hmg hb QJ rfl rfl fun cdv A outer s H E hr=>(by
      obtain⟨Mq,sZ⟩:=T.oE
      exact (aM (bh (tO (p7 (ans:=fW) T.lK (dv 0) rfl T.fj boot_isinstance rfl T.cM boot_tuple) (tM (zH rJ rJ aK (aW cX rfl T.dO PySem.boot_len (aj (dv 0) aq)) (pX rfl sZ)))))))
theorem QW (Fn:Fun K "is_cell" "is_cell" xM f fd) (hmg:mg "is_cell" =some (.ref f)) (hb:Binds K fd ["thing"] []) (T:Txt K mg) (dR:aX P w K mg base 1 "is_whole" 1 d7):aX P w K mg base 2 "is_cell" 1 oO:=
  bQ (k:=1) (g:=Gh) Fn hmg hb QK rfl rfl fun cdv A outer s H E hr=>(by
      obtain⟨ab0,Mr⟩:=T.sY
      exact (aM (bh (tO (bx dR hr (by decide) (aj (dv 0) aq)) (tM (zH rJ rJ aK (dv 0) (pX rfl Mr)))))))
theorem UG (Fn:Fun K "is_row" "is_row" Ae f fd) (hmg:mg "is_row" =some (.ref f)) (hb:Binds K fd ["thing"] []) (T:Txt K mg) (xY:aX P w K mg base 2 "is_cell" 1 oO) (lM:aX P w K mg base 1 "is_line" 1 iM):aX P w K mg base 3 "is_row" 1 qM:=
 bQ (k:=2) (g:=JK) Fn hmg hb Uy rfl rfl λ cdv A outer s H E hr=>(aM (bh (tO (bx lM hr (by decide) (aj (dv 0) aq)) (tM (aW (oJ rfl) rfl T.oF boot_all (aj (bM ["cell"] [] rfl (by kernel_rfl) (by kernel_rfl) (dH (dv 0)) (aU (by decide)) (λ _ _ _ _ nd=>aZ 0 nd) (λ _ _ _ _=>bK) (λ _ _ _ _=>(bx xY hr (by decide) (aj (dv 0) aq)))) aq))))))
theorem Hg (Fn:Fun K "is_picture" "is_picture" qU f fd) (hmg:mg "is_picture" =some (.ref f)) (hb:Binds K fd ["thing"] []) (T:Txt K mg) (lM:aX P w K mg base 1 "is_line" 1 iM) (Ai:aX P w K mg base 3 "is_row" 1 qM):aX P w K mg base 4 "is_picture" 1 gC:=
 bQ (k:=3) (g:=w5) Fn hmg hb G6 rfl rfl λ cdv A outer s H E hr=>(aH (eF (DW.dt (uH (gk (iZ (bx lM hr (by decide) (aj (dv 0) aq)))) (tQ (gk (iZ (aW (oJ rfl) rfl T.oF boot_all (aj (bM ["row"] [] rfl (by kernel_rfl) (by kernel_rfl) (dH (dv 0)) (aU (by decide)) (λ _ _ _ _ nd=>aZ 0 nd) (λ _ _ _ _=>bK) (λ _ _ _ _=>(bx Ai hr (by decide) (aj (dv 0) aq)))) aq))))))) (aM (bh uG)) cU) (aM (bh (aW (oJ rfl) rfl T.oF boot_all (aj (bM ["row"] [0] rfl (by kernel_rfl) (by kernel_rfl) (dH (dv 0)) (aU (by decide)) (λ _ _ _ _ nd=>aZ 0 nd) (λ _ _ _ _=>bK) (λ _ _ _ _=>(Aw (uM (iz hr)) (aW cX rfl T.dO PySem.boot_len (aj (dv 0) aq)) (aW cX rfl T.dO PySem.boot_len (aj (bR (dv 1) aK) aq))))) aq)))))
theorem Cz (Fn:Fun K "need_picture" "need_picture" nO f fd) (hmg:mg "need_picture" =some (.ref f)) (hb:Binds K fd ["thing"] []) (T:Txt K mg) (iJ:aX P w K mg base 4 "is_picture" 1 gC):aX P w K mg base 5 "need_picture" 1 iI:=
 bQ (k:=4) (g:=um) Fn hmg hb Cq rfl rfl λ cdv A outer s H E hr=>(aM (eF (gk (iZ (bx iJ hr (by decide) (aj (dv 0) aq)))) (aM uK) cU))
theorem QX (Fn:Fun K "size_of" "size_of" xO f fd) (hmg:mg "size_of" =some (.ref f)) (hb:Binds K fd ["picture"] []) (T:Txt K mg) (nR:aX P w K mg base 5 "need_picture" 1 iI):aX P w K mg base 6 "size_of" 1 dD:=
 bQ (k:=5) (g:=Gi) Fn hmg hb QL rfl rfl λ cdv A outer s H E hr=>(aH (yC (bx nR hr (by decide) (aj (dv 0) aq))) (aM (bh (fL (aj (aW cX rfl T.dO PySem.boot_len (aj (bR (dv 0) aK) aq)) (aj (aW cX rfl T.dO PySem.boot_len (aj (dv 0) aq)) aq))))))
theorem KC (Fn:Fun K "is_orders" "is_orders" sV f fd) (hmg:mg "is_orders" =some (.ref f)) (hb:Binds K fd ["thing","picture"] []) (T:Txt K mg) (nT:aX P w K mg base 2 "is_order_row" 2 iH) (Aj:aX P w K mg base 2 "is_way" 3 qL) (vm:aX P w K mg base 2 "seams_in" 1 mD) (cR:aX P w K mg base 6 "size_of" 1 dD):aX P w K mg base 7 "is_orders" 2 fX:=
 bQ (k:=6) (g:=zf) Fn hmg hb xP rfl rfl λ cdv A outer s H E hr=>(aH (pY 2 3 rfl xP.nd (bx cR hr (by decide) (aj (dv 1) aq))) (aH (eF (DW.dt (uH (gk (iZ (p7 (ans:=fW) T.lK (dv 0) rfl T.fj boot_isinstance rfl T.cM boot_tuple))) (uH (dF (Ba (iz hr)) (aW cX rfl T.dO PySem.boot_len (aj (dv 0) aq)) (dv 3)) (tQ (gk (iZ (aW (oJ rfl) rfl T.oF boot_all (aj (bM ["row"] [2] rfl (by kernel_rfl) (by kernel_rfl) (dH (dv 0)) (aU (by decide)) (λ _ _ _ _ nd=>aZ 0 nd) (λ _ _ _ _=>bK) (λ _ _ _ _=>(bx nT hr (by decide) (aj (dv 0) (aj (dv 1) aq))))) aq)))))))) (aM (bh uG)) cU) (aM (bh (aW (oJ rfl) rfl T.oF boot_all (aj (bM ["gone","seam"] [3,2] rfl (by kernel_rfl) (by kernel_rfl) (nj rfl T.eV (aj (bx vm hr (by decide) (aj (dv 0) aq)) aq)) (gP (bN (aU (by decide)) (bN (aU (by decide)) gO))) (λ _ _ _ _ nd=>lU rfl (cB (aZ 0 nd) (cB (aZ 1 nd) jR))) (λ _ _ _ _=>bK) (λ _ _ _ _=>(bx Aj hr (by decide) (aj (dv 1) (aj (aN cV (dv 3) (dv 0)) (aj (dv 2) aq)))))) aq))))))
theorem Ms (Fn:Fun K "all_free" "all_free" vd f fd) (hmg:mg "all_free" =some (.ref f)) (hb:Binds K fd ["picture"] []) (T:Txt K mg)  :aX P w K mg base 1 "all_free" 1 mF:=
  bQ (k:=0) (g:=BL) Fn hmg hb Mi rfl rfl fun cdv A outer s H E hr=>(by
      obtain⟨adG,abG⟩:=T.Ku
      exact (aM (bh (aN tY (fL (aj (aN tY (fL (aj (pX rfl abG) aq)) (aW cX rfl T.dO PySem.boot_len (aj (bR (dv 0) aK) aq))) aq)) (aW cX rfl T.dO PySem.boot_len (aj (dv 0) aq))))))
theorem En (Fn:Fun K "need_manner" "need_manner" o9 f fd) (hmg:mg "need_manner" =some (.ref f)) (hb:Binds K fd ["thing"] []) (T:Txt K mg)  :aX P w K mg base 1 "need_manner" 1 jh:=
 bQ (k:=0) (g:=vL) Fn hmg hb Ef rfl rfl λ cdv A outer s H E hr=>(aM (eF (dF VN (dv 0) (Y4 (ss:=["worth","joins"]) rfl T.xW) (by rfl)) (aM uK) cU))
theorem KD (Fn:Fun K "order_row" "order_row" sW f fd) (hmg:mg "order_row" =some (.ref f)) (hb:Binds K fd ["places","wide"] []) (T:Txt K mg)  :aX P w K mg base 1 "order_row" 2 kj:=
 bQ (k:=0) (g:=zj) Fn hmg hb mO rfl rfl λ cdv A outer s H E hr=>(aH (Tj 2 mO.nd (Tv rfl rfl T.qZ rfl T.cL (aj (dv 1) aq))) (aH (Tj 3 mO.nd (N8 (qw (aj aK aq)) (dv 1))) (aH (gQ PassesOwn.never rfl (nj rfl T.eV (aj (dv 0) aq)) (pZ 4 5 rfl mO.nd) (aM (Tp 3 2 (dv 5) (dv 4)))) (aM (bh (cW dj rfl T.cM boot_tuple (aj (dv 3) aq)))))))
theorem Eo (Fn:Fun K "cells_along" "cells_along" pq f fd) (hmg:mg "cells_along" =some (.ref f)) (hb:Binds K fd ["picture","seam"] []) (T:Txt K mg)  :aX P w K mg base 1 "cells_along" 2 ji:=
 bQ (k:=0) (g:=vM) Fn hmg hb Eh rfl rfl λ cdv A outer s H E hr=>(aM (bh (cW dj rfl T.cM boot_tuple (aj (bM ["row","place"] [] rfl (by kernel_rfl) (by kernel_rfl) (Dl rfl T.yP (aj (dv 0) (aj (dv 1) aq))) (gP (bN (aU (by decide)) (bN (aU (by decide)) gO))) (λ _ _ _ _ nd=>lU rfl (cB (aZ 0 nd) (cB (aZ 1 nd) jR))) (λ _ _ _ _=>bK) (λ _ _ _ _=>(bR (dv 0) (dv 1)))) aq))))
theorem Z4 (Fn:Fun K "gaps" "gaps" Kr f fd) (hmg:mg "gaps" =some (.ref f)) (hb:Binds K fd ["line"] []) (T:Txt K mg)  :aX P w K mg base 1 "gaps" 1 oU:=
 bQ (k:=0) (g:=Tw) Fn hmg hb PL rfl rfl λ cdv A outer s H E hr=>(aH (bV 1 PL.nd (aN cV (aW cX rfl T.dO PySem.boot_len (aj (dv 0) aq)) aK)) (aM (bh (bM ["at"] [1,0] rfl (by kernel_rfl) (by kernel_rfl) (dB rfl T.cL (aj (aW cX rfl T.dO PySem.boot_len (aj (dv 0) aq)) aq)) (aU (by decide)) (λ _ _ _ _ nd=>aZ 0 nd) (λ _ _ _ _=>bK) (λ _ _ _ _=>(aW Bk rfl T.yO boot_abs (aj (aN cV (bR (dv 2) (aW (wF rfl) rfl T.vg boot_max (aj (aN cV (dv 0) aK) (aj aK aq)))) (bR (dv 2) (aW (qJ rfl) rfl T.pU boot_min (aj (aN cj (dv 0) aK) (aj (dv 1) aq))))) aq)))))))
theorem Hh (Fn:Fun K "join_fares" "join_fares" qW f fd) (hmg:mg "join_fares" =some (.ref f)) (hb:Binds K fd ["picture","y"] []) (T:Txt K mg) (rm:aX P w K mg base 1 "gaps" 1 oU):aX P w K mg base 2 "join_fares" 2 jJ:=
 bQ (k:=1) (g:=w6) Fn hmg hb d8 rfl rfl λ cdv A outer s H E hr=>(aH (bV 2 d8.nd (bR (dv 0) (dv 1))) (aH (bV 3 d8.nd (bR (dv 0) (aW (wF rfl) rfl T.vg boot_max (aj (aN cV (dv 1) aK) (aj aK aq))))) (aH (bV 4 d8.nd (aN cV (aW cX rfl T.dO PySem.boot_len (aj (dv 2) aq)) aK)) (aH (jT 5 d8.nd aq) (aH (gQ PassesOwn.never rfl (nj rfl T.eV (aj (bx rm hr (by decide) (aj (dv 2) aq)) aq)) (pZ 6 7 rfl d8.nd) (aH (bV 8 d8.nd (aN cj (dv 7) (aW Bk rfl T.yO boot_abs (aj (aN cV (bR (dv 3) (dv 6)) (bR (dv 2) (aW (wF rfl) rfl T.vg boot_max (aj (aN cV (dv 6) aK) (aj aK aq))))) aq)))) (aH (bV 9 d8.nd (aN cj (dv 7) (aW Bk rfl T.yO boot_abs (aj (aN cV (bR (dv 3) (dv 6)) (bR (dv 2) (aW (qJ rfl) rfl T.pU boot_min (aj (aN cj (dv 6) aK) (aj (dv 4) aq))))) aq)))) (aM (lX 5 (fL (aj (dv 8) (aj (dv 7) (aj (dv 9) aq))))))))) (aM (bh (dv 5))))))))
theorem UJ (Fn:Fun K "turned" "turned" Af f fd) (hmg:mg "turned" =some (.ref f)) (hb:Binds K fd ["picture"] []) (T:Txt K mg) (cR:aX P w K mg base 6 "size_of" 1 dD):aX P w K mg base 7 "turned" 1 qN:=
 bQ (k:=6) (g:=JL) Fn hmg hb Gv rfl rfl λ cdv A outer s H E hr=>(aH (pY 1 2 rfl Gv.nd (bx cR hr (by decide) (aj (dv 0) aq))) (aM (bh (cW dj rfl T.cM boot_tuple (aj (bM ["x"] [2,0] rfl (by kernel_rfl) (by kernel_rfl) (dB rfl T.cL (aj (dv 1) aq)) (aU (by decide)) (λ _ _ _ _ nd=>aZ 0 nd) (λ _ _ _ _=>bK) (λ _ _ _ _=>(cW dj rfl T.cM boot_tuple (aj (bM ["y"] [2,0] rfl (by kernel_rfl) (by kernel_rfl) (dB rfl T.cL (aj (dv 1) aq)) (aU (by decide)) (λ _ _ _ _ nd=>aZ 0 nd) (λ _ _ _ _=>bK) (λ _ _ _ _=>(bR (bR (dv 1) (dv 0)) (dv 2)))) aq)))) aq)))))
theorem UL (Fn:Fun K "worths" "worths" Ag f fd) (hmg:mg "worths" =some (.ref f)) (hb:Binds K fd ["picture"] []) (T:Txt K mg) (rm:aX P w K mg base 1 "gaps" 1 oU) (cR:aX P w K mg base 6 "size_of" 1 dD) (Ak:aX P w K mg base 7 "turned" 1 qN):aX P w K mg base 8 "worths" 1 qO:=
 bQ (k:=7) (g:=JM) Fn hmg hb su rfl rfl λ cdv A outer s H E hr=>(aH (pY 1 2 rfl su.nd (bx cR hr (by decide) (aj (dv 0) aq))) (aH (bV 3 su.nd (bM ["row"] [] rfl (by kernel_rfl) (by kernel_rfl) (dH (dv 0)) (aU (by decide)) (λ _ _ _ _ nd=>aZ 0 nd) (λ _ _ _ _=>bK) (λ _ _ _ _=>(bx rm hr (by decide) (aj (dv 0) aq))))) (aH (bV 4 su.nd (bM ["column"] [] rfl (by kernel_rfl) (by kernel_rfl) (dH (bx Ak hr (by decide) (aj (dv 0) aq))) (aU (by decide)) (λ _ _ _ _ nd=>aZ 0 nd) (λ _ _ _ _=>bK) (λ _ _ _ _=>(bx rm hr (by decide) (aj (dv 0) aq))))) (aM (bh (cW dj rfl T.cM boot_tuple (aj (bM ["y"] [3,4,1] rfl (by kernel_rfl) (by kernel_rfl) (dB rfl T.cL (aj (dv 2) aq)) (aU (by decide)) (λ _ _ _ _ nd=>aZ 0 nd) (λ _ _ _ _=>bK) (λ _ _ _ _=>(cW dj rfl T.cM boot_tuple (aj (bM ["x"] [1,2,0] rfl (by kernel_rfl) (by kernel_rfl) (dB rfl T.cL (aj (dv 3) aq)) (aU (by decide)) (λ _ _ _ _ nd=>aZ 0 nd) (λ _ _ _ _=>bK) (λ _ _ _ _=>(aN cj (bR (bR (dv 1) (dv 3)) (dv 0)) (bR (bR (dv 2) (dv 0)) (dv 3))))) aq)))) aq)))))))
theorem W5 (Fn:Fun K "fares" "fares" Ei f fd) (hmg:mg "fares" =some (.ref f)) (hb:Binds K fd ["picture","manner"] []) (T:Txt K mg) (rA:aX P w K mg base 2 "join_fares" 2 jJ) (Al:aX P w K mg base 8 "worths" 1 qO):aX P w K mg base 9 "fares" 2 nD:=
 bQ (k:=8) (g:=Oa) Fn hmg hb W4 rfl rfl λ cdv A outer s H E hr=>(aH (eF (dF (uM (iz hr)) (dv 1) Im) (aM (bh (bM ["row"] [] rfl (by kernel_rfl) (by kernel_rfl) (dH (bx Al hr (by decide) (aj (dv 0) aq))) (aU (by decide)) (λ _ _ _ _ nd=>aZ 0 nd) (λ _ _ _ _=>bK) (λ _ _ _ _=>(bM ["worth"] [] rfl (by kernel_rfl) (by kernel_rfl) (dH (dv 0)) (aU (by decide)) (λ _ _ _ _ nd=>aZ 0 nd) (λ _ _ _ _=>bK) (λ _ _ _ _=>(fL (aj (dv 0) (aj (dv 0) (aj (dv 0) aq)))))))))) cU) (aM (bh (bM ["y"] [0] rfl (by kernel_rfl) (by kernel_rfl) (dB rfl T.cL (aj (aW cX rfl T.dO PySem.boot_len (aj (dv 0) aq)) aq)) (aU (by decide)) (λ _ _ _ _ nd=>aZ 0 nd) (λ _ _ _ _=>bK) (λ _ _ _ _=>(bx rA hr (by decide) (aj (dv 1) (aj (dv 0) aq))))))))
theorem QZ (Fn:Fun K "fare_of" "fare_of" xQ f fd) (hmg:mg "fare_of" =some (.ref f)) (hb:Binds K fd ["row","above","place"] []) (T:Txt K mg)  :aX P w K mg base 1 "fare_of" 3 gZ:=
 bQ (k:=0) (g:=Gj) Fn hmg hb QM rfl rfl λ cdv A outer s H E hr=>(aM (bh (bR (bR (dv 0) (dv 2)) (aN cj (aN cV (dv 1) (dv 2)) aK))))
theorem Z5 (Fn:Fun K "near" "near" Ks f fd) (hmg:mg "near" =some (.ref f)) (hb:Binds K fd ["place","wide"] []) (T:Txt K mg)  :aX P w K mg base 1 "near" 2 xg:=
 bQ (k:=0) (g:=Tz) Fn hmg hb Z1 rfl rfl λ cdv A outer s H E hr=>(aM (bh (Wj rfl rfl T.qZ rfl T.cL (aj (aW (wF rfl) rfl T.vg boot_max (aj (aN cV (dv 0) aK) (aj aK aq))) (aj (aW (qJ rfl) rfl T.pU boot_min (aj (aN cj (dv 0) aK) (aj (dv 1) aq))) aq)))))
theorem UW (Fn:Fun K "onward" "onward" Ah f fd) (hmg:mg "onward" =some (.ref f)) (hb:Binds K fd ["beneath","row","x"] []) (T:Txt K mg) (lN:aX P w K mg base 1 "fare_of" 3 gZ) (KH:aX P w K mg base 1 "near" 2 xg):aX P w K mg base 2 "onward" 3 nF:=
 bQ (k:=1) (g:=JN) Fn hmg hb oY rfl rfl λ cdv A outer s H E hr=>(aH (jT 3 oY.nd aq) (aH (gQ PassesOwn.never rfl (dH (bx KH hr (by decide) (aj (dv 2) (aj (aW cX rfl T.dO PySem.boot_len (aj (dv 0) aq)) aq)))) (lu 4 oY.nd) (aH (bV 5 oY.nd (bx lN hr (by decide) (aj (dv 1) (aj (dv 2) (aj (dv 4) aq))))) (aM (N6 3 oY.nd (bM ["less","cost","rest"] [5] rfl (by kernel_rfl) (by kernel_rfl) (dH (bR (dv 0) (dv 4))) (gP (bN (aU (by decide)) (bN (aU (by decide)) (bN (aU (by decide)) gO)))) (λ _ _ _ _ nd=>lU rfl (cB (aZ 0 nd) (cB (aZ 1 nd) (cB (aZ 2 nd) jR)))) (λ _ _ _ _=>bK) (λ _ _ _ _=>(fL (aj (dv 0) (aj (aN cj (dv 1) (dv 3)) (aj (dv 2) aq)))))))))) (aM (bh (dv 3)))))
theorem W6 {A:Around} {s:Shared} {H:Hp} {E:XK} (T:Txt K mg) (rC:aX P w K mg base 2 "onward" 3 nF) {aG:Nat} {GG:List D->R D} (hG:wM P w K mg base 1 GG 2 aG H) (hr:Room 2 (A.deeper (envOfC "swept" (defScope qg) s.heap.objs.size f cdv))):lW (cxOf CX0 P w K mg base ["table","marks","start","gather","rows","y","row","x","mark","told","lost"] "swept" (defScope qg) f cdv A outer s H E).nox (defBody qg) (Dy aG GG):=by
 obtain⟨adH,abH⟩:=T.Kv;obtain⟨adI,abI⟩:=T.Kw;exact (aH (jT 4 iV.nd aq) (aH (gQ PassesOwn.never rfl (Zc rfl T.vh rfl T.cL (aj (aW cX rfl T.dO PySem.boot_len (aj (dv 1) aq)) aq)) (lu 5 iV.nd) (aH (jT 6 iV.nd aq) (aH (gQ PassesOwn.never rfl (nj rfl T.eV (aj (bR (dv 1) (dv 5)) aq)) (pZ 7 8 rfl iV.nd) (aH (eF (dF (uM (iz hr)) (dv 8) (pX rfl abI)) (aM (bV 9 iV.nd (qw aq))) (aM (eF (gk (Tg (dv 4))) (aM (bV 9 iV.nd (Jo 3 hG hr (by decide) (aj (dv 7) (aj (qw (aj (fL (aj aK (aj aK (aj (dv 2) aq)))) aq)) aq))))) (aM (bV 9 iV.nd (Jo 3 hG hr (by decide) (aj (dv 7) (aj (bx rC hr (by decide) (aj (wQ 4 (RZ aK)) (aj (bR (dv 0) (aN cj (dv 5) aK)) (aj (dv 7) aq)))) aq)))))))) (aH (bV 10 iV.nd (Xx (dF (uM (iz hr)) (dv 8) (pX rfl abH)) aK aK)) (aM (lX 6 (bM ["less","cost","rest"] [10] rfl (by kernel_rfl) (by kernel_rfl) (dH (dv 9)) (gP (bN (aU (by decide)) (bN (aU (by decide)) (bN (aU (by decide)) gO)))) (λ _ _ _ _ nd=>lU rfl (cB (aZ 0 nd) (cB (aZ 1 nd) (cB (aZ 2 nd) jR)))) (λ _ _ _ _=>bK) (λ _ _ _ _=>(fL (aj (aN cV (dv 0) (dv 3)) (aj (dv 1) (aj (dv 2) aq))))))))))) (aM (Za 4 6 (by decide)))))) (aM (bh (Y9 (dv 4))))))
theorem W7 (Fn:Fun K "swept" "swept" qg f fd) (hmg:mg "swept" =some (.ref f)) (hb:Binds K fd ["table","marks","start","gather"] []) (T:Txt K mg) (rC:aX P w K mg base 2 "onward" 3 nF):FnS P w K mg base 3 "swept" 1 3 2 qe:=
 ⟨f,fd,["table","marks","start","gather"],fnS (k:=2) (m:=7) (g:=Dy) Fn iV rfl rfl λ cdv A outer s H E a G hr hG=>W6 T rC hG hr,hmg,Fn.kp,hb⟩
theorem Hi {c:Addr} {A:Around} {s:Shared} {H:Hp} (T:Txt K mg)  (hr:Room 0 (A.deeper (uQ "best_ways.<locals>.first_ones" (defScope gG) f cdv s "many" c))):lW (uR P w K mg base ["x","told","many"] "best_ways.<locals>.first_ones" (defScope gG) f cdv A outer s H "many" c) (defBody gG) xq:=by
 exact (aM (bh (bM ["less","cost","places"] [0] rfl (by kernel_rfl) (by kernel_rfl) (dH (rW (aW (Jw (Ti hr)) rfl T.q8 boot_sorted (aj (dv 1) aq)) lA (lB (dv 2)))) (gP (bN (aU (by decide)) (bN (aU (by decide)) (bN (aU (by decide)) gO)))) (λ _ _ _ _ nd=>lU rfl (cB (aZ 0 nd) (cB (aZ 1 nd) (cB (aZ 2 nd) jR)))) (λ _ _ _ _=>bK) (λ _ _ _ _=>(fL (aj (dv 0) (aj (dv 1) (aj (aN cj (fL (aj (dv 3) aq)) (dv 2)) aq))))))))
theorem Ep (T:Txt K mg)  (my:Int) (a c:Addr) (H:Hp) (co:Obj) (uy:Value) (fh:jF H a "first_ones" "best_ways.<locals>.first_ones" (defArgs gG) (defBody gG) (defScope gG) [("many",c)]) (hc:H c=some (.frz co (.own c))) (hcd:co.data= .cell (some uy)) (hy:RelV (.int my) uy):wM P w K mg base 1 (dN my) 2 a H:=
 aa0 (k:=0) (m:=0) G8 rfl rfl (λ _ _ _ _ _ us hl=>qQ hl λ _ _=>rfl) (λ cdv A outer s H f c hr=>Hi T  hr) fh hc hcd hy
theorem KJ {cc TP:Addr} {A:Around} {s:Shared} {H:Hp} {E:XK} (T:Txt K mg) (ux:FnS P w K mg base 3 "swept" 1 3 2 qe)  (hB:nZ base mg cc TP) (hT:Tb [(TP,"best_ways.<locals>.first_ones")] H) (hr:Room 3 (A.deeper (envOfC "best_ways" (defScope iu) s.heap.objs.size f (.ref cc)))):lW (cxOf CX0 P w K mg base ["table","marks","many","first_ones"] "best_ways" (defScope iu) f (.ref cc) A outer s H E).nox (defBody iu) sJ:=by
 obtain⟨fS,Jp,Ga,Sw,hm,hk,hb⟩:=ux;exact Wh (c:=s.heap.objs.size+1) (y:= "many") 3 2 xR.nd hB hT rfl Sw (hr.mono (by decide)) hm hk hb (Ep T ) (dv 0) (dv 1) (fL aq) rfl rfl rfl rfl (by decide) (.inl rfl)
theorem KN {cc TP:Addr} (Fn:Fun K "best_ways" "best_ways" iu f fd) (hmg:mg "best_ways" =some (.ref f)) (T:Txt K mg) (ux:FnS P w K mg base 3 "swept" 1 3 2 qe)  (hB:nZ base mg cc TP) (hci:wN K mg "best_ways" cc):nq P w K mg base 4 "best_ways" 3 ou fd ["table","marks","many"] [(TP,"best_ways.<locals>.first_ones")]:=by
 refine⟨f,NK (k:=3) (m:=1) (g:=sJ) Fn xR rfl rfl λ cdv A outer s H E hcd hr hT=>?_,hmg,Fn.kp⟩;have e:fd.code= .ref cc:=by
  obtain⟨oc,od,kV,doc,pm,an,adO,ct,osl,e1,lk,_⟩:=Fn.ex;exact hci f oc od fd osl hmg lk
 cases hcd.symm.trans e;exact KJ T ux  hB hT hr
theorem Mt (Fn:Fun K "from_top" "from_top" vf f fd) (hmg:mg "from_top" =some (.ref f)) (hb:Binds K fd ["table","rows"] []) (T:Txt K mg) (lN:aX P w K mg base 1 "fare_of" 3 gZ):aX P w K mg base 2 "from_top" 2 mH:=
 bQ (k:=1) (g:=BP) Fn hmg hb kW rfl rfl λ cdv A outer s H E hr=>(aH (jT 2 kW.nd aq) (aH (gQ PassesOwn.never rfl (nj rfl T.eV (aj (bR (dv 1) aK) aq)) (pZ 3 4 rfl kW.nd) (aH (bV 5 kW.nd (bx lN hr (by decide) (aj (bR (dv 0) aK) (aj (dv 3) (aj (dv 3) aq))))) (aM (N6 2 kW.nd (bM ["less","cost","rest"] [5] rfl (by kernel_rfl) (by kernel_rfl) (dH (dv 4)) (gP (bN (aU (by decide)) (bN (aU (by decide)) (bN (aU (by decide)) gO)))) (λ _ _ _ _ nd=>lU rfl (cB (aZ 0 nd) (cB (aZ 1 nd) (cB (aZ 2 nd) jR)))) (λ _ _ _ _=>bK) (λ _ _ _ _=>(fL (aj (dv 0) (aj (aN cj (dv 1) (dv 3)) (aj (dv 2) aq)))))))))) (aM (bh (dv 2)))))
theorem Er (Fn:Fun K "first_seams" "first_seams" pA f fd) (hmg:mg "first_seams" =some (.ref f)) (T:Txt K mg) {rE:FuncData} (tu:nq P w K mg base 4 "best_ways" 3 ou rE ["table","marks","many"] zq) (tD:Binds K rE ["table","marks","many"] []) (vo:aX P w K mg base 2 "from_top" 2 mH):nq P w K mg base 5 "first_seams" 3 kZ fd ["table","marks","many"] zq:=
 ⟨f,NK (k:=4) (m:=0) (g:=vN) Fn Ej rfl rfl λ cdv A outer s H E _ hr hT=>((aM (bh (rW (aW (Jw (Ti hr)) rfl T.q8 boot_sorted (aj (bx vo hr (by decide) (aj (dv 0) (aj (Bq tu hT hr (by decide) tD (aj (dv 0) (aj (dv 1) (aj (dv 2) aq)))) aq))) aq)) lA (lB (dv 2)))))),hmg,Fn.kp⟩
theorem KQ (Fn:Fun K "least_way" "least_way" sX f fd) (hmg:mg "least_way" =some (.ref f)) (T:Txt K mg) {nU:FuncData} (pF:nq P w K mg base 5 "first_seams" 3 kZ nU ["table","marks","many"] zq) (pG:Binds K nU ["table","marks","many"] []):nq P w K mg base 6 "least_way" 2 kI fd ["table","marks"] zq:=
 ⟨f,NK (k:=5) (m:=4) (g:=zm) Fn qX rfl rfl λ cdv A outer s H E _ hr hT=>((aH (bV 2 qX.nd (Bq pF hT hr (by decide) pG (aj (dv 0) (aj (dv 1) (aj aK aq))))) (aH (eF (gk (Tg (dv 2))) (aM (bh Il)) cU) (aH (N7 3 4 5 rfl qX.nd (bR (dv 2) aK)) (aM (bh (fL (aj (dv 4) (aj (dv 5) aq))))))))),hmg,Fn.kp⟩
theorem Q0 (Fn:Fun K "without" "without" xT f fd) (hmg:mg "without" =some (.ref f)) (hb:Binds K fd ["rows","seam"] []) (T:Txt K mg)  :aX P w K mg base 1 "without" 2 lH:=
 bQ (k:=0) (g:=Gk) Fn hmg hb QS rfl rfl λ cdv A outer s H E hr=>(aM (bh (cW dj rfl T.cM boot_tuple (aj (bM ["row","place"] [] rfl (by kernel_rfl) (by kernel_rfl) (Dl rfl T.yP (aj (dv 0) (aj (dv 1) aq))) (gP (bN (aU (by decide)) (bN (aU (by decide)) gO))) (λ _ _ _ _ nd=>lU rfl (cB (aZ 0 nd) (cB (aZ 1 nd) jR))) (λ _ _ _ _=>bK) (λ _ _ _ _=>(aN cj (zO (dv 0) lA (lB (dv 1))) (zO (dv 0) (lB (aN cj (dv 1) aK)) lA)))) aq))))
theorem W8 (Fn:Fun K "taken" "taken" Ek f fd) (hmg:mg "taken" =some (.ref f)) (T:Txt K mg) (pH:aX P w K mg base 1 "cells_along" 2 ji) (Es:aX P w K mg base 9 "fares" 2 nD) {rF:FuncData} (tE:nq P w K mg base 6 "least_way" 2 kI rF ["table","marks"] zq) (tH:Binds K rF ["table","marks"] []) (sy:aX P w K mg base 1 "without" 2 lH):nq P w K mg base 10 "taken" 4 yL fd ["picture","many","manner","marks"] zq:=
 ⟨f,NK (k:=9) (m:=7) (g:=Oc) Fn jQ rfl rfl λ cdv A outer s H E _ hr hT=>((aH (RX 4 5 rfl jQ.nd (dv 0) (dv 3)) (aH (jT 6 jQ.nd aq) (aH (bV 7 jQ.nd aK) (aH (Ip 64 PassesOwn.never (dF yq (aW cX rfl T.dO PySem.boot_len (aj (dv 6) aq)) (dv 1)) (aH (bV 8 jQ.nd (Bq tE hT hr (by decide) tH (aj (bx Es hr (by decide) (aj (dv 4) (aj (dv 2) aq))) (aj (dv 5) aq)))) (aH (eF (dF aci (dv 8) Il) (aM (bh Il)) cU) (aH (pY 9 10 rfl jQ.nd (dv 8)) (aH (lX 6 (fL (aj (dv 10) (aj (bx pH hr (by decide) (aj (dv 4) (aj (dv 10) aq))) aq)))) (aH (aaU 7 jQ.nd (dv 9)) (aM (RX 4 5 rfl jQ.nd (bx sy hr (by decide) (aj (dv 4) (aj (dv 10) aq))) (bx sy hr (by decide) (aj (dv 5) (aj (dv 10) aq))))))))))) (aM (bh (fL (aj (dv 4) (aj (dv 6) (aj (dv 7) aq))))))))))),hmg,Fn.kp⟩
theorem U0 (Fn:Fun K "orders" "orders" iW f fd) (hmg:mg "orders" =some (.ref f)) (T:Txt K mg) (vB:aX P w K mg base 1 "all_free" 1 mF) (pI:aX P w K mg base 1 "need_manner" 1 jh) (tK:aX P w K mg base 1 "order_row" 2 kj) (cR:aX P w K mg base 6 "size_of" 1 dD) {Am:FuncData} (Et:nq P w K mg base 10 "taken" 4 yL Am ["picture","many","manner","marks"] zq) (Eu:Binds K Am ["picture","many","manner","marks"] []):nq P w K mg base 11 "orders" 2 uV fd ["picture","manner"] zq:=
 ⟨f,NK (k:=10) (m:=5) (g:=JQ) Fn xU rfl rfl λ cdv A outer s H E _ hr hT=>((aH (pY 2 3 rfl xU.nd (bx cR hr (by decide) (aj (dv 0) aq))) (aH (yC (bx pI hr (by decide) (aj (dv 1) aq))) (aH (N7 4 5 6 rfl xU.nd (Bq Et hT hr (by decide) Eu (aj (dv 0) (aj (dv 2) (aj (dv 1) (aj (bx vB hr (by decide) (aj (dv 0) aq)) aq)))))) (aM (bh (cW dj rfl T.cM boot_tuple (aj (bM ["y"] [5,2] rfl (by kernel_rfl) (by kernel_rfl) (dB rfl T.cL (aj (dv 3) aq)) (aU (by decide)) (λ _ _ _ _ nd=>aZ 0 nd) (λ _ _ _ _=>bK) (λ _ _ _ _=>(bx tK hr (by decide) (aj (bM ["seam","cells"] [0] rfl (by kernel_rfl) (by kernel_rfl) (dH (dv 1)) (gP (bN (aU (by decide)) (bN (aU (by decide)) gO))) (λ _ _ _ _ nd=>lU rfl (cB (aZ 0 nd) (cB (aZ 1 nd) jR))) (λ _ _ _ _=>bK) (λ _ _ _ _=>(bR (dv 0) (dv 2)))) (aj (dv 2) aq))))) aq)))))))),hmg,Fn.kp⟩
theorem Ew (Fn:Fun K "need_orders" "need_orders" pB f fd) (hmg:mg "need_orders" =some (.ref f)) (hb:Binds K fd ["thing","picture"] []) (T:Txt K mg) (ju:aX P w K mg base 7 "is_orders" 2 fX):aX P w K mg base 8 "need_orders" 2 jj:=
 bQ (k:=7) (g:=vO) Fn hmg hb El rfl rfl λ cdv A outer s H E hr=>(aM (eF (gk (iZ (bx ju hr (by decide) (aj (dv 0) (aj (dv 1) aq))))) (aM uK) cU))
theorem Hj (Fn:Fun K "need_width" "need_width" qY f fd) (hmg:mg "need_width" =some (.ref f)) (hb:Binds K fd ["thing","least","most"] []) (T:Txt K mg) (dR:aX P w K mg base 1 "is_whole" 1 d7):aX P w K mg base 2 "need_width" 3 jK:=
 bQ (k:=1) (g:=xr) Fn hmg hb G7 rfl rfl λ cdv A outer s H E hr=>(aM (eF (DW.dt (uH (gk (iZ (bx dR hr (by decide) (aj (dv 0) aq)))) (tQ (gk (Vy rJ rJ (dv 1) (dv 0) (dv 2)))))) (aM uK) cU))
theorem Ey (Fn:Fun K "mean_behind" "mean_behind" pC f fd) (hmg:mg "mean_behind" =some (.ref f)) (hb:Binds K fd ["row","place"] []) (T:Txt K mg)  :aX P w K mg base 1 "mean_behind" 2 jk:=
 bQ (k:=0) (g:=vP) Fn hmg hb uw rfl rfl λ cdv A outer s H E hr=>(aH (bV 2 uw.nd (aW (qJ rfl) rfl T.pU boot_min (aj (aN cj (dv 1) aK) (aj (aN cV (aW cX rfl T.dO PySem.boot_len (aj (dv 0) aq)) aK) aq)))) (aM (bh (aN lR (aN cj (bR (dv 0) (dv 1)) (bR (dv 0) (dv 2))) aK))))
theorem Ez (Fn:Fun K "widened_row" "widened_row" pD f fd) (hmg:mg "widened_row" =some (.ref f)) (hb:Binds K fd ["row","numbers","more"] []) (T:Txt K mg) (pJ:aX P w K mg base 1 "mean_behind" 2 jk):aX P w K mg base 2 "widened_row" 3 jm:=
 bQ (k:=1) (g:=vQ) Fn hmg hb nP rfl rfl λ cdv A outer s H E hr=>(aH (jT 3 nP.nd aq) (aH (gQ PassesOwn.never rfl (nj rfl T.eV (aj (dv 1) aq)) (pZ 4 5 rfl nP.nd) (aH (lX 3 (bR (dv 0) (dv 4))) (aM (eF (dF yq (dv 5) (dv 2)) (aM (lX 3 (bx pJ hr (by decide) (aj (dv 0) (aj (dv 4) aq))))) cU)))) (aM (bh (cW dj rfl T.cM boot_tuple (aj (dv 3) aq))))))
theorem Q5 (Fn:Fun K "widened" "widened" xV f fd) (hmg:mg "widened" =some (.ref f)) (hb:Binds K fd ["picture","table","wide"] []) (T:Txt K mg) (pK:aX P w K mg base 8 "need_orders" 2 jj) (rG:aX P w K mg base 2 "need_width" 3 jK) (pL:aX P w K mg base 2 "widened_row" 3 jm):aX P w K mg base 9 "widened" 3 jL:=
  bQ (k:=8) (g:=Gm) Fn hmg hb Cr rfl rfl fun cdv A outer s H E hr=>(by
      obtain⟨Mq,sZ⟩:=T.oE
      exact (aH (yC (bx pK hr (by decide) (aj (dv 1) (aj (dv 0) aq)))) (aH (bV 3 Cr.nd (aW cX rfl T.dO PySem.boot_len (aj (bR (dv 0) aK) aq))) (aH (yC (bx rG hr (by decide) (aj (dv 2) (aj (dv 3) (aj (aW (qJ rfl) rfl T.pU boot_min (aj (aN tY aK (dv 3)) (aj (pX rfl sZ) aq))) aq))))) (aM (bh (cW dj rfl T.cM boot_tuple (aj (bM ["row","numbers"] [3,2] rfl (by kernel_rfl) (by kernel_rfl) (Dl rfl T.yP (aj (dv 0) (aj (dv 1) aq))) (gP (bN (aU (by decide)) (bN (aU (by decide)) gO))) (fun _ _ _ _ nd=>lU rfl (cB (aZ 0 nd) (cB (aZ 1 nd) jR))) (fun _ _ _ _=>bK) (fun _ _ _ _=>(bx pL hr (by decide) (aj (dv 0) (aj (dv 1) (aj (aN cV (dv 3) (dv 2)) aq)))))) aq))))))))
theorem ok_law (Fn:Fun K "law" "law" pR f fd) (hmg:mg "law" =some (.ref f)) (T:Txt K mg) (bJ:aX P w K mg base 1 "_law_drawn" 3 bO) (pN:aX P w K mg base 2 "_law_manner" 2 jg) (tL:aX P w K mg base 3 "_law_some" 4 kh) (vC:aX P w K mg base 2 "_law_way" 4 mC) (ju:aX P w K mg base 7 "is_orders" 2 fX) (iJ:aX P w K mg base 4 "is_picture" 1 gC) {Gw:FuncData} (Ao:nq P w K mg base 11 "orders" 2 uV Gw ["picture","manner"] zq) (cR:aX P w K mg base 6 "size_of" 1 dD) (sE:aX P w K mg base 9 "widened" 3 jL) (mQ:KB K Gw ["picture","manner"] ["manner"] [.inl 0]):nq P w K mg base 12 "law" 1 BR fd ["_law_script"] zq:=
 ⟨f,NK (k:=11) (m:=17) (g:=Yi) Fn gF rfl rfl λ cdv A outer s H E _ hr hT=>((aH (bV 1 gF.nd (bx tL hr (by decide) (aj (dv 0) (aj aK (aj aK (aj aK aq)))))) (aH (pY 2 3 rfl gF.nd (bx cR hr (by decide) (aj (dv 1) aq))) (aH (Wt 4 5 rfl gF.nd aa6 aa7 (Wm ["_law_row"] [2] rfl (by kernel_rfl) (by kernel_rfl) (dH (dv 1)) (aU (by decide)) (λ _ _ _ _ nd=>aZ 0 nd) (λ _ _ _ _=>bK) (λ _ _ _ _=>(Jy rfl rfl T.qZ rfl T.cL (aj (dv 1) aq)))) (Wo ["_law_row"] [2] rfl (by kernel_rfl) (by kernel_rfl) (dH (dv 1)) (aU (by decide)) (λ _ _ _ _ nd=>aZ 0 nd) (λ _ _ _ _=>bK) (λ _ _ _ _=>(N8 (qw (aj aK aq)) (dv 1))))) (aH (gQ PassesOwn.never rfl (dB rfl T.cL (aj (dv 2) aq)) (lu 6 gF.nd) (aM (gQ PassesOwn.never rfl (nj rfl T.eV (aj (bx vC hr (by decide) (aj (dv 0) (aj (aN cj aK (aN tY aK (dv 6))) (aj (aN cV (dv 2) (dv 6)) (aj (dv 3) aq))))) aq)) (pZ 7 8 rfl gF.nd) (aH (Ws 5 (dv 7) (bR (wQ 4 (dv 7)) (dv 8)) (dv 6)) (aM (Zi 4 (dv 7) (aN cj (rW (wQ 4 (dv 7)) lA (lB (dv 8))) (rW (wQ 4 (dv 7)) (lB (aN cj (dv 8) aK)) lA)))))))) (Zj (aH (bV 9 gF.nd (cW dj rfl T.cM boot_tuple (aj (bM ["_law_row"] [] rfl (by kernel_rfl) (by kernel_rfl) (dH (dv 5)) (aU (by decide)) (λ _ _ _ _ nd=>aZ 0 nd) (λ _ _ _ _=>bK) (λ _ _ _ _=>(cW dj rfl T.cM boot_tuple (aj (dv 0) aq)))) aq))) (aH (eF (dF (uM (iz hr)) (bx bJ hr (by decide) (aj (dv 0) (aj aK (aj aK aq)))) aK) (aM (bV 9 gF.nd (Y6 (ks:=["manner"]) (.at 0 .nil) Ao hT hr (by decide) mQ (aj (dv 1) aq) (YQ (bx pN hr (by decide) (aj (dv 0) (aj aK aq))) aaS)))) cU) (aH (bV 10 gF.nd (aW (qJ rfl) rfl T.pU boot_min (aj aK (aj (aN tY aK (dv 2)) aq)))) (aH (gQ PassesOwn.never rfl (dB rfl T.cL (aj aK aq)) (lu 11 gF.nd) (aH (bV 12 gF.nd (aN cj (dv 2) (bx bJ hr (by decide) (aj (dv 0) (aj (aN cj aK (dv 11)) (aj (aN cj (aN cV (dv 10) (dv 2)) aK) aq)))))) (aH (bV 13 gF.nd (bx sE hr (by decide) (aj (dv 1) (aj (dv 9) (aj (dv 12) aq))))) (aH (eF (DW.dt (uH (gk (iZ (bx iJ hr (by decide) (aj (dv 13) aq)))) (tQ (dF (Ba (iz hr)) (bx cR hr (by decide) (aj (dv 13) aq)) (fL (aj (dv 12) (aj (dv 3) aq))))))) (aM (bh uG)) cU) (aM (gQ PassesOwn.never rfl (YZ rfl T.yP (aj (dv 1) (aj (dv 9) (aj (dv 13) aq)))) (S6 14 15 16 rfl gF.nd) (aH (jT 17 gF.nd aq) (aH (gQ PassesOwn.never rfl (dB rfl T.cL (aj (dv 2) aq)) (lu 8 gF.nd) (aH (lX 17 (bR (dv 14) (dv 8))) (aM (eF (dF yq (bR (dv 15) (dv 8)) (aN cV (dv 12) (dv 2))) (aM (lX 17 (aN lR (aN cj (bR (dv 14) (dv 8)) (Xx (dF yq (aN cj (dv 8) aK) (dv 2)) (bR (dv 14) (aN cj (dv 8) aK)) (bR (dv 14) (dv 8)))) aK))) cU)))) (aM (eF (dF (Ba (iz hr)) (cW YD rfl T.qZ boot_list (aj (dv 16) aq)) (dv 17)) (aM (bh uG)) cU)))))))))) (aM (bh (tO (bx ju hr (by decide) (aj (dv 9) (aj (dv 1) aq))) (tM (Aw (uM (iz hr)) (bx sE hr (by decide) (aj (dv 1) (aj (dv 9) (aj (dv 2) aq)))) (dv 1)))))))))))))))),hmg,Fn.kp⟩
end
theorem all_mk {l:PySem.W.OpenLaw} {w:World} {K:PySem.W.Frag} {h:Heap} {mg:Str->Option Value} {fa Aq Q6:Addr} (X:K.In h) (G:h.Ns mainGlobals mg) (hfa:mg "law" =some (.ref fa))
  {U3 Gx:Option Addr} {U4:Array (Option Value)} {U5 Gy Gz GC xZ GD:Value}
  {abJ U6:Option Addr} {abK:Array (Option Value)} {abL U7 U8 U9 KR Va:Value}
  {Z6:Tok} (Ku:PySem.W.nsIn K mainGlobals "FREE" =some (some (.int 0 Z6)))
  {Z7:Tok} (Kv:PySem.W.nsIn K mainGlobals "GONE" =some (some (.int 2 Z7)))
  {Z8:Tok} (Kw:PySem.W.nsIn K mainGlobals "KEPT" =some (some (.int 1 Z8)))
  {KY:Tok} (sY:PySem.W.nsIn K mainGlobals "MOST_CELL" =some (some (.int 99 KY)))
  {KZ:Tok} (oE:PySem.W.nsIn K mainGlobals "MOST_LONG" =some (some (.int 20 KZ)))
  {CG:Addr} {Q7:Nat} {Q8:Array (Option Value)} {K3 K4:Tok} (xW:PySem.W.nsIn K mainGlobals "MANNERS" =some (some (.ref CG))) (Vb:K.lookup CG=some ⟨.type "tuple",none,.seq #[.str "worth" K3,.str "joins" K4] Q7,Q8⟩)
  (yO:PySem.W.nsIn K mainGlobals "abs" =some none)
  (oF:PySem.W.nsIn K mainGlobals "all" =some none)
  (Ky:PySem.W.nsIn K mainGlobals "bool" =some none)
  (eV:PySem.W.nsIn K mainGlobals "enumerate" =some none)
  (QT:PySem.W.nsIn K mainGlobals "int" =some none)
  (fj:PySem.W.nsIn K mainGlobals "isinstance" =some none)
  (dO:PySem.W.nsIn K mainGlobals "len" =some none)
  (qZ:PySem.W.nsIn K mainGlobals "list" =some none)
  (vg:PySem.W.nsIn K mainGlobals "max" =some none)
  (pU:PySem.W.nsIn K mainGlobals "min" =some none)
  (cL:PySem.W.nsIn K mainGlobals "range" =some none)
  (vh:PySem.W.nsIn K mainGlobals "reversed" =some none)
  (q8:PySem.W.nsIn K mainGlobals "sorted" =some none)
  (cM:PySem.W.nsIn K mainGlobals "tuple" =some none)
  (yP:PySem.W.nsIn K mainGlobals "zip" =some none)
  (Cu:∀d:D,PySem.W.kitOne K (.type (jB d)) (.type "int")=some (yE (jB d)))
  (xX:∀d:D,PySem.W.kitOne K (.type (jB d)) (.type "bool")=some (uN (jB d)))
  (lK:∀d:D,PySem.W.kitOne K (.type (jB d)) (.type "tuple")=some (fW (jB d)))
  (Cv:∀d:D,PySem.W.kitOne K (.type (jB d)) (.type "list")=some (IK (jB d)))
  (K5:DX K "_law_drawn" qR)
  (Hl:DX K "_law_manner" o8)
  (EY:DX K "_law_picture" nJ)
  (Mu:DX K "_law_some" sS)
  (Q9:DX K "_law_way" u5)
  (Ra:DX K "is_whole" u6)
  (Fb:DX K "is_order_row" nM)
  (W9:DX K "is_way" Ad)
  (K6:DX K "place_left" qT)
  (Rb:DX K "seams_in" u9)
  (Vc:DX K "is_line" xK)
  (Vd:DX K "is_cell" xM)
  (Xa:DX K "is_row" Ae)
  (K7:DX K "is_picture" qU)
  (Fd:DX K "need_picture" nO)
  (Ve:DX K "size_of" xO)
  (Mv:DX K "is_orders" sV)
  (Rc:DX K "all_free" vd)
  (Ho:DX K "need_manner" o9)
  (Mw:DX K "order_row" sW)
  (Hq:DX K "cells_along" pq)
  (abM:DX K "gaps" Kr)
  (K8:DX K "join_fares" qW)
  (Xb:DX K "turned" Af)
  (Xc:DX K "worths" Ag)
  (Z9:DX K "fares" Ei)
  (Vf:DX K "fare_of" xQ)
  (abN:DX K "near" Ks)
  (Xd:DX K "onward" Ah)
  (aac:DX K "swept" qg)
  (Mx:DX K "best_ways" iu)
  (Rf:DX K "from_top" vf)
  (Hr:DX K "first_seams" pA)
  (Mz:DX K "least_way" sX)
  (Vg:DX K "without" xT)
  (aad:DX K "taken" Ek)
  (Xe:PySem.W.nsIn K mainGlobals "orders" =some (some (.ref Aq))) (Xf:K.lookup Aq=some ⟨U5,U3,.func (PySem.W.fnOf "orders" "orders" (defArgs iW) (defBody iW) (defScope iW) .none Gy Gz GC Gx xZ GD),U4⟩) (Xg:PySem.W.codeIn K xZ "orders" =true) (Xh:PySem.W.keepIn K (.ref Aq)=true)
  (Ht:DX K "need_orders" pB)
  (K9:DX K "need_width" qY)
  (Hu:DX K "mean_behind" pC)
  (Hv:DX K "widened_row" pD)
  (Vh:DX K "widened" xV)
  (Rg:PySem.W.nsIn K mainGlobals "law" =some (some (.ref Q6))) (acD:K.lookup Q6=some ⟨abL,abJ,.func (PySem.W.fnOf "law" "law" (defArgs pR) (defBody pR) (defScope pR) .none U7 U8 U9 U6 KR Va),abK⟩) (acE:PySem.W.codeIn K KR "law" =true) (acF:PySem.W.keepIn K (.ref Q6)=true)
  (mQ:KB K (PySem.W.fnOf "orders" "orders" (defArgs iW) (defBody iW) (defScope iW) .none Gy Gz GC Gx xZ GD) ["picture","manner"] ["manner"] [.inl 0])
  :∃fd:FuncData,(∀(s:Shared) (v:Value),BindsTo s fd ⟨[v],[]⟩ [("_law_script",v)])/\∀(base:Heap) (c TP:Addr),K.In base->base.Ns mainGlobals mg->nZ base mg c TP->wN K mg "best_ways" c->FnOk l.prog w K mg base CX0 12 fa fd ["_law_script"] (spT [(TP,"best_ways.<locals>.first_ones")] K 1 BR):=by
 obtain⟨abO,aas,yc,La⟩:=K5;obtain⟨aat,aae,vX,Hw⟩:=Hl;obtain⟨aaf,Ys,uz,Fe⟩:=EY;obtain⟨ab1,abP,zx,MF⟩:=Mu;obtain⟨acG,ab2,CJ,Rh⟩:=Q9;obtain⟨acH,ab3,CK,Ri⟩:=Ra;obtain⟨aag,Yt,uD,Fg⟩:=Fb;obtain⟨adt,acU,Lb,Xi⟩:=W9;obtain⟨abQ,aau,yd,Ld⟩:=K6;obtain⟨acI,ab4,CN,Rj⟩:=Rb;obtain⟨acV,acJ,GF,Vi⟩:=Vc;obtain⟨acW,acK,GJ,Vj⟩:=Vd;obtain⟨adu,acX,Le,Xj⟩:=Xa;obtain⟨abR,aav,yg,Lg⟩:=K7;obtain⟨aah,Yu,uE,Fi⟩:=Fd;obtain⟨acY,acL,GK,Vk⟩:=Ve;obtain⟨ab5,abS,zy,MJ⟩:=Mv;obtain⟨acM,ab6,CP,Rk⟩:=Rc;obtain⟨aaw,aai,vY,Hx⟩:=Ho;obtain⟨ab7,abT,zA,MK⟩:=Mw;obtain⟨aax,aaj,vZ,Hy⟩:=Hq;obtain⟨adJ,adB,Vl,abU⟩:=abM;obtain⟨abV,aay,yh,Lh⟩:=K8;obtain⟨adv,acZ,Li,Xk⟩:=Xb;obtain⟨adw,ac0,Lj,Xl⟩:=Xc;obtain⟨adC,adx,PN,aak⟩:=Z9;obtain⟨ac1,acO,GQ,Vm⟩:=Vf;obtain⟨adK,adD,Vn,abW⟩:=abN;obtain⟨ady,ac2,Ln,Xm⟩:=Xd;obtain⟨adE,adz,PX,aal⟩:=aac;obtain⟨ab8,rE,zB,MN⟩:=Mx;obtain⟨acQ,ab9,CQ,Rn⟩:=Rf;obtain⟨aaz,nU,v7,Hz⟩:=Hr;obtain⟨acd,rF,zE,MP⟩:=Mz;obtain⟨ac3,acR,GR,Vo⟩:=Vg;obtain⟨adF,Am,P0,aam⟩:=aad;obtain⟨aaA,aan,v9,HB⟩:=Ht;obtain⟨abX,aaB,yj,Lp⟩:=K9;obtain⟨aaC,aao,wg,HD⟩:=Hu;obtain⟨aaD,aap,wj,HF⟩:=Hv;obtain⟨ac4,acS,GX,Vp⟩:=Vh;have e:=hfa.symm.trans (PySem.W.mg_of X G Rg);cases e;have T:Txt K mg:=⟨⟨_,PySem.W.mg_of X G Ku⟩,⟨_,PySem.W.mg_of X G Kv⟩,⟨_,PySem.W.mg_of X G Kw⟩,⟨_,PySem.W.mg_of X G sY⟩,⟨_,PySem.W.mg_of X G oE⟩,Y5 X G xW Vb (show 2<=sizeLine from z0b (by decide) (z0e dX)) (.cons ⟨_,rfl⟩ (.cons ⟨_,rfl⟩ (.nil))),PySem.W.mg_none_of X G yO,PySem.W.mg_none_of X G oF,PySem.W.mg_none_of X G Ky,PySem.W.mg_none_of X G eV,PySem.W.mg_none_of X G QT,PySem.W.mg_none_of X G fj,PySem.W.mg_none_of X G dO,PySem.W.mg_none_of X G qZ,PySem.W.mg_none_of X G vg,PySem.W.mg_none_of X G pU,PySem.W.mg_none_of X G cL,PySem.W.mg_none_of X G vh,PySem.W.mg_none_of X G q8,PySem.W.mg_none_of X G cM,PySem.W.mg_none_of X G yP,Cu,xX,lK,Cv⟩;have Xn:=fun_mk (st:=iW) Xf Xg Xh;have Yv:=fun_mk (st:=pR) acD acE acF;have Lq:=yc.binds (ps:=["_law_script","_law_k","_law_many"]) λ _ _ _ _ _ _ us hl=>Cm hl λ _ _ _=>rfl;have HJ:=vX.binds (ps:=["_law_script","_law_at"]) λ _ _ _ _ _ _ us hl=>qQ hl λ _ _=>rfl;have Fj:=uz.binds (ps:=["_law_script","_law_at","_law_broad","_law_tall"]) λ _ _ _ _ _ _ us hl=>Uw hl λ _ _ _ _=>rfl;have M4:=zx.binds (ps:=["_law_script","_law_at","_law_broad","_law_tall"]) λ _ _ _ _ _ _ us hl=>Uw hl λ _ _ _ _=>rfl;have Ro:=CJ.binds (ps:=["_law_script","_law_at","_law_broad","_law_tall"]) λ _ _ _ _ _ _ us hl=>Uw hl λ _ _ _ _=>rfl;have Rp:=CK.binds (ps:=["thing"]) λ _ _ _ _ _ _ us hl=>rZ hl λ _=>rfl;have Fl:=uD.binds (ps:=["thing","wide"]) λ _ _ _ _ _ _ us hl=>qQ hl λ _ _=>rfl;have Xo:=Lb.binds (ps:=["thing","wide","high"]) λ _ _ _ _ _ _ us hl=>Cm hl λ _ _ _=>rfl;have Lr:=yd.binds (ps:=["row","number"]) λ _ _ _ _ _ _ us hl=>qQ hl λ _ _=>rfl;have Rq:=CN.binds (ps:=["table"]) λ _ _ _ _ _ _ us hl=>rZ hl λ _=>rfl;have Vq:=GF.binds (ps:=["thing"]) λ _ _ _ _ _ _ us hl=>rZ hl λ _=>rfl;have Vr:=GJ.binds (ps:=["thing"]) λ _ _ _ _ _ _ us hl=>rZ hl λ _=>rfl;have Xp:=Le.binds (ps:=["thing"]) λ _ _ _ _ _ _ us hl=>rZ hl λ _=>rfl;have Ls:=yg.binds (ps:=["thing"]) λ _ _ _ _ _ _ us hl=>rZ hl λ _=>rfl;have Fo:=uE.binds (ps:=["thing"]) λ _ _ _ _ _ _ us hl=>rZ hl λ _=>rfl;have Vs:=GK.binds (ps:=["picture"]) λ _ _ _ _ _ _ us hl=>rZ hl λ _=>rfl;have M5:=zy.binds (ps:=["thing","picture"]) λ _ _ _ _ _ _ us hl=>qQ hl λ _ _=>rfl;have Rr:=CP.binds (ps:=["picture"]) λ _ _ _ _ _ _ us hl=>rZ hl λ _=>rfl;have HN:=vY.binds (ps:=["thing"]) λ _ _ _ _ _ _ us hl=>rZ hl λ _=>rfl;have M6:=zA.binds (ps:=["places","wide"]) λ _ _ _ _ _ _ us hl=>qQ hl λ _ _=>rfl;have HS:=vZ.binds (ps:=["picture","seam"]) λ _ _ _ _ _ _ us hl=>qQ hl λ _ _=>rfl;have abY:=Vl.binds (ps:=["line"]) λ _ _ _ _ _ _ us hl=>rZ hl λ _=>rfl;have Lw:=yh.binds (ps:=["picture","y"]) λ _ _ _ _ _ _ us hl=>qQ hl λ _ _=>rfl;have Xq:=Li.binds (ps:=["picture"]) λ _ _ _ _ _ _ us hl=>rZ hl λ _=>rfl;have Xr:=Lj.binds (ps:=["picture"]) λ _ _ _ _ _ _ us hl=>rZ hl λ _=>rfl;have aaq:=PN.binds (ps:=["picture","manner"]) λ _ _ _ _ _ _ us hl=>qQ hl λ _ _=>rfl
 have Vt:=GQ.binds (ps:=["row","above","place"]) λ _ _ _ _ _ _ us hl=>Cm hl λ _ _ _=>rfl;have abZ:=Vn.binds (ps:=["place","wide"]) λ _ _ _ _ _ _ us hl=>qQ hl λ _ _=>rfl;have Xu:=Ln.binds (ps:=["beneath","row","x"]) λ _ _ _ _ _ _ us hl=>Cm hl λ _ _ _=>rfl;have aar:=PX.binds (ps:=["table","marks","start","gather"]) λ _ _ _ _ _ _ us hl=>Uw hl λ _ _ _ _=>rfl;have tD:=zB.binds (ps:=["table","marks","many"]) λ _ _ _ _ _ _ us hl=>Cm hl λ _ _ _=>rfl;have Rt:=CQ.binds (ps:=["table","rows"]) λ _ _ _ _ _ _ us hl=>qQ hl λ _ _=>rfl;have pG:=v7.binds (ps:=["table","marks","many"]) λ _ _ _ _ _ _ us hl=>Cm hl λ _ _ _=>rfl;have tH:=zE.binds (ps:=["table","marks"]) λ _ _ _ _ _ _ us hl=>qQ hl λ _ _=>rfl;have Vu:=GR.binds (ps:=["rows","seam"]) λ _ _ _ _ _ _ us hl=>qQ hl λ _ _=>rfl;have Eu:=P0.binds (ps:=["picture","many","manner","marks"]) λ _ _ _ _ _ _ us hl=>Uw hl λ _ _ _ _=>rfl;have HW:=v9.binds (ps:=["thing","picture"]) λ _ _ _ _ _ _ us hl=>qQ hl λ _ _=>rfl;have Lx:=yj.binds (ps:=["thing","least","most"]) λ _ _ _ _ _ _ us hl=>Cm hl λ _ _ _=>rfl;have HX:=wg.binds (ps:=["row","place"]) λ _ _ _ _ _ _ us hl=>qQ hl λ _ _=>rfl;have HY:=wj.binds (ps:=["row","numbers","more"]) λ _ _ _ _ _ _ us hl=>Cm hl λ _ _ _=>rfl;have Vv:=GX.binds (ps:=["picture","table","wide"]) λ _ _ _ _ _ _ us hl=>Cm hl λ _ _ _=>rfl;have adL:=Yv.binds (ps:=["_law_script"]) λ _ _ _ _ _ _ us hl=>rZ hl λ _=>rfl;refine⟨PySem.W.fnOf "law" "law" (defArgs pR) (defBody pR) (defScope pR) .none U7 U8 U9 U6 KR Va,λ s v=> .of_eq rfl,λ base cN TP _ _ hB hCI=>?_⟩;have bJ:aX l.prog w K mg base 1 "_law_drawn" 3 bO:=G9 yc (PySem.W.mg_of X G La) Lq T;have pN:aX l.prog w K mg base 2 "_law_manner" 2 jg:=Em vX (PySem.W.mg_of X G Hw) HJ T bJ;have nQ:aX l.prog w K mg base 2 "_law_picture" 4 iG:=Cw uz (PySem.W.mg_of X G Fe) Fj T bJ;have tL:aX l.prog w K mg base 3 "_law_some" 4 kh:=Kz zx (PySem.W.mg_of X G MF) M4 T bJ nQ;have vC:aX l.prog w K mg base 2 "_law_way" 4 mC:=Mj CJ (PySem.W.mg_of X G Rh) Ro T bJ;have dR:aX l.prog w K mg base 1 "is_whole" 1 d7:=Ml CK (PySem.W.mg_of X G Ri) Rp T;have nT:aX l.prog w K mg base 2 "is_order_row" 2 iH:=Cy uD (PySem.W.mg_of X G Fg) Fl T dR;have Aj:aX l.prog w K mg base 2 "is_way" 3 qL:=Uz Lb (PySem.W.mg_of X G Xi) Xo T dR;have q9:aX l.prog w K mg base 1 "place_left" 2 jH:=Hf yd (PySem.W.mg_of X G Ld) Lr T;have vm:aX l.prog w K mg base 2 "seams_in" 1 mD:=Mp CN (PySem.W.mg_of X G Rj) Rq T q9;have lM:aX l.prog w K mg base 1 "is_line" 1 iM:=QV GF (PySem.W.mg_of X G Vi) Vq T;have xY:aX l.prog w K mg base 2 "is_cell" 1 oO:=QW GJ (PySem.W.mg_of X G Vj) Vr T dR;have Ai:aX l.prog w K mg base 3 "is_row" 1 qM:=UG Le (PySem.W.mg_of X G Xj) Xp T xY lM;have iJ:aX l.prog w K mg base 4 "is_picture" 1 gC:=Hg yg (PySem.W.mg_of X G Lg) Ls T lM Ai;have nR:aX l.prog w K mg base 5 "need_picture" 1 iI:=Cz uE (PySem.W.mg_of X G Fi) Fo T iJ;have cR:aX l.prog w K mg base 6 "size_of" 1 dD:=QX GK (PySem.W.mg_of X G Vk) Vs T nR;have ju:aX l.prog w K mg base 7 "is_orders" 2 fX:=KC zy (PySem.W.mg_of X G MJ) M5 T nT Aj vm cR;have vB:aX l.prog w K mg base 1 "all_free" 1 mF:=Ms CP (PySem.W.mg_of X G Rk) Rr T;have pI:aX l.prog w K mg base 1 "need_manner" 1 jh:=En vY (PySem.W.mg_of X G Hx) HN T;have tK:aX l.prog w K mg base 1 "order_row" 2 kj:=KD zA (PySem.W.mg_of X G MK) M6 T;have pH:aX l.prog w K mg base 1 "cells_along" 2 ji:=Eo vZ (PySem.W.mg_of X G Hy) HS T;have rm:aX l.prog w K mg base 1 "gaps" 1 oU:=Z4 Vl (PySem.W.mg_of X G abU) abY T;have rA:aX l.prog w K mg base 2 "join_fares" 2 jJ:=Hh yh (PySem.W.mg_of X G Lh) Lw T rm;have Ak:aX l.prog w K mg base 7 "turned" 1 qN:=UJ Li (PySem.W.mg_of X G Xk) Xq T cR;have Al:aX l.prog w K mg base 8 "worths" 1 qO:=UL Lj (PySem.W.mg_of X G Xl) Xr T rm cR Ak;have Es:aX l.prog w K mg base 9 "fares" 2 nD:=W5 PN (PySem.W.mg_of X G aak) aaq T rA Al;have lN:aX l.prog w K mg base 1 "fare_of" 3 gZ:=QZ GQ (PySem.W.mg_of X G Vm) Vt T;have KH:aX l.prog w K mg base 1 "near" 2 xg:=Z5 Vn (PySem.W.mg_of X G abW) abZ T;have rC:aX l.prog w K mg base 2 "onward" 3 nF:=UW Ln (PySem.W.mg_of X G Xm) Xu T lN KH
 have ux:=W7 (P:=l.prog) (w:=w) (base:=base) PX (PySem.W.mg_of X G aal) aar T rC;have tu:=KN (P:=l.prog) (w:=w) (base:=base) zB (PySem.W.mg_of X G MN) T ux  hB hCI;have vo:aX l.prog w K mg base 2 "from_top" 2 mH:=Mt CQ (PySem.W.mg_of X G Rn) Rt T lN;have pF:=Er (P:=l.prog) (w:=w) (base:=base) v7 (PySem.W.mg_of X G Hz) T tu tD vo;have tE:=KQ (P:=l.prog) (w:=w) (base:=base) zE (PySem.W.mg_of X G MP) T pF pG;have sy:aX l.prog w K mg base 1 "without" 2 lH:=Q0 GR (PySem.W.mg_of X G Vo) Vu T;have Et:=W8 (P:=l.prog) (w:=w) (base:=base) P0 (PySem.W.mg_of X G aam) T pH Es tE tH sy;have Ao:=U0 (P:=l.prog) (w:=w) (base:=base) Xn (PySem.W.mg_of X G Xe) T vB pI tK cR Et Eu;have pK:aX l.prog w K mg base 8 "need_orders" 2 jj:=Ew v9 (PySem.W.mg_of X G HB) HW T ju;have rG:aX l.prog w K mg base 2 "need_width" 3 jK:=Hj yj (PySem.W.mg_of X G Lp) Lx T dR;have pJ:aX l.prog w K mg base 1 "mean_behind" 2 jk:=Ey wg (PySem.W.mg_of X G HD) HX T;have pL:aX l.prog w K mg base 2 "widened_row" 3 jm:=Ez wj (PySem.W.mg_of X G HF) HY T pJ;have sE:aX l.prog w K mg base 9 "widened" 3 jL:=Q5 GX (PySem.W.mg_of X G Vp) Vv T pK rG pL;have acT:=ok_law (P:=l.prog) (w:=w) (base:=base) Yv (PySem.W.mg_of X G Rg) T bJ pN tL vC ju iJ Ao cR sE mQ;obtain⟨f',ok',hm',_⟩:=acT;cases (PySem.W.mg_of X G Rg).symm.trans hm';exact ok'
end wX
namespace wX
open PySem PySem.Spec L2 Pu
theorem walk {l:PySem.W.OpenLaw} {q:Program} {loose:List Str} {XP:(Str->Option Value)->Heap->Prop} {YP:World->Heap->Prop} {d:DefRec} {K:Params->PySem.W.Frag} (hn:l.most=some 63) (hdf:d.params.defaults=[])
  (hY:∀(w:World) (h:Heap),YP w h->(K w.params).In h) (hnt:∀w:World,PySem.W.noTabs (K w.params)=true) (hrec:∃dy,(PyProof.Rows.recsOf q).find? (λ e:DefRec=>e.name ==("best_ways" :Str))=some dy)
  (F:∀(w:World) (mg:Str->Option Value) (fa:Addr) (h:Heap),(K w.params).In h->h.Ns mainGlobals mg->mg d.name=some (.ref fa)->
   ∃fd:FuncData,(∀(s:Shared) (u:Value),BindsTo s fd ⟨[u],[]⟩ [("_law_script",u)])/\∀(base:Heap) (c T:Addr),(K w.params).In base->base.Ns mainGlobals mg->nZ base mg c T->wN (K w.params) mg "best_ways" c->FnOk l.prog w (K w.params) mg base CX0 12 fa fd ["_law_script"] (spT [(T,"best_ways.<locals>.first_ones")] (K w.params) 1 BR)):
  PySem.W.WalkO q loose XP YP l.row.toRowW d [] (λ f vs=>PySem.call f vs):=
 Pu.acu (n:=63) (k:=12) (x:= "_law_script") (y:= "best_ways") (q:= "best_ways.<locals>.first_ones") (FL:=BR) hn (by decide) hdf ⟨rfl,by decide,by decide⟩ hY hnt (by obtain⟨dy,e⟩:=hrec;exact⟨dy,List.mem_of_find?_eq_some e,beq_iff_eq.mp (List.find?_some (p:=λ e:DefRec=>e.name ==("best_ways" :Str)) e)⟩) F W3
end wX
namespace PySem.W.Fast
theorem tw561225071450921473:True:=trivial
theorem tw8609824413402180265:True:=trivial
theorem tw5688407673395943804:True:=trivial
theorem tw2556323273384301764:True:=trivial
theorem tw9384150721042880902:True:=trivial
theorem tw4052453633121688669:True:=trivial
theorem tw188774097376917493:True:=trivial
theorem tw102692776567447378:True:=trivial
theorem tw17892791447367301642:True:=trivial
theorem tw5889281660926905668:True:=trivial
theorem tw13773295709522140934:True:=trivial
theorem tw11825594826151217039:True:=trivial
theorem tw15325434013268797434:True:=trivial
theorem tw6674017431576119220:True:=trivial
theorem tw4637909997645942665:True:=trivial
theorem tw18243287761212052178:True:=trivial
theorem tw485442545570316632:True:=trivial
theorem tw17809418675249438294:True:=trivial
theorem tw12985551704612888856:True:=trivial
theorem tw491429113761865681:True:=trivial
theorem tw14519977676057236448:True:=trivial
theorem tw7834499721028492105:True:=trivial
theorem tw15614212181250145114:True:=trivial
theorem tw7440698382032263499:True:=trivial
end PySem.W.Fast
open PySem PySem.W PyProof.Rows
set_option bootstrap.genMatcherCode true
set_option compiler.extract_closed true
set_option maxRecDepth 100000 in
set_option maxHeartbeats 0 in
theorem PySem.Challenge.cw_seamhall_k43_widened_holds : PySem.Challenge.rw_seamhall_k43_widened.Holds := by
 w_on;o_law;k_head;(case hw=>w_witness2)
 k_fill
 refine wX.walk (l:=PySem.Challenge.rw_seamhall_k43_widened) rfl rfl (λ w h Y=>PySem.W.km_in_of Y) ?nt ?rec ?F
 case nt=>intro w;kernel_rfl
 case rec=>exact⟨_,rfl⟩
 case F=>
  intro w mg fa h KX G hmg
  refine' wX.all_mk KX G hmg ?_ ?_ ?_ ?_ ?_ ?_ ?_ ?_ ?_ ?_ ?_ ?_ ?_ ?_ ?_ ?_ ?_ ?_ ?_ ?_ ?_ ?_ ?Cu ?xX ?lK ?Cv ?_ ?_ ?_ ?_ ?_ ?_ ?_ ?_ ?_ ?_ ?_ ?_ ?_ ?_ ?_ ?_ ?_ ?_ ?_ ?_ ?_ ?_ ?_ ?_ ?_ ?_ ?_ ?_ ?_ ?_ ?_ ?_ ?_ ?_ ?_ ?_ ?_ ?_ ?_ ?_ ?_ ?_ ?_ ?_ ?_ ?_ ?_ ?_ ?_ ?mQ
  all_goals try first |k_is |(refine' wX.acC ?qa ?ql ?qc ?qp;(case qa=>k_is);(case ql=>k_is);(case qc=>k_is);(case qp=>k_is))
  (case Cu=>intro d;cases d;(show PySem.W.kitOne _ (Value.type "NoneType") (Value.type "int")=some false);kit_is;(show PySem.W.kitOne _ (Value.type "bool") (Value.type "int")=some true);kit_is;(show PySem.W.kitOne _ (Value.type "int") (Value.type "int")=some true);kit_is;(show PySem.W.kitOne _ (Value.type "str") (Value.type "int")=some false);kit_is;(show PySem.W.kitOne _ (Value.type "tuple") (Value.type "int")=some false);kit_is;(show PySem.W.kitOne _ (Value.type "list") (Value.type "int")=some false);kit_is)
  (case xX=>intro d;cases d;(show PySem.W.kitOne _ (Value.type "NoneType") (Value.type "bool")=some false);kit_is;(show PySem.W.kitOne _ (Value.type "bool") (Value.type "bool")=some true);kit_is;(show PySem.W.kitOne _ (Value.type "int") (Value.type "bool")=some false);kit_is;(show PySem.W.kitOne _ (Value.type "str") (Value.type "bool")=some false);kit_is;(show PySem.W.kitOne _ (Value.type "tuple") (Value.type "bool")=some false);kit_is;(show PySem.W.kitOne _ (Value.type "list") (Value.type "bool")=some false);kit_is)
  (case lK=>intro d;cases d;(show PySem.W.kitOne _ (Value.type "NoneType") (Value.type "tuple")=some false);kit_is;(show PySem.W.kitOne _ (Value.type "bool") (Value.type "tuple")=some false);kit_is;(show PySem.W.kitOne _ (Value.type "int") (Value.type "tuple")=some false);kit_is;(show PySem.W.kitOne _ (Value.type "str") (Value.type "tuple")=some false);kit_is;(show PySem.W.kitOne _ (Value.type "tuple") (Value.type "tuple")=some true);kit_is;(show PySem.W.kitOne _ (Value.type "list") (Value.type "tuple")=some false);kit_is)
  (case Cv=>intro d;cases d;(show PySem.W.kitOne _ (Value.type "NoneType") (Value.type "list")=some false);kit_is;(show PySem.W.kitOne _ (Value.type "bool") (Value.type "list")=some false);kit_is;(show PySem.W.kitOne _ (Value.type "int") (Value.type "list")=some false);kit_is;(show PySem.W.kitOne _ (Value.type "str") (Value.type "list")=some false);kit_is;(show PySem.W.kitOne _ (Value.type "tuple") (Value.type "list")=some false);kit_is;(show PySem.W.kitOne _ (Value.type "list") (Value.type "list")=some true);kit_is)
  (case mQ=>intro s us ws i hl hw;have h0:us.length=1:=(by simp only[List.length_cons,List.length_nil] at hl;omega);clear hl;obtain⟨u0,us0,rfl,h1⟩:=Pu.Ja h0;clear h0;cases Pu.len0 h1;have g0:ws.length=1:=hw;clear hw;obtain⟨w0,ws0,rfl,g1⟩:=Pu.Ja g0;clear g0;cases Pu.len0 g1;exact PySem.W.kp_binds i (λ S=>rfl))
