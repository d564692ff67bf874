import PyProof.Rows.All
import Wide.All
import OpenK.AllK
import Wide.FinOn
import Lean
import PyProof.EqAt
import PyProof.EqKinds
import PyProof.TupleCall
import PyProof.NeKinds
import PySem.Challenge.RW_seamhall_k01_pictures
set_option Elab.async false
set_option linter.all false
set_option maxRecDepth 100000
set_option maxHeartbeats 4000000
namespace L2
open PySem PySem.Spec PyProof.Rows
abbrev Key := Sum Int Str
def keyIs : Key → Value → Bool
  | .inl k, v => Value.isInt k v
  | .inr x, v => Value.isStrOf x v
def keyH (w : World) : Key → Int
  | .inl k => hashInt k
  | .inr x => hashStr w x
theorem keyIs_shape : ∀ {k : Key} {v : Value}, keyIs k v = true → (∃ i t, k = Sum.inl i ∧ v = Value.int i t) ∨ (∃ x t, k = Sum.inr x ∧ v = Value.str x t)
  | .inl i, v, h => by
    obtain ⟨t, e⟩ := Value.isInt_shape (k := i) (v := v) h
    exact .inl ⟨i, t, rfl, e⟩
  | .inr x, v, h => by
    obtain ⟨t, e⟩ := Value.isStrOf_shape (x := x) (v := v) h
    exact .inr ⟨x, t, rfl, e⟩
theorem keyIs_int (i : Int) (t : Tok) : keyIs (.inl i) (.int i t) = true := by simp [keyIs, Value.isInt]
theorem keyIs_str (x : Str) (t : Tok) : keyIs (.inr x) (.str x t) = true := by simp [keyIs, Value.isStrOf]
theorem key_ll (a b : Int) : decide ((Sum.inl a : Key) = Sum.inl b) = (a == b) := by
  by_cases e : a = b
  · subst e; simp
  · have h : ¬ (Sum.inl a : Key) = Sum.inl b := fun q => e (Sum.inl.inj q)
    rw [decide_eq_false h]
    exact (beq_eq_false_iff_ne.mpr e).symm
theorem key_rr (a b : Str) : decide ((Sum.inr a : Key) = Sum.inr b) = decide (a = b) := by
  by_cases e : a = b
  · subst e; simp
  · have h : ¬ (Sum.inr a : Key) = Sum.inr b := fun q => e (Sum.inr.inj q)
    rw [decide_eq_false h, decide_eq_false e]
theorem key_lr (a : Int) (b : Str) : decide ((Sum.inl a : Key) = Sum.inr b) = false := decide_eq_false (fun q => nomatch q)
theorem key_rl (a : Str) (b : Int) : decide ((Sum.inr a : Key) = Sum.inl b) = false := decide_eq_false (fun q => nomatch q)
def mixKind (prog : Program) (w : World) : PySem.KeyKind prog w Key where
  is := keyIs
  hash := keyH w
  inj := fun v a b ha hb => by
    rcases keyIs_shape ha with ⟨i, t, rfl, rfl⟩ | ⟨x, t, rfl, rfl⟩
    · rcases keyIs_shape hb with ⟨j, u, rfl, e⟩ | ⟨y, u, rfl, e⟩
      · injection e with e1 _; rw [e1]
      · exact nomatch e
    · rcases keyIs_shape hb with ⟨j, u, rfl, e⟩ | ⟨y, u, rfl, e⟩
      · exact nomatch e
      · injection e with e1 _; rw [e1]
  byValue := fun k v h => by
    rcases keyIs_shape h with ⟨i, t, rfl, rfl⟩ | ⟨x, t, rfl, rfl⟩ <;> rfl
  pyHash := fun hv h => by
    rcases keyIs_shape hv with ⟨i, t, rfl, rfl⟩ | ⟨x, t, rfl, rfl⟩
    · exact wpAny_pyHash_int h
    · exact wpAny_pyHash_str h
  eqBool := fun hu hv h => by
    rcases keyIs_shape hu with ⟨i, t, rfl, rfl⟩ | ⟨x, t, rfl, rfl⟩
    · rcases keyIs_shape hv with ⟨j, u, rfl, rfl⟩ | ⟨y, u, rfl, rfl⟩
      · rw [key_ll] at h; exact wpAny_eqBool_int h
      · rw [key_lr] at h; exact SeqAt.EqAt.int_str i t y u _ _ _ _ h
    · rcases keyIs_shape hv with ⟨j, u, rfl, rfl⟩ | ⟨y, u, rfl, rfl⟩
      · rw [key_rl] at h; exact SeqAt.EqAt.str_int x t j u _ _ _ _ h
      · rw [key_rr] at h; exact wpAny_eqBool_str h
  «strs» := fun k x t v h => by
    rcases keyIs_shape h with ⟨i, u, rfl, e⟩ | ⟨y, u, rfl, e⟩
    · exact nomatch e
    · injection e with e1 _
      subst e1
      cases v <;> rfl
theorem mixKind_int (prog : Program) (w : World) (i : Int) (t : Tok) : (mixKind prog w).is (.inl i) (.int i t) = true := keyIs_int i t
theorem mixKind_str (prog : Program) (w : World) (x : Str) (t : Tok) : (mixKind prog w).is (.inr x) (.str x t) = true := keyIs_str x t
end L2
namespace L2
open PySem PySem.Spec PyProof.Rows
inductive V where
  | non | bl (b : Bool) | int (i : Int) | str (x : Str) | byt (b : Array UInt8) | flt (b : UInt64) | ref (a : Addr) | ty (n : String)
  deriving DecidableEq
def RelV : V → Value → Prop
  | .non, u => u = Value.none
  | .bl b, u => u = Value.bool b
  | .int i, u => ∃ t, u = Value.int i t
  | .str x, u => ∃ t, u = Value.str x t
  | .byt b, u => ∃ t, u = Value.bytes b t
  | .flt b, u => ∃ t, u = Value.float b t
  | .ref a, u => u = Value.ref a
  | .ty n, u => u = Value.type n
abbrev Vals : List V → List Value → Prop := Paired RelV
theorem Vals.length {xs : List V} {us : List Value} (r : Vals xs us) : xs.length = us.length := Paired.length r
theorem Vals.get : ∀ {xs : List V} {us : List Value} {i : Nat} {x : V}, Vals xs us → xs[i]? = some x → ∃ u, us[i]? = some u ∧ RelV x u
  | _, _, _, _, .nil, e => by simp at e
  | _, _, 0, _, .cons r _, e => by simp at e; subst e; exact ⟨_, rfl, r⟩
  | _, _, i + 1, x, .cons _ t, e => by
    obtain ⟨u, h1, h2⟩ := Vals.get (i := i) (x := x) t (by simpa using e)
    exact ⟨u, by simpa using h1, h2⟩
theorem Vals.set {x : V} {u : Value} (r : RelV x u) : ∀ {xs : List V} {us : List Value} (i : Nat), Vals xs us → Vals (xs.set i x) (us.set i u)
  | _, _, _, .nil => .nil
  | _, _, 0, .cons _ t => .cons r t
  | _, _, i + 1, .cons q t => .cons q (Vals.set r i t)
theorem Vals.append : ∀ {xs ys : List V} {us ws : List Value}, Vals xs us → Vals ys ws → Vals (xs ++ ys) (us ++ ws)
  | _, _, _, _, .nil, s => s
  | _, _, _, _, .cons r t, s => .cons r (Vals.append t s)
theorem Vals.take : ∀ {xs : List V} {us : List Value} (n : Nat), Vals xs us → Vals (xs.take n) (us.take n)
  | _, _, 0, _ => .nil
  | _, _, _ + 1, .nil => .nil
  | _, _, n + 1, .cons r t => .cons r (Vals.take n t)
theorem Vals.drop : ∀ {xs : List V} {us : List Value} (n : Nat), Vals xs us → Vals (xs.drop n) (us.drop n)
  | _, _, 0, r => r
  | _, _, _ + 1, .nil => .nil
  | _, _, n + 1, .cons _ t => Vals.drop n t
def RelO : Option V → Option Value → Prop
  | some v, some u => RelV v u
  | none, none => True
  | _, _ => False
def KV {κ : Type} : List (κ × V) → List (κ × Value) → Prop := Paired fun (p : κ × V) (q : κ × Value) => p.1 = q.1 ∧ RelV p.2 q.2
def kV : Key → V
  | .inl i => .int i
  | .inr x => .str x
inductive HO where
  /-- a list -/
  | lst (xs : List V)
  /-- a tuple (never changes) -/
  | tup (xs : List V)
  /-- a dict whose keys are ints and texts; one whose keys are tuples of ints and texts (the empty one is both) -/
  | dK (kvs : List (Key × V)) | dT (kvs : List (List Key × V))
  /-- a set of ints: its members, its size -/
  | set (S : Int → Bool) (n : Nat)
  /-- an instance of the class at C, its dict at dx, its attributes -/
  | ins (C dx : Addr) (fs : List (Str × V))
  /-- the dict of the instance at x -/
  | own (x : Addr)
  /-- the dict of an exception -/
  | xd (fs : List (Str × V))
  /-- a bound method, f of x -/
  | met (f x : Addr)
  /-- a range object lo, lo + 1, .. below hi -/
  | rng (lo hi : Int)
  /-- a thing that is known to the object (the script; a dict while a loop walks it): read, never written while it is so -/
  | frz (o : Obj) (u : HO)
  /-- a code object's table -/
  | tbl (ps : Array Value)
  /-- any other thing, by what is true of its one object (a def of one's own: SetO a S n := HO.ext fun h => ..) -/
  | ext (φ : Heap → Prop)
abbrev Hp := Addr → Option HO
def upd (H : Hp) (a : Addr) (o : HO) : Hp := fun b => if b = a then some o else H b
theorem upd_same {H : Hp} {a : Addr} {o : HO} : upd H a o a = some o := by unfold upd; rw [if_pos rfl]
theorem upd_ne {H : Hp} {a b : Addr} {o : HO} (h : b ≠ a) : upd H a o b = H b := by unfold upd; rw [if_neg h]
theorem ne_of {H : Hp} {a b : Addr} {o u : HO} (h : H a = some o) (h' : H b = some u) (d : o ≠ u) : a ≠ b := by
  intro e; subst e; rw [h] at h'; exact d (Option.some.inj h')
theorem ne_of_none {H : Hp} {a b : Addr} {o : HO} (h : H a = some o) (h' : H b = none) : a ≠ b := by
  intro e; subst e; rw [h] at h'; cases h'
section
variable (P : Program) (w : World)
def ObjOk (H : Hp) (h : Heap) (a : Addr) : HO → Prop
  | .lst xs => xs.length ≤ sizeLine ∧ ∃ (its : List Value) (n : Nat), Vals xs its ∧ h.get? a = some { cls := .type "list", data := .seq its.toArray n }
  | .tup xs => xs.length ≤ sizeLine ∧ ∃ its : List Value, Vals xs its ∧ IsTup h a its.toArray
  | .dK kvs => kvs.length ≤ sizeLine ∧ (a == sysModules) = false ∧ ∃ vs, KV kvs vs ∧ h.DictOf (mixKind P w) a vs
  | .dT kvs => kvs.length ≤ sizeLine ∧ (a == sysModules) = false ∧ ∃ xs : List (List Key × Addr × Value),
      Paired (fun (p : List Key × V) (q : List Key × Addr × Value) => p.1 = q.1 ∧ H q.2.1 = some (.tup (p.1.map kV)) ∧ RelV p.2 q.2.2) kvs xs ∧
      ∃ o es ep, h.get? a = some o ∧ o.ExactDict ∧ o.data = .dict es ep ∧ es.toList = xs.map (entryOfKey (tupleKind (mixKind P w))) ∧ (xs.map (·.1)).Nodup
  | .set S n => h.SetOf (intKind P w) a S n
  | .ins C dx fs => H dx = some (.own a) ∧ fs.length ≤ 1000 ∧ dx ≠ a ∧ h.get? a = some (PySem.W.instObj C dx) ∧
      ∃ mA, h.Ns1 dx mA ∧ (∀ f, RelO (fs.lookup f) (mA f)) ∧ PySem.Within mA (fs.map (·.1))
  | .own _ => ∃ o, h.get? a = some o
  | .xd fs => ∃ mA, h.Ns1 a mA ∧ ∀ f, RelO (fs.lookup f) (mA f)
  | .rng lo hi => ∃ t u v, h.get? a = some { cls := .type "range", data := .fields #[.int lo t, .int hi u, .int 1 v] }
  | .frz o u => h.get? a = some o ∧ ObjOk H h a u
  | .tbl ps => ∃ qs : Array Value, h.get? a = some (PySem.W.tabObj qs) ∧ TriplesOk qs.toList ∧ ∀ pos cv, codeAmong pos qs.toList = some cv → ∃ c oc vs q t tq, cv = .ref c ∧ H c = some (.frz oc (.own c)) ∧ oc.data = .fields vs ∧ vs[1]? = some (.str q t) ∧ ps[0]? = some (.str q tq)
  | .met f x => h.get? a = some (PySem.W.methodObj (.ref f) (.ref x))
  | .ext φ => φ h ∧ (∃ o, h.get? a = some o) ∧ ∀ h1 h2 : Heap, φ h1 → (∀ o, h1.get? a = some o → h2.get? a = some o) → φ h2
def HOk (H : Hp) (h : Heap) : Prop := ∀ a o, H a = some o → ObjOk P w H h a o
end
section
variable {P : Program} {w : World} {H H' : Hp} {h h' : Heap} {a : Addr} {o : HO}
theorem ObjOk.lt (x : ObjOk P w H h a o) : a < h.objs.size := by
  cases o with
  | lst xs => obtain ⟨_, _, _, _, e⟩ := x; exact Heap.lt_size e
  | tup xs => obtain ⟨_, _, _, p⟩ := x; exact p.lt
  | dK kvs => obtain ⟨_, _, _, _, o, _, _, e, _⟩ := x; exact Heap.lt_size e
  | dT kvs => obtain ⟨_, _, _, _, o, _, _, e, _⟩ := x; exact Heap.lt_size e
  | set S n => obtain ⟨o, _, _, _, e, _⟩ := x; exact Heap.lt_size e
  | ins C dx fs => obtain ⟨_, _, _, e, _⟩ := x; exact Heap.lt_size e
  | own y => obtain ⟨_, e⟩ := x; exact Heap.lt_size e
  | xd fs => obtain ⟨_, ⟨_, _, _, e, _⟩, _⟩ := x; exact Heap.lt_size e
  | rng lo hi => obtain ⟨_, _, _, e⟩ := x; exact Heap.lt_size e
  | frz ob u => obtain ⟨e, _⟩ := x; exact Heap.lt_size e
  | tbl ps => obtain ⟨_, e, _⟩ := x; exact Heap.lt_size e
  | met f y => exact Heap.lt_size (show h.get? a = some _ from x)
  | ext φ => obtain ⟨_, ⟨_, e⟩, _⟩ := x; exact Heap.lt_size e
theorem Paired.mapP {α β : Type} {F G : α → β → Prop} : ∀ {l₁ : List α} {l₂ : List β}, Paired F l₁ l₂ → (∀ a b, F a b → G a b) → Paired G l₁ l₂
  | _, _, .nil, _ => .nil
  | _, _, .cons r t, f => .cons (f _ _ r) (Paired.mapP t f)
theorem ObjOk.stay (x : ObjOk P w H h a o) (k : ∀ b u, (b = a ∨ H b = some (.own a)) → h.get? b = some u → h'.get? b = some u)
    (ho : ∀ b, H b = some (.own a) → H' b = some (.own a)) (ht : ∀ b xs, H b = some (.tup xs) → H' b = some (.tup xs)) (hz : ∀ b o u, (∃ vs, o.data = .fields vs) → H b = some (.frz o u) → H' b = some (.frz o u)) : ObjOk P w H' h' a o := by
  induction o with
  | lst xs => obtain ⟨z, its, n, r, e⟩ := x; exact ⟨z, its, n, r, k _ _ (.inl rfl) e⟩
  | tup xs => obtain ⟨z, its, r, ob, e, c⟩ := x; exact ⟨z, its, r, ob, k _ _ (.inl rfl) e, c⟩
  | dK kvs => obtain ⟨z, y, vs, r, ob, es, ep, e, c⟩ := x; exact ⟨z, y, vs, r, ob, es, ep, k _ _ (.inl rfl) e, c⟩
  | dT kvs =>
    obtain ⟨z, y, xs, r, ob, es, ep, e, c⟩ := x
    exact ⟨z, y, xs, Paired.mapP r fun p q z => ⟨z.1, ht _ _ z.2.1, z.2.2⟩, ob, es, ep, k _ _ (.inl rfl) e, c⟩
  | set S n => obtain ⟨ob, es, ep, t, e, c⟩ := x; exact ⟨ob, es, ep, t, k _ _ (.inl rfl) e, c⟩
  | ins C dx fs =>
    obtain ⟨d, z, ne, e, mA, ⟨od, es, ep, e2, c⟩, r⟩ := x
    exact ⟨ho _ d, z, ne, k _ _ (.inl rfl) e, mA, ⟨od, es, ep, k _ _ (.inr d) e2, c⟩, r⟩
  | own y => obtain ⟨ob, e⟩ := x; exact ⟨ob, k _ _ (.inl rfl) e⟩
  | xd fs => obtain ⟨mA, ⟨od, es, ep, e, c⟩, r⟩ := x; exact ⟨mA, ⟨od, es, ep, k _ _ (.inl rfl) e, c⟩, r⟩
  | rng lo hi => obtain ⟨t, u, v, e⟩ := x; exact ⟨t, u, v, k _ _ (.inl rfl) e⟩
  | frz ob u ih => obtain ⟨e, q⟩ := x; exact ⟨k _ _ (.inl rfl) e, ih q⟩
  | tbl ps =>
    obtain ⟨qs, e, tr, al⟩ := x
    exact ⟨qs, k a _ (.inl rfl) e, tr, fun p cv z => let ⟨c, oc, vs, q, t, tq, e1, e2, e3, r⟩ := al p cv z; ⟨c, oc, vs, q, t, tq, e1, hz _ _ _ ⟨vs, e3⟩ e2, e3, r⟩⟩
  | met f y =>
    have e : h.get? a = some (PySem.W.methodObj (.ref f) (.ref y)) := x
    show h'.get? a = some (PySem.W.methodObj (.ref f) (.ref y))
    exact k a _ (.inl rfl) e
  | ext φ => obtain ⟨p, ⟨o, e⟩, st⟩ := x; exact ⟨st _ _ p fun o q => k _ _ (.inl rfl) q, ⟨o, k _ _ (.inl rfl) e⟩, st⟩
theorem HOk.lt (x : HOk P w H h) (e : H a = some o) : a < h.objs.size := (x a o e).lt
theorem HOk.fresh (x : HOk P w H h) (e : h.objs.size ≤ a) : H a = none := by
  cases q : H a with
  | none => rfl
  | some u => exact absurd (Nat.lt_of_lt_of_le (x.lt q) e) (Nat.lt_irrefl _)
theorem HOk.kept (x : HOk P w H h) (k : ∀ b u, h.get? b = some u → h'.get? b = some u) : HOk P w H h' := fun a o e =>
  (x a o e).stay (fun b u _ q => k b u q) (fun _ q => q) (fun _ _ q => q) fun _ _ _ _ q => q
theorem HOk.laid (x : HOk P w H h) (k : ∀ b u, h.get? b = some u → h'.get? b = some u) (hp : h.objs.size ≤ a) (new : ObjOk P w (upd H a o) h' a o) : HOk P w (upd H a o) h' := fun b u e => by
  have hn := x.fresh hp
  by_cases hb : b = a
  · subst hb; rw [upd_same] at e; cases e; exact new
  · rw [upd_ne hb] at e
    exact (x b u e).stay (fun c v _ q => k c v q) (fun c q => by rw [upd_ne (ne_of_none q hn)]; exact q) (fun c xs q => by rw [upd_ne (ne_of_none q hn)]; exact q) fun c _ _ _ q => by rw [upd_ne (ne_of_none q hn)]; exact q
end
def Rd (H : Hp) (a : Addr) (u : HO) : Prop := H a = some u ∨ ∃ o, H a = some (.frz o u)
theorem Rd.of {H : Hp} {a : Addr} {u : HO} (h : H a = some u) : Rd H a u := .inl h
theorem Rd.ok {P : Program} {w : World} {H : Hp} {h : Heap} {a : Addr} {u : HO} (r : Rd H a u) (x : HOk P w H h) : ObjOk P w H h a u := by
  rcases r with r | ⟨o, r⟩
  · exact x a u r
  · obtain ⟨_, q⟩ := x a _ r
    exact q
def Mut : Option HO → Prop
  | some (.lst _) => True
  | some (.dK _) => True
  | some (.dT _) => True
  | some (.set _ _) => True
  | some (.ins _ _ _) => True
  | some (.ext _) => True
  | _ => False
section
variable {P : Program} {w : World} {H : Hp} {h h' : Heap} {x e : Addr} {o' : HO}
theorem HOk.write (ok : HOk P w H h) (mu : Mut (H x)) (he : e = x ∨ H e = some (.own x)) (k : ∀ b u, b ≠ e → h.get? b = some u → h'.get? b = some u) (heo : ∃ u, h'.get? e = some u)
    (new : ObjOk P w (upd H x o') h' x o') : HOk P w (upd H x o') h' := fun b u q => by
  have nown : ∀ c y, H c = some (.own y) → c ≠ x := fun c y r z => by subst z; rw [r] at mu; exact mu
  have ntup : ∀ c xs, H c = some (.tup xs) → c ≠ x := fun c xs r z => by subst z; rw [r] at mu; exact mu
  by_cases hb : b = x
  · subst hb; rw [upd_same] at q; cases q; exact new
  · rw [upd_ne hb] at q
    by_cases hbe : b = e
    · have q' : H b = some (.own x) := by
        rcases he with z | z
        · exact absurd (hbe.trans z) hb
        · rw [hbe]; exact z
      rw [q] at q'; cases q'
      obtain ⟨v, hv⟩ := heo
      exact ⟨v, by rw [hbe]; exact hv⟩
    · refine (ok b u q).stay (fun c v hc r => k c v ?_ r) (fun c r => by rw [upd_ne (nown c b r)]; exact r) (fun c xs r => by rw [upd_ne (ntup c xs r)]; exact r) fun c o1 u1 _ r => by rw [upd_ne (fun z => by rw [z] at r; rw [r] at mu; exact mu)]; exact r
      rcases hc with rfl | hc
      · exact hbe
      · rintro rfl
        rcases he with z | z
        · exact nown c b hc z
        · rw [hc] at z; cases z; exact hb rfl
end
structure Un (fs ex : List Addr) (H H' : Hp) (h h' : Heap) : Prop where
  keep : ∀ b o, h.get? b = some o → H b = none → b ∉ fs → b ∉ ex → h'.get? b = some o
  slot : ∀ b o, h.get? b = some o → H b = none → b ∈ fs → b ∉ ex → ∃ sl, h'.get? b = some { o with slots := sl }
  free : ∀ b o, h.get? b = some o → H b = none → b ∉ ex → H' b = none
  there : ∀ b o, h.get? b = some o → b ∉ ex → ∃ o', h'.get? b = some o'
  tups : ∀ b xs, H b = some (.tup xs) → H' b = some (.tup xs)
  frzs : ∀ b o u, H b = some (.frz o u) → H' b = some (.frz o u)
  tbls : ∀ b ps, H b = some (.tbl ps) → ∃ more, H' b = some (.tbl (ps ++ more))
section
variable {fs fs' ex ex' : List Addr} {H H1 H2 : Hp} {h h1 h2 h' : Heap} {a x e : Addr} {o : HO}
theorem Un.any (u : Un fs ex H H1 h h1) {b : Addr} {ob : Obj} (q : h.get? b = some ob) (n : H b = none) (hx : b ∉ ex) : ∃ sl, h1.get? b = some { ob with slots := sl } := by
  by_cases hb : b ∈ fs
  · exact u.slot b ob q n hb hx
  · exact ⟨ob.slots, u.keep b ob q n hb hx⟩
theorem Un.trans (a : Un fs ex H H1 h h1) (b : Un fs ex H1 H2 h1 h2) : Un fs ex H H2 h h2 where
  keep := fun c ob q n hc hx => b.keep c ob (a.keep c ob q n hc hx) (a.free c ob q n hx) hc hx
  slot := fun c ob q n hc hx => by
    obtain ⟨sl, e1⟩ := a.slot c ob q n hc hx
    obtain ⟨sl', e2⟩ := b.slot c _ e1 (a.free c ob q n hx) hc hx
    exact ⟨sl', e2⟩
  free := fun c ob q n hx => by
    obtain ⟨o', e1⟩ := a.there c ob q hx
    exact b.free c o' e1 (a.free c ob q n hx) hx
  there := fun c ob q hx => by
    obtain ⟨o', e1⟩ := a.there c ob q hx
    exact b.there c o' e1 hx
  tups := fun c xs q => b.tups c xs (a.tups c xs q)
  frzs := fun c ob xs q => b.frzs c ob xs (a.frzs c ob xs q)
  tbls := fun c ps q => by
    obtain ⟨m1, e1⟩ := a.tbls c ps q
    obtain ⟨m2, e2⟩ := b.tbls c _ e1
    exact ⟨m1 ++ m2, by rw [e2, Array.append_assoc]⟩
theorem Un.kept (k : ∀ b u, h.get? b = some u → h'.get? b = some u) : Un fs ex H H h h' :=
  ⟨fun b ob q _ _ _ => k b ob q, fun b ob q _ _ _ => ⟨ob.slots, k b ob q⟩, fun _ _ _ n _ => n, fun b ob q _ => ⟨ob, k b ob q⟩, fun _ _ q => q, fun _ _ _ q => q, fun _ ps q => ⟨#[], by rw [q]; simp⟩⟩
theorem Un.refl : Un fs ex H H h h := Un.kept fun _ _ q => q
theorem Un.laid (k : ∀ b u, h.get? b = some u → h'.get? b = some u) (hp : h.objs.size ≤ a) (hn : H a = none) : Un fs ex H (upd H a o) h h' where
  keep := fun b u q _ _ _ => k b u q
  slot := fun b u q _ _ _ => ⟨u.slots, k b u q⟩
  free := fun b u q n _ => by rw [upd_ne (Nat.ne_of_lt (Nat.lt_of_lt_of_le (Heap.lt_size q) hp))]; exact n
  there := fun b u q _ => ⟨u, k b u q⟩
  tups := fun b xs q => by rw [upd_ne (ne_of_none q hn)]; exact q
  frzs := fun b u xs q => by rw [upd_ne (ne_of_none q hn)]; exact q
  tbls := fun b ps q => ⟨#[], by rw [upd_ne (ne_of_none q hn), q]; simp⟩
theorem Un.write (mu : Mut (H x)) (he : e = x ∨ H e = some (.own x)) (k : ∀ b u, b ≠ e → h.get? b = some u → h'.get? b = some u) (heo : ∃ u, h'.get? e = some u) : Un fs ex H (upd H x o) h h' := by
  have hx : ∀ b, H b = none → b ≠ x := fun b n z => by subst z; rw [n] at mu; exact mu
  have hb : ∀ b, H b = none → b ≠ e := fun b n z => by
    subst z
    rcases he with r | r
    · exact hx b n r
    · rw [n] at r; cases r
  have hm : ∀ b u, H b = some u → ¬ Mut (some u) → b ≠ x := fun b u q nm z => by subst z; rw [q] at mu; exact nm mu
  refine ⟨fun b u q n _ _ => k b u (hb b n) q, fun b u q n _ _ => ⟨u.slots, k b u (hb b n) q⟩, fun b u q n _ => by rw [upd_ne (hx b n)]; exact n, fun b u q _ => ?_,
    fun b xs q => by rw [upd_ne (hm b _ q fun z => z)]; exact q, fun b u xs q => by rw [upd_ne (hm b _ q fun z => z)]; exact q, fun b ps q => ⟨#[], by rw [upd_ne (hm b _ q fun z => z), q]; simp⟩⟩
  by_cases hbe : b = e
  · subst hbe; exact heo
  · exact ⟨u, k b u hbe q⟩
theorem Un.mono (u : Un fs ex H H1 h h1) (hs : ∀ b ∈ fs, b ∈ fs') (hx : ∀ b ∈ ex, b ∈ ex') : Un fs' ex' H H1 h h1 :=
  ⟨fun b ob q n hb he => u.keep b ob q n (fun z => hb (hs b z)) fun z => he (hx b z), fun _ _ q n _ he => u.any q n fun z => he (hx _ z), fun b ob q n he => u.free b ob q n fun z => he (hx b z), fun b ob q he => u.there b ob q fun z => he (hx b z), u.tups, u.frzs, u.tbls⟩
end
def trk (h : Heap) (H : Hp) : List Addr := (List.range h.objs.size).filter fun a => (H a).isSome
def hidT (h : Heap) (H : Hp) : Heap := PySem.W.hideAll h (trk h H)
theorem hidT_size (h : Heap) (H : Hp) : (hidT h H).objs.size = h.objs.size := PySem.W.hideAll_size _ _
theorem hidT_get {h : Heap} {H : Hp} {b : Addr} {o : Obj} (e : h.get? b = some o) (n : H b = none) : (hidT h H).get? b = some o :=
  PySem.W.hideAll_get _ e fun hm => by
    have q : (H b).isSome = true := (List.mem_filter.mp hm).2
    rw [n] at q; simp at q
theorem of_hidT {h : Heap} {H : Hp} {b : Addr} {o : Obj} (e : (hidT h H).get? b = some o) : h.get? b = some o ∧ H b = none := by
  have e' : h.get? b = some o := PySem.W.of_hideAll (trk h H) e
  refine ⟨e', ?_⟩
  cases q : H b with
  | none => rfl
  | some x =>
    have hm : b ∈ trk h H := List.mem_filter.mpr ⟨List.mem_range.mpr (Heap.lt_size e'), by simp [q]⟩
    have z : (hidT h H).get? b = none := PySem.W.hideAll_none (trk h H) hm
    rw [z] at e; cases e
def allNews (g h : Heap) (L : Addr) : List (Addr × Obj) := (List.range h.objs.size).filterMap fun a => if a = L ∨ (g.get? a).isSome = true then none else (h.get? a).map fun o => (a, o)
def rest (g h : Heap) (L d : Addr) : List (Addr × Obj) := (allNews g h L).filter fun p => decide (p.1 ≠ d)
end L2
namespace L2
open PySem PySem.Spec PyProof.Rows
structure Mod (K : PySem.W.Frag) (mg : Str → Option Value) (base : Heap) : Prop where
  kin : K.In base
  glob : base.Ns mainGlobals mg
  blt : ∃ mb, base.Ns builtinsNs mb ∧ ∀ x : Str, x ≠ "__name__" → mb x = bootBuiltins x
  nolimit : base.NoLimit
structure Cx where
  prog : Program
  w : World
  K : PySem.W.Frag
  mg : Str → Option Value
  base : Heap
  A : Around
  N : List Str
  s₀ : Shared
  H₀ : Hp
  env : Env
  outer : List Env
  stack : List Env
  ex : List Addr
  fn : Str → Bool
  calm : Bool
  pn : List (Addr × Obj)
  xe : Value → Shared → Prop
def frs (l : List Env) : List Addr := l.filterMap (·.frame)
abbrev Cx.fs (X : Cx) : List Addr := frs X.outer
def Vis (sc : Scope) (x : Str) : Prop := sc.names.lookup x = some .local ∨ sc.names.lookup x = some .cell ∨ sc.names.lookup x = some .free
def Loc (sc : Scope) (x : Str) : Prop := sc.names.lookup x = some .local ∨ sc.names.lookup x = some .cell
def Look (env : Env) (h : Heap) (m : Str → Option Value) (x : Str) (u : Value) : Prop :=
  (env.kindOf x = some .local ∧ m x = some u) ∨ ((env.kindOf x = some .cell ∨ env.kindOf x = some .free) ∧ ∃ c, env.cells.lookup x = some c ∧ h.IsCell c (some u))
structure Cx.Ok (X : Cx) : Prop where
  mod : Mod X.K X.mg X.base
  kind : X.env.scope.kind = .function
  glob : X.env.globals = mainGlobals
  blt : X.env.builtins = builtinsNs
  above : X.s₀.heap.objs.size ≤ X.env.locals
  inj : ∀ x y c, X.env.cells.lookup x = some c → X.env.cells.lookup y = some c → x = y
  has : ∀ x, (X.env.kindOf x = some .cell ∨ X.env.kindOf x = some .free) → ∃ c, X.env.cells.lookup x = some c
  cab : ∀ x c, X.fn x = true → X.env.cells.lookup x = some c → X.s₀.heap.objs.size ≤ c
  hd : X.calm = true → X.A.handled = none
  frames : X.A.frames = some X.stack
  stk : X.stack = X.outer ∨ (X.stack = X.env :: X.outer ∧ X.env.frame = some X.env.locals)
  exf : ∀ b ∈ X.ex, b ≠ X.env.locals ∧ ∀ x c, X.env.cells.lookup x = some c → c ≠ b
  bs : ∀ b o, X.base.get? b = some o → X.s₀.heap.get? b = some o ∧ X.H₀ b = none
  bsz : X.base.objs.size ≤ X.s₀.heap.objs.size
  noex : ∀ b o, X.base.get? b = some o → b ∉ X.ex
  exfs : ∀ b ∈ X.ex, b ∉ X.fs
  funs : X.s₀.heap.FunFrames X.base X.outer
  frf : ∀ b ∈ X.fs, X.H₀ b = none
structure Inv (X : Cx) (pins : List (Addr × Obj)) (σ : List (Option V)) (H : Hp) (s : Shared) : Prop where
  ok : X.Ok
  os : s.os = X.s₀.os
  bare : AllBare s.gens
  base : Un X.fs X.ex X.H₀ H X.s₀.heap s.heap
  loc : ∃ m, s.heap.Ns X.env.locals m ∧ ∀ (i : Nat) (x : Str) (v : V), X.N[i]? = some x → σ[i]? = some (some v) → Vis X.env.scope x → ∃ u, RelV v u ∧ Look X.env s.heap m x u
  cell : ∀ x c, X.env.cells.lookup x = some c → ∃ v, s.heap.IsCell c v
  free : H X.env.locals = none
  freeC : ∀ x c, X.env.cells.lookup x = some c → H c = none
  pin : ∀ p ∈ X.pn ++ pins, s.heap.get? p.1 = some p.2 ∧ H p.1 = none ∧ p.1 ≠ X.env.locals ∧ p.1 ∉ X.fs ∧ ∀ v, p.2.data ≠ .cell v
  hok : HOk X.prog X.w H s.heap
  len : σ.length = X.N.length
section
variable {X : Cx} {pins : List (Addr × Obj)} {σ : List (Option V)} {H H' : Hp} {s : Shared} {h' : Heap}
theorem Cx.Ok.nofr (ok : X.Ok) {b : Addr} {o : Obj} (e : X.base.get? b = some o) : b ∉ X.fs := fun hb => by
  have := (ok.funs.mem hb).1
  rw [e] at this; cases this
theorem Inv.bs (I : Inv X pins σ H s) : ∀ b o, X.base.get? b = some o → s.heap.get? b = some o ∧ H b = none := fun b o e =>
  ⟨I.base.keep b o (I.ok.bs b o e).1 (I.ok.bs b o e).2 (I.ok.nofr e) (I.ok.noex b o e), I.base.free b o (I.ok.bs b o e).1 (I.ok.bs b o e).2 (I.ok.noex b o e)⟩
theorem Inv.bk (I : Inv X pins σ H s) : ∀ b o, X.base.get? b = some o → s.heap.get? b = some o := fun b o e => (I.bs b o e).1
theorem Inv.mod (I : Inv X pins σ H s) : Mod X.K X.mg X.base := I.ok.mod
theorem Inv.kIn (I : Inv X pins σ H s) : X.K.In s.heap := I.ok.mod.kin.keeps I.bk
theorem Inv.nolimit (I : Inv X pins σ H s) : s.heap.NoLimit := I.ok.mod.nolimit.keeps I.bk
theorem Inv.fr (I : Inv X pins σ H s) : ∃ m, Fr X.base X.env.locals s.heap m :=
  let ⟨m, hn, _⟩ := I.loc
  ⟨m, hn, I.bk, Nat.le_trans I.ok.bsz I.ok.above⟩
theorem Inv.lt (I : Inv X pins σ H s) : X.env.locals < s.heap.objs.size := let ⟨_, hn, _⟩ := I.loc; hn.lt
theorem Inv.sz (I : Inv X pins σ H s) : X.s₀.heap.objs.size ≤ s.heap.objs.size := Nat.le_trans I.ok.above (Nat.le_of_lt I.lt)
theorem Inv.nofs (I : Inv X pins σ H s) {a : Addr} (h : s.heap.objs.size ≤ a) : a ∉ X.fs := fun hb => by
  obtain ⟨_, o, ho, _⟩ := I.ok.funs.mem hb
  exact absurd (Nat.lt_of_lt_of_le (Heap.lt_size ho) (Nat.le_trans I.sz h)) (Nat.lt_irrefl _)
theorem Inv.cne (I : Inv X pins σ H s) : ∀ x c, X.env.cells.lookup x = some c → c ≠ X.env.locals := fun x c e z => by
  obtain ⟨v, o, ho, hd⟩ := I.cell x c e
  obtain ⟨m, ⟨o', es, ep, ho', hd', _⟩, _⟩ := I.loc
  rw [z, ho'] at ho; cases ho; rw [hd'] at hd; cases hd
theorem Inv.funs (I : Inv X pins σ H s) : s.heap.FunFrames X.base X.outer := by
  have all : ∀ (l : List Env), (∀ b ∈ frs l, b ∈ X.fs) → X.s₀.heap.FunFrames X.base l → s.heap.FunFrames X.base l := by
    intro l
    induction l with
    | nil => intro _ _; trivial
    | cons env r ih =>
      intro hs hl
      obtain ⟨hk, ⟨L, o, hf, hn, ho, hd⟩, hr⟩ := hl
      have hL : L ∈ X.fs := hs L (by unfold frs; rw [List.filterMap_cons, hf]; exact List.mem_cons_self)
      obtain ⟨sl, e⟩ := I.base.slot L o ho (I.ok.frf L hL) hL fun z => I.ok.exfs L z hL
      exact ⟨hk, ⟨L, _, hf, hn, e, hd⟩, ih (fun b hb => hs b (by unfold frs; rw [List.filterMap_cons, hf]; exact List.mem_cons_of_mem _ hb)) hr⟩
  exact all X.outer (fun _ hb => hb) I.ok.funs
theorem Inv.stack (I : Inv X pins σ H s) : s.heap.FunFrames X.base X.stack := by
  rcases I.ok.stk with e | ⟨e, hf⟩
  · rw [e]; exact I.funs
  · rw [e]
    obtain ⟨m, hn, _⟩ := I.loc
    refine .cons (by rw [I.ok.kind]; decide) hf hn ?_ I.funs
    exact Heap.get?_none_of_le (Nat.le_trans I.ok.bsz I.ok.above)
theorem Inv.stkSub (I : Inv X pins σ H s) : ∀ b ∈ frs X.stack, b ∈ X.env.locals :: X.fs := fun b hb => by
  rcases I.ok.stk with e | ⟨e, hf⟩
  · rw [e] at hb; exact List.mem_cons_of_mem _ hb
  · rw [e] at hb
    unfold frs at hb
    rw [List.filterMap_cons, hf] at hb
    exact hb
theorem Inv.stkFree (I : Inv X pins σ H s) : ∀ b ∈ frs X.stack, H b = none := fun b hb => by
  rcases List.mem_cons.mp (I.stkSub b hb) with e | hb
  · rw [e]; exact I.free
  · obtain ⟨_, o, ho, _⟩ := I.ok.funs.mem hb
    exact I.base.free b o ho (I.ok.frf b hb) fun z => I.ok.exfs b z hb
theorem Inv.step {g' : Array GenState} {t' : Nat} {d' : Drawn} {ch : List Addr} (I : Inv X pins σ H s)
    (hch : ∀ b ∈ ch, (b ∈ X.ex ∨ X.s₀.heap.objs.size ≤ b) ∧ b ≠ X.env.locals ∧ (∀ x c, X.env.cells.lookup x = some c → c ≠ b) ∧ ∀ p ∈ X.pn ++ pins, p.1 ≠ b)
    (keep : ∀ b o, b ≠ X.env.locals → b ∉ X.fs → b ∉ ch → s.heap.get? b = some o → H b = none → h'.get? b = some o)
    (slot : ∀ b o, b ≠ X.env.locals → b ∈ X.fs → b ∉ ch → s.heap.get? b = some o → H b = none → ∃ sl, h'.get? b = some { o with slots := sl }) (free : ∀ b o, b ∉ ch → s.heap.get? b = some o → H b = none → H' b = none)
    (there : ∀ b o, b ∉ ch → s.heap.get? b = some o → ∃ o', h'.get? b = some o')
    (tups : ∀ b xs, H b = some (.tup xs) → H' b = some (.tup xs)) (frzs : ∀ b o u, H b = some (.frz o u) → H' b = some (.frz o u)) (tbls : ∀ b ps, H b = some (.tbl ps) → ∃ more, H' b = some (.tbl (ps ++ more)))
    (ns : ∀ m, s.heap.Ns X.env.locals m → h'.Ns X.env.locals m) (hok : HOk X.prog X.w H' h') (hg : AllBare g') :
    Inv X pins σ H' { s with heap := h', gens := g', drawn := d', toks := t' } := by
  have neL : ∀ b o, X.s₀.heap.get? b = some o → b ≠ X.env.locals := fun b o e => Nat.ne_of_lt (Nat.lt_of_lt_of_le (Heap.lt_size e) I.ok.above)
  have neC : ∀ b o, X.s₀.heap.get? b = some o → b ∉ X.ex → b ∉ ch := fun b o e hx hb => by
    rcases (hch b hb).1 with z | z
    · exact hx z
    · exact absurd (Nat.lt_of_lt_of_le (Heap.lt_size e) z) (Nat.lt_irrefl _)
  have cellK : ∀ x c, X.env.cells.lookup x = some c → ∀ v, s.heap.IsCell c v → h'.IsCell c v := fun x c e v ⟨o, ho, hd⟩ => by
    have nch : c ∉ ch := fun z => (hch c z).2.2.1 x c e rfl
    by_cases hc : c ∈ X.fs
    · obtain ⟨sl, q⟩ := slot c o (I.cne x c e) hc nch ho (I.freeC x c e)
      exact ⟨_, q, hd⟩
    · exact ⟨o, keep c o (I.cne x c e) hc nch ho (I.freeC x c e), hd⟩
  refine ⟨I.ok, I.os, hg, ⟨fun b o e n hb hx => ?_, fun b o e n hb hx => ?_, fun b o e n hx => ?_, fun b o e hx => ?_, fun b xs e => tups b xs (I.base.tups b xs e), fun b o xs e => frzs b o xs (I.base.frzs b o xs e), fun b ps e => ?_⟩, ?_, fun x c e => ?_, ?_, fun x c e => ?_, fun p hp => ?_, hok, I.len⟩
  · exact keep b o (neL b o e) hb (neC b o e hx) (I.base.keep b o e n hb hx) (I.base.free b o e n hx)
  · obtain ⟨sl, e1⟩ := I.base.slot b o e n hb hx
    obtain ⟨sl', e2⟩ := slot b _ (neL b o e) hb (neC b o e hx) e1 (I.base.free b o e n hx)
    exact ⟨sl', e2⟩
  · obtain ⟨o', e1⟩ := I.base.there b o e hx
    exact free b o' (neC b o e hx) e1 (I.base.free b o e n hx)
  · obtain ⟨o', e1⟩ := I.base.there b o e hx
    exact there b o' (neC b o e hx) e1
  · obtain ⟨m1, e1⟩ := I.base.tbls b ps e
    obtain ⟨m2, e2⟩ := tbls b _ e1
    exact ⟨m1 ++ m2, by rw [e2, Array.append_assoc]⟩
  · obtain ⟨m, hn, hl⟩ := I.loc
    refine ⟨m, ns m hn, fun i x v e1 e2 e3 => ?_⟩
    obtain ⟨u, r, l⟩ := hl i x v e1 e2 e3
    refine ⟨u, r, ?_⟩
    rcases l with l | ⟨k, c, e, z⟩
    · exact .inl l
    · exact .inr ⟨k, c, e, cellK x c e _ z⟩
  · obtain ⟨v, z⟩ := I.cell x c e
    exact ⟨v, cellK x c e v z⟩
  · obtain ⟨m, ⟨o, _, _, ho, _⟩, _⟩ := I.loc
    exact free _ o (fun z => (hch _ z).2.1 rfl) ho I.free
  · obtain ⟨v, o, ho, hd⟩ := I.cell x c e
    exact free c o (fun z => (hch c z).2.2.1 x c e rfl) ho (I.freeC x c e)
  · obtain ⟨e, n, ne, nf, d⟩ := I.pin p hp
    have nch : p.1 ∉ ch := fun z => (hch p.1 z).2.2.2 p hp rfl
    exact ⟨keep p.1 p.2 ne nf nch e n, free p.1 p.2 nch e n, ne, nf, d⟩
theorem Inv.un {t' : Nat} (I : Inv X pins σ H s) (u : Un X.fs [] H H' s.heap h') (hok : HOk X.prog X.w H' h') : Inv X pins σ H' { s with heap := h', toks := t' } := by
  obtain ⟨m, ⟨o, es, ep, ho, r⟩, _⟩ := id I.loc
  obtain ⟨sl, hL⟩ := u.any ho I.free (by simp)
  exact I.step (g' := s.gens) (d' := s.drawn) (ch := []) (fun _ z => nomatch z) (fun b o _ hb _ e n => u.keep b o e n hb (by simp)) (fun b o _ hb _ e n => u.slot b o e n hb (by simp)) (fun b o _ e n => u.free b o e n (by simp)) (fun b o _ e => u.there b o e (by simp)) u.tups u.frzs u.tbls (fun m' hm => by
    obtain ⟨o', es', ep', ho', r'⟩ := hm
    rw [ho] at ho'; cases ho'
    exact ⟨_, es', ep', hL, r'⟩) hok I.bare
theorem Inv.call {g' : Array GenState} {t' : Nat} {d' : Drawn} {ch : List Addr} (I : Inv X pins σ H s) (u : Un (frs X.stack) ch H H' s.heap h') (hok : HOk X.prog X.w H' h') (hg : AllBare g')
    (hch : ∀ b ∈ ch, (b ∈ X.ex ∨ X.s₀.heap.objs.size ≤ b) ∧ b ≠ X.env.locals ∧ (∀ x c, X.env.cells.lookup x = some c → c ≠ b) ∧ ∀ p ∈ X.pn ++ pins, p.1 ≠ b) :
    Inv X pins σ H' { s with heap := h', gens := g', drawn := d', toks := t' } := by
  obtain ⟨m, ⟨o, es, ep, ho, r⟩, _⟩ := id I.loc
  obtain ⟨sl, hL⟩ := u.any ho I.free fun z => (hch _ z).2.1 rfl
  exact I.step (ch := ch) hch (fun b o hL hb hc e n => u.keep b o e n (fun z => (List.mem_cons.mp (I.stkSub b z)).elim hL hb) hc) (fun b o _ _ hc e n => u.any e n hc) (fun b o hc e n => u.free b o e n hc) (fun b o hc e => u.there b o e hc) u.tups u.frzs u.tbls (fun m' hm => by
    obtain ⟨o', es', ep', ho', r'⟩ := hm
    rw [ho] at ho'; cases ho'
    exact ⟨_, es', ep', hL, r'⟩) hok hg
theorem Inv.turned {t' : Nat} {it : Addr} (I : Inv X pins σ H s) (k : ∀ b o, b ≠ it → s.heap.get? b = some o → h'.get? b = some o) (hn : H it = none) (hL : it ≠ X.env.locals)
    (h1 : it ∈ X.ex ∨ X.s₀.heap.objs.size ≤ it) (h2 : ∀ x c, X.env.cells.lookup x = some c → c ≠ it) (h3 : ∀ p ∈ X.pn ++ pins, p.1 ≠ it) : Inv X pins σ H { s with heap := h', toks := t' } := by
  have nit : ∀ b u, H b = some u → b ≠ it := fun b u e z => by rw [z, hn] at e; cases e
  refine I.step (g' := s.gens) (d' := s.drawn) (ch := [it]) (fun b hb => ?_) (fun b o _ _ hc e _ => k b o (fun z => hc (by simp [z])) e) (fun b o _ _ hc e _ => ⟨o.slots, k b o (fun z => hc (by simp [z])) e⟩) (fun _ _ _ _ n => n)
    (fun b o hc e => ⟨o, k b o (fun z => hc (by simp [z])) e⟩) (fun _ _ e => e) (fun _ _ _ e => e) (fun b ps e => ⟨#[], by rw [e]; simp⟩) (fun m hm => ?_) (fun b u e => ?_) I.bare
  · have e : b = it := by simpa using hb
    subst e
    exact ⟨h1, hL, h2, h3⟩
  · obtain ⟨o, es, ep, ho, r⟩ := hm
    exact ⟨o, es, ep, k _ o (Ne.symm hL) ho, r⟩
  · refine (I.hok b u e).stay (fun c v hc q => k c v ?_ q) (fun _ q => q) (fun _ _ q => q) fun _ _ _ _ q => q
    rcases hc with z | z
    · rw [z]; exact nit b u e
    · exact nit c _ z
theorem Inv.tok (I : Inv X pins σ H s) (t : Nat) : Inv X pins σ H { s with toks := t } := I.un (h' := s.heap) (t' := t) Un.refl I.hok
theorem Inv.kept {t' : Nat} (I : Inv X pins σ H s) (k : ∀ b u, s.heap.get? b = some u → h'.get? b = some u) : Inv X pins σ H { s with heap := h', toks := t' } := I.un (Un.kept k) (I.hok.kept k)
theorem Inv.laid {a : Addr} {o : HO} {t' : Nat} (I : Inv X pins σ H s) (k : ∀ b u, s.heap.get? b = some u → h'.get? b = some u) (hp : s.heap.objs.size ≤ a) (new : ObjOk X.prog X.w (upd H a o) h' a o) :
    Inv X pins σ (upd H a o) { s with heap := h', toks := t' } := I.un (Un.laid k hp (I.hok.fresh hp)) (I.hok.laid k hp new)
theorem Inv.write {x e : Addr} {o : HO} {t' : Nat} (I : Inv X pins σ H s) (mu : Mut (H x)) (he : e = x ∨ H e = some (.own x)) (k : ∀ b u, b ≠ e → s.heap.get? b = some u → h'.get? b = some u) (heo : ∃ u, h'.get? e = some u)
    (new : ObjOk X.prog X.w (upd H x o) h' x o) : Inv X pins σ (upd H x o) { s with heap := h', toks := t' } := I.un (Un.write mu he k heo) (I.hok.write mu he k heo new)
theorem Inv.pins_of {pins' : List (Addr × Obj)} (I : Inv X pins σ H s) (h : ∀ p ∈ pins', s.heap.get? p.1 = some p.2 ∧ H p.1 = none ∧ p.1 ≠ X.env.locals ∧ p.1 ∉ X.fs ∧ ∀ v, p.2.data ≠ .cell v) : Inv X pins' σ H s :=
  ⟨I.ok, I.os, I.bare, I.base, I.loc, I.cell, I.free, I.freeC, fun p hp => (List.mem_append.mp hp).elim (fun z => I.pin p (List.mem_append_left _ z)) (h p), I.hok, I.len⟩
theorem nodup_ix {N : List Str} (hN : N.Nodup) {i j : Nat} {x : Str} (a : N[i]? = some x) (b : N[j]? = some x) : i = j := by
  obtain ⟨h1, e1⟩ := List.getElem?_eq_some_iff.mp a
  obtain ⟨h2, e2⟩ := List.getElem?_eq_some_iff.mp b
  exact (List.getElem_inj hN).mp (e1.trans e2.symm)
theorem store_ok2 {M : Model} {A : Around} {E : Value → Shared → Prop} {i : Nat} {x : Str} {v : V} {u : Value} {Q : Unit → Shared → Prop} (I : Inv X pins σ H s) (hN : X.N.Nodup) (hi : X.N[i]? = some x) (hx : Loc X.env.scope x) (r : RelV v u)
    (h : ∀ s', Inv X pins (σ.set i (some v)) H s' → (∃ a, Heap.SameBut a s.heap s'.heap ∧ (a = X.env.locals ∨ X.env.cells.lookup x = some a)) → Q () s') (hf : X.fn x = true ∨ X.env.scope.names.lookup x = some .local := by first | exact .inl rfl | exact .inr rfl | assumption) : wpAny M A (storeName X.env x u) Q E s := by
  obtain ⟨m, hn, hl⟩ := id I.loc
  have hcls : (X.env.scope.kind == .class || (X.env.scope.kind == .module && X.env.locals != X.env.globals)) = false := by rw [I.ok.kind]; rfl
  have hiσ : i < σ.length := by rw [I.len]; exact (List.getElem?_eq_some_iff.mp hi).1
  have cne := I.cne
  have tracked : ∀ {a : Addr} {h' : Heap}, (∃ o, s.heap.get? a = some o ∧ H a = none) → Heap.SameBut a s.heap h' → HOk X.prog X.w H h' := fun {a h'} ha hs b ob e => by
    obtain ⟨_, _, hfree⟩ := ha
    refine (I.hok b ob e).stay (fun c w' hc q => (hs.2 c ?_).trans q) (fun _ q => q) (fun _ _ q => q) fun _ _ _ _ q => q
    rintro rfl
    rcases hc with rfl | hc
    · rw [hfree] at e; cases e
    · rw [hfree] at hc; cases hc
  rcases hx with hk | hk
  · refine wpAny_storeName_local hk hn (fun h' hn' hs => ?_) hcls
    obtain ⟨oL, _, _, hoL, _⟩ := id hn
    refine h _ ⟨I.ok, I.os, I.bare, ⟨fun b o e n hb hx => ?_, fun b o e n hb hx => ?_, I.base.free, fun b o e hx => ?_, I.base.tups, I.base.frzs, I.base.tbls⟩, ⟨_, hn', fun j y v' e1 e2 e3 => ?_⟩, fun y c e => ?_, I.free, I.freeC, fun p hp => ?_, tracked ⟨oL, hoL, I.free⟩ hs, by simpa using I.len⟩ ⟨_, hs, .inl rfl⟩
    · exact (hs.2 b (Nat.ne_of_lt (Nat.lt_of_lt_of_le (Heap.lt_size e) I.ok.above))).trans (I.base.keep b o e n hb hx)
    · obtain ⟨sl, e1⟩ := I.base.slot b o e n hb hx
      exact ⟨sl, (hs.2 b (Nat.ne_of_lt (Nat.lt_of_lt_of_le (Heap.lt_size e) I.ok.above))).trans e1⟩
    · obtain ⟨o', e1⟩ := I.base.there b o e hx
      exact ⟨o', (hs.2 b (Nat.ne_of_lt (Nat.lt_of_lt_of_le (Heap.lt_size e) I.ok.above))).trans e1⟩
    · by_cases hj : j = i
      · subst hj
        rw [hi] at e1; cases e1
        rw [List.getElem?_set_self hiσ] at e2
        cases e2
        exact ⟨u, r, .inl ⟨hk, by simp⟩⟩
      · rw [List.getElem?_set_ne (Ne.symm hj)] at e2
        obtain ⟨u', r', q⟩ := hl j y v' e1 e2 e3
        refine ⟨u', r', ?_⟩
        rcases q with ⟨k, e⟩ | ⟨k, c, e, z⟩
        · refine .inl ⟨k, ?_⟩
          have : y ≠ x := fun e => hj (nodup_ix hN e1 (e ▸ hi))
          simp [this, e]
        · exact .inr ⟨k, c, e, z.sameBut hs (cne y c e)⟩
    · obtain ⟨w', z⟩ := I.cell y c e
      exact ⟨w', z.sameBut hs (cne y c e)⟩
    · obtain ⟨e, n, ne, nf, d⟩ := I.pin p hp
      exact ⟨(hs.2 p.1 ne).trans e, n, ne, nf, d⟩
  · have hfn : X.fn x = true := by
      rcases hf with z | z
      · exact z
      · rw [z] at hk; cases hk
    obtain ⟨c, hc⟩ := I.ok.has x (.inl hk)
    obtain ⟨w', z⟩ := I.cell x c hc
    refine wpAny_storeName_cell I.ok.kind hk hc z (fun h' hc' hs => ?_)
    obtain ⟨oc, hoc, hocd⟩ := id z
    refine h { s with heap := h' } ⟨I.ok, I.os, I.bare, ⟨fun b o e n hb hx => ?_, fun b o e n hb hx => ?_, I.base.free, fun b o e hx => ?_, I.base.tups, I.base.frzs, I.base.tbls⟩, ⟨m, hn.sameBut hs (Ne.symm (cne x c hc)), fun j y v' e1 e2 e3 => ?_⟩, fun y c' e => ?_, I.free, I.freeC, fun p hp => ?_, tracked ⟨oc, hoc, I.freeC x c hc⟩ hs, by simpa using I.len⟩ ⟨c, hs, .inr hc⟩
    · exact (hs.2 b (Nat.ne_of_lt (Nat.lt_of_lt_of_le (Heap.lt_size e) (I.ok.cab x c hfn hc)))).trans (I.base.keep b o e n hb hx)
    · obtain ⟨sl, e1⟩ := I.base.slot b o e n hb hx
      exact ⟨sl, (hs.2 b (Nat.ne_of_lt (Nat.lt_of_lt_of_le (Heap.lt_size e) (I.ok.cab x c hfn hc)))).trans e1⟩
    · obtain ⟨o', e1⟩ := I.base.there b o e hx
      exact ⟨o', (hs.2 b (Nat.ne_of_lt (Nat.lt_of_lt_of_le (Heap.lt_size e) (I.ok.cab x c hfn hc)))).trans e1⟩
    · by_cases hj : j = i
      · subst hj
        rw [hi] at e1; cases e1
        rw [List.getElem?_set_self hiσ] at e2
        cases e2
        exact ⟨u, r, .inr ⟨.inl hk, c, hc, hc'⟩⟩
      · rw [List.getElem?_set_ne (Ne.symm hj)] at e2
        obtain ⟨u', r', q⟩ := hl j y v' e1 e2 e3
        refine ⟨u', r', ?_⟩
        rcases q with q | ⟨k, c', e, z'⟩
        · exact .inl q
        · refine .inr ⟨k, c', e, z'.sameBut hs ?_⟩
          rintro rfl
          exact hj (nodup_ix hN e1 (I.ok.inj _ _ _ e hc ▸ hi))
    · by_cases hcc : c' = c
      · subst hcc; exact ⟨_, hc'⟩
      · obtain ⟨w2, z2⟩ := I.cell y c' e
        exact ⟨w2, z2.sameBut hs hcc⟩
    · obtain ⟨e, n, ne, nf, d⟩ := I.pin p hp
      refine ⟨(hs.2 p.1 ?_).trans e, n, ne, nf, d⟩
      intro q
      rw [q, hoc] at e
      have q' : oc = p.2 := Option.some.inj e
      exact d w' (by rw [← q']; exact hocd)
theorem store_ok {M : Model} {A : Around} {E : Value → Shared → Prop} {i : Nat} {x : Str} {v : V} {u : Value} {Q : Unit → Shared → Prop} (I : Inv X pins σ H s) (hN : X.N.Nodup) (hi : X.N[i]? = some x) (hx : Loc X.env.scope x) (r : RelV v u)
    (h : ∀ s', Inv X pins (σ.set i (some v)) H s' → Q () s') (hf : X.fn x = true ∨ X.env.scope.names.lookup x = some .local := by first | exact .inl rfl | exact .inr rfl | assumption) : wpAny M A (storeName X.env x u) Q E s :=
  store_ok2 I hN hi hx r (fun s' I' _ => h s' I') hf
theorem Inv.call' {s' : Shared} {ch : List Addr} (I : Inv X pins σ H s) (ho : s'.os = s.os) (u : Un (frs X.stack) ch H H' s.heap s'.heap) (hok : HOk X.prog X.w H' s'.heap) (hg : AllBare s'.gens)
    (hch : ∀ b ∈ ch, (b ∈ X.ex ∨ X.s₀.heap.objs.size ≤ b) ∧ b ≠ X.env.locals ∧ (∀ x c, X.env.cells.lookup x = some c → c ≠ b) ∧ ∀ p ∈ X.pn ++ pins, p.1 ≠ b) : Inv X pins σ H' s' := by
  obtain ⟨h', g', d', t', o'⟩ := s'
  have e : o' = s.os := ho
  subst e
  exact I.call (g' := g') (t' := t') (d' := d') u hok hg hch
end
abbrev XK := Value → Option Addr → Hp → Prop
abbrev St := List (Option V)
abbrev VK := V → Hp → Prop
abbrev TE := St → Hp → VK → Prop
abbrev TT := St → Hp → (Bool → Hp → Prop) → Prop
abbrev TA := St → Hp → (List V → Hp → Prop) → Prop
structure Ends where
  nx : St → Hp → Prop
  rt : VK
  bk : St → Hp → Prop := fun _ _ => False
  ct : St → Hp → Prop := fun _ _ => False
abbrev TS := Ends → St → Hp → Prop
def EP (X : Cx) (pins : List (Addr × Obj)) (σ : St) (Q : VK) (u : Value) (s' : Shared) : Prop := ∃ v H', Inv X pins σ H' s' ∧ RelV v u ∧ Q v H'
def TP (X : Cx) (pins : List (Addr × Obj)) (σ : St) (Q : Bool → Hp → Prop) (b : Bool) (s' : Shared) : Prop := ∃ H', Inv X pins σ H' s' ∧ Q b H'
def AP (X : Cx) (pins : List (Addr × Obj)) (σ : St) (Q : List V → Hp → Prop) (us : List Value) (s' : Shared) : Prop := ∃ vs H', Inv X pins σ H' s' ∧ Vals vs us ∧ Q vs H'
def SP (X : Cx) (pins : List (Addr × Obj)) (D : Ends) (f : Flow) (s' : Shared) : Prop :=
  match f with
  | .next => ∃ σ' H', Inv X pins σ' H' s' ∧ D.nx σ' H'
  | .brk => ∃ σ' H', Inv X pins σ' H' s' ∧ D.bk σ' H'
  | .cont => ∃ σ' H', Inv X pins σ' H' s' ∧ D.ct σ' H'
  | .ret u => ∃ v σ' H', Inv X pins σ' H' s' ∧ RelV v u ∧ D.rt v H'
def PE (X : Cx) (e : Expr) (t : TE) : Prop :=
  ∀ (pins : List (Addr × Obj)) (s : Shared) (σ : St) (H : Hp) (Q : VK), Inv X pins σ H s → t σ H Q → wpAny (model X.prog X.w) X.A (eval e X.env) (EP X pins σ Q) X.xe s
def PT (X : Cx) (e : Expr) (t : TT) : Prop :=
  ∀ (pins : List (Addr × Obj)) (s : Shared) (σ : St) (H : Hp) (Q : Bool → Hp → Prop), Inv X pins σ H s → t σ H Q → wpAny (model X.prog X.w) X.A (isTrue e X.env (eval e X.env)) (TP X pins σ Q) X.xe s
def PW (X : Cx) (e : Expr) (t : TT) : Prop :=
  ∀ (whole : Sem Value) (pins : List (Addr × Obj)) (s : Shared) (σ : St) (H : Hp) (Q : Bool → Hp → Prop), Inv X pins σ H s → t σ H Q → wpAny (model X.prog X.w) X.A (isTrue e X.env whole) (TP X pins σ Q) X.xe s
theorem PW.pt {X : Cx} {e : Expr} {t : TT} (h : PW X e t) : PT X e t := h _
def PA (X : Cx) (es : List Expr) (t : TA) : Prop :=
  ∀ (pos : Pos) (pins : List (Addr × Obj)) (s : Shared) (σ : St) (H : Hp) (Q : List V → Hp → Prop), Inv X pins σ H s → t σ H Q → wpAny (model X.prog X.w) X.A (spliced (backTo pos (starEach es X.env))) (AP X pins σ Q) X.xe s
def PS (X : Cx) (st : Stmt) (t : TS) : Prop :=
  ∀ (pins : List (Addr × Obj)) (s : Shared) (σ : St) (H : Hp) (D : Ends), Inv X pins σ H s → t D σ H → wpAny (model X.prog X.w) X.A (exec st X.env) (SP X pins D) X.xe s
def PSs (X : Cx) (st : List Stmt) (t : TS) : Prop :=
  ∀ (pins : List (Addr × Obj)) (s : Shared) (σ : St) (H : Hp) (D : Ends), Inv X pins σ H s → t D σ H → wpAny (model X.prog X.w) X.A (execs st X.env) (SP X pins D) X.xe s
theorem thn {α : Type} {t : Sem α} {Q Q' : α → Shared → Prop} {M : Model} {A : Around} {E : Value → Shared → Prop} {s : Shared} (h : wpAny M A t Q E s) (hQ : ∀ a s, Q a s → Q' a s) : wpAny M A t Q' E s := wpAny_mono h hQ fun _ _ x => x
end L2
namespace L2
open PySem PySem.Spec PyProof.Rows
section
variable {X : Cx}
theorem bin {a b : Expr} {ta tb : TE} (ha : PE X a ta) (hb : PE X b tb) {pins : List (Addr × Obj)} {s : Shared} {σ : St} {H : Hp} {R : V → V → Hp → Prop} (I : Inv X pins σ H s) (h : ta σ H fun x H1 => tb σ H1 fun y H2 => R x y H2)
    {α : Type} {Q : α → Shared → Prop} {f : Value → Value → Sem α}
    (hf : ∀ v u s2 x y H2, Inv X pins σ H2 s2 → RelV x v → RelV y u → R x y H2 → wpAny (model X.prog X.w) X.A (f v u) Q X.xe s2) :
    wpAny (model X.prog X.w) X.A (eval a X.env) (fun v s₁ => wpAny (model X.prog X.w) X.A (eval b X.env) (fun u s₂ => wpAny (model X.prog X.w) X.A (f v u) Q X.xe s₂) X.xe s₁) X.xe s := by
  refine thn (ha pins s σ H _ I h) fun v s1 ⟨x, H1, I1, r1, q1⟩ => ?_
  refine thn (hb pins s1 σ H1 _ I1 q1) fun u s2 ⟨y, H2, I2, r2, q2⟩ => ?_
  exact hf v u s2 x y H2 I2 r1 r2 q2
def tVar (i : Nat) : TE := fun σ H Q => ∃ v, σ[i]? = some (some v) ∧ Q v H
def tC (v : V) : TE := fun _ H Q => Q v H
theorem pe_var {i : Nat} {x : Str} {pos : Pos} (hN : X.N[i]? = some x) (hv : Vis X.env.scope x) (hd : (x == ("__debug__" : Str)) = false := by decide) (hcd : (x == ("__classdict__" : Str)) = false := by decide) : PE X (.Name x pos) (tVar i) := by
  intro pins s σ H Q I h
  obtain ⟨v, e, h⟩ := h
  obtain ⟨m, hn, hl⟩ := I.loc
  obtain ⟨u, r, l⟩ := hl i x v hN e hv
  have fin : EP X pins σ Q u s := ⟨v, H, I, r, h⟩
  rcases l with ⟨hk, hm⟩ | ⟨hk, c, hc, hcell⟩
  · exact wpAny_Name (wpAny_loadName_local I.ok.kind hk hn hm fin) hd
  · rcases hk with hk | hk
    · exact wpAny_Name (wpAny_loadName_cell I.ok.kind hk hc hcell fin) hd
    · exact wpAny_Name (wpAny_loadName_free I.ok.kind hk hc hcell fin hcd) hd
theorem pe_int {i j pos} : PE X (.Constant (.int i) j pos) (tC (.int i)) := fun _ _ _ H _ I h => wpAny_Constant_int ⟨.int i, H, I.tok _, ⟨_, rfl⟩, h⟩
theorem pe_bl {b j pos} : PE X (.Constant (.bool b) j pos) (tC (.bl b)) := fun _ _ _ H _ I h => Constant_bool ⟨.bl b, H, I, rfl, h⟩
theorem pe_non {j pos} : PE X (.Constant .none j pos) (tC .non) := fun _ _ _ H _ I h => Constant_none ⟨.non, H, I, rfl, h⟩
theorem pe_str {x j pos} : PE X (.Constant (.str x) j pos) (tC (.str x)) := fun _ _ _ H _ I h => Calls.Constant_str ⟨.str x, H, I.tok _, ⟨_, rfl⟩, h⟩
def Gl (X : Cx) (x : Str) : Prop := X.env.kindOf x = some .globalImplicit
theorem ld_glob {E : Value → Shared → Prop} {pins : List (Addr × Obj)} {s : Shared} {σ : St} {H : Hp} {x : Str} {u : Value} {pos : Pos} {Q : Value → Shared → Prop} (I : Inv X pins σ H s) (hg : Gl X x) (hm : X.mg x = some u) (h : Q u s)
    (hd : (x == ("__debug__" : Str)) = false := by decide) : wpAny (model X.prog X.w) X.A (eval (.Name x pos) X.env) Q E s :=
  Calls.Name_function_global I.ok.kind hg (Calls.loadGlobal_global (by rw [I.ok.glob]; exact I.mod.glob.keeps I.bk) hm h) hd
theorem ld_blt {E : Value → Shared → Prop} {pins : List (Addr × Obj)} {s : Shared} {σ : St} {H : Hp} {x : Str} {u : Value} {pos : Pos} {Q : Value → Shared → Prop} (I : Inv X pins σ H s) (hg : Gl X x) (hm : X.mg x = none) (hv : bootBuiltins x = some u) (h : Q u s)
    (hn : x ≠ "__name__" := by decide) (hd : (x == ("__debug__" : Str)) = false := by decide) : wpAny (model X.prog X.w) X.A (eval (.Name x pos) X.env) Q E s := by
  obtain ⟨mb, h1, h2⟩ := I.mod.blt
  exact Calls.Name_function_global I.ok.kind hg (Calls.loadGlobal_builtin (by rw [I.ok.glob]; exact I.mod.glob.keeps I.bk) hm (by rw [I.ok.blt]; exact h1.keeps I.bk) ((h2 x hn).trans hv) h) hd
theorem pe_glob {x : Str} {v : V} {u : Value} {pos : Pos} (hg : Gl X x) (hm : X.mg x = some u) (r : RelV v u) (hd : (x == ("__debug__" : Str)) = false := by decide) : PE X (.Name x pos) (tC v) :=
  fun _ _ _ H _ I h => ld_glob I hg hm ⟨v, H, I, r, h⟩ hd
theorem pe_bltn {x : Str} {v : V} {u : Value} {pos : Pos} (hg : Gl X x) (hm : X.mg x = none) (hv : bootBuiltins x = some u) (r : RelV v u) (hn : x ≠ "__name__" := by decide) (hd : (x == ("__debug__" : Str)) = false := by decide) : PE X (.Name x pos) (tC v) :=
  fun _ _ _ H _ I h => ld_blt I hg hm hv ⟨v, H, I, r, h⟩ hn hd
variable {a b : Expr} {ta tb : TE} {pos : Pos}
def tB (t : TE) : TT := fun σ H Q => t σ H fun x H1 => ∃ c, x = .bl c ∧ Q c H1
theorem pt_val {e : Expr} {t : TE} (h : PE X e t) (he : ∀ whole, isTrue e X.env whole = (do let v ← whole; standAt e.pos; holding [v] (truthy v)) := by intro _; rfl) : PT X e (tB t) := by
  intro pins s σ H Q I hw
  refine isTrue_plain (thn (h pins s σ H _ I hw) fun v s1 ⟨x, H1, I1, r1, q1⟩ => ?_) (he _)
  obtain ⟨d, rfl, q⟩ := q1
  cases r1
  exact wpAny_truthy_bool ⟨H1, I1, q⟩
variable {tA tB' : TT} {rest : List Expr}
def tAnd (t u : TT) : TT := fun σ H Q => t σ H fun c H1 => if c = true then u σ H1 Q else Q false H1
def tOr (t u : TT) : TT := fun σ H Q => t σ H fun c H1 => if c = true then Q true H1 else u σ H1 Q
def tNot (t : TT) : TT := fun σ H Q => t σ H fun c H1 => Q (!c) H1
theorem pw_and1 (ha : PT X a tA) : PW X (.BoolOp .And [a] pos) tA := by
  intro wh pins s σ H Q I h
  refine isTrue_and (thn (ha pins s σ H Q I h) fun c s1 e => ?_)
  cases c with
  | true => exact isTrue_and_nil e
  | false => exact e
theorem pw_or1 (ha : PT X a tA) : PW X (.BoolOp .Or [a] pos) tA := by
  intro wh pins s σ H Q I h
  refine isTrue_or (thn (ha pins s σ H Q I h) fun c s1 e => ?_)
  cases c with
  | false => exact isTrue_or_nil e
  | true => exact e
theorem pw_and (ha : PT X a tA) (hb : PW X (.BoolOp .And (b :: rest) pos) tB') : PW X (.BoolOp .And (a :: b :: rest) pos) (tAnd tA tB') := by
  intro wh pins s σ H Q I h
  refine isTrue_and (thn (ha pins s σ H _ I h) fun c s1 ⟨H1, I1, q1⟩ => ?_)
  cases c with
  | true => exact hb wh pins s1 σ H1 Q I1 q1
  | false => exact ⟨H1, I1, q1⟩
theorem pw_or (ha : PT X a tA) (hb : PW X (.BoolOp .Or (b :: rest) pos) tB') : PW X (.BoolOp .Or (a :: b :: rest) pos) (tOr tA tB') := by
  intro wh pins s σ H Q I h
  refine isTrue_or (thn (ha pins s σ H _ I h) fun c s1 ⟨H1, I1, q1⟩ => ?_)
  cases c with
  | true => exact ⟨H1, I1, q1⟩
  | false => exact hb wh pins s1 σ H1 Q I1 q1
theorem pt_not (ha : PT X a tA) : PT X (.UnaryOp .Not a pos) (tNot tA) := by
  intro pins s σ H Q I h
  exact isTrue_not (ha pins s σ H (fun c H1 => Q (!c) H1) I h)
def tAndV (ta tb : TE) : TE := fun σ H Q => ta σ H fun x H1 => ∃ c, x = .bl c ∧ if c = true then tb σ H1 Q else Q (.bl false) H1
def tNotV (ta : TE) : TE := fun σ H Q => ta σ H fun x H1 => ∃ c, x = .bl c ∧ Q (.bl (!c)) H1
theorem pe_one {op} {t : TE} (h : PE X a t) : PE X (.BoolOp op [a] pos) t := fun pins s σ H Q I hw => BoolOp_one (h pins s σ H Q I hw)
theorem pe_and (ha : PE X a ta) (hb : PE X (.BoolOp .And (b :: rest) pos) tb) : PE X (.BoolOp .And (a :: b :: rest) pos) (tAndV ta tb) := by
  intro pins s σ H Q I h
  refine BoolOp_and (thn (ha pins s σ H _ I h) fun v s1 ⟨x, H1, I1, r1, q1⟩ => ?_)
  obtain ⟨c, rfl, q1⟩ := q1
  cases r1
  refine wpAny_truthy_bool ?_
  cases c with
  | true => exact hb pins s1 σ H1 Q I1 q1
  | false => exact ⟨.bl false, H1, I1, rfl, q1⟩
theorem pe_not (ha : PE X a ta) : PE X (.UnaryOp .Not a pos) (tNotV ta) := by
  intro pins s σ H Q I h
  refine UnaryOp_ (thn (ha pins s σ H _ I h) fun v s1 ⟨x, H1, I1, r1, q1⟩ => ?_)
  obtain ⟨c, rfl, q1⟩ := q1
  cases r1
  exact not_of (wpAny_truthy_bool ⟨.bl (!c), H1, I1, rfl, q1⟩)
end
end L2
namespace L2
open PySem PySem.Spec PyProof.Rows
def SqL (K : PySem.W.Frag) (H : Hp) (a : Addr) (xs : List V) : Prop :=
  Rd H a (.lst xs) ∨
    ∃ (o : Obj) (its : Array Value) (n : Nat), K.lookup a = some o ∧ o.cls = .type "list" ∧ o.dict = none ∧ o.data = .seq its n ∧ its.size ≤ sizeLine ∧ Vals xs its.toList
def SqT (K : PySem.W.Frag) (H : Hp) (a : Addr) (xs : List V) : Prop :=
  Rd H a (.tup xs) ∨
    ∃ (o : Obj) (its : Array Value) (n : Nat), K.lookup a = some o ∧ o.cls = .type "tuple" ∧ o.data = .seq its n ∧ its.size ≤ sizeLine ∧ Vals xs its.toList
def absV : Value → Option V
  | .none => some .non
  | .bool b => some (.bl b)
  | .int i _ => some (.int i)
  | .str x _ => some (.str x)
  | .bytes b _ => some (.byt b)
  | .float b _ => some (.flt b)
  | .ref a => some (.ref a)
  | .type n => some (.ty n)
  | _ => none
theorem RelV.abs {x : V} {u : Value} (r : RelV x u) : absV u = some x := by
  cases x with
  | non => cases r; rfl
  | bl _ => cases r; rfl
  | int _ => obtain ⟨t, rfl⟩ := r; rfl
  | str _ => obtain ⟨t, rfl⟩ := r; rfl
  | byt _ => obtain ⟨t, rfl⟩ := r; rfl
  | flt _ => obtain ⟨t, rfl⟩ := r; rfl
  | ref _ => cases r; rfl
  | ty _ => cases r; rfl
theorem RelV.inj {x y : V} {u : Value} (r : RelV x u) (q : RelV y u) : x = y := Option.some.inj (r.abs.symm.trans q.abs)
theorem Vals.inj : ∀ {xs ys : List V} {us : List Value}, Vals xs us → Vals ys us → xs = ys
  | _, _, _, .nil, .nil => rfl
  | _, _, _, .cons r t, .cons r' t' => by rw [r.inj r', Vals.inj t t']
section
variable {X : Cx} {pins : List (Addr × Obj)} {σ : St} {H : Hp} {s : Shared} {a : Addr} {xs ys : List V}
theorem SqL.of {K : PySem.W.Frag} (h : H a = some (.lst xs)) : SqL K H a xs := .inl (.inl h)
theorem SqT.of {K : PySem.W.Frag} (h : H a = some (.tup xs)) : SqT K H a xs := .inl (.inl h)
theorem Inv.list (I : Inv X pins σ H s) (h : SqL X.K H a xs) : ∃ its : List Value, Vals xs its ∧ PlainL s.heap a its.toArray ∧ xs.length ≤ sizeLine := by
  rcases h with h | ⟨o, its, n, hk, hc, hd, hs, hz, r⟩
  · obtain ⟨z, its, n, r, e⟩ := h.ok I.hok
    exact ⟨its, r, ⟨_, n, e, rfl, rfl, rfl⟩, z⟩
  · refine ⟨its.toList, r, ⟨o, n, I.kIn a o hk, hc, hd, by simpa using hs⟩, ?_⟩
    have e := r.length
    simp only [Array.length_toList] at e
    omega
theorem Inv.tuple (I : Inv X pins σ H s) (h : SqT X.K H a xs) : ∃ its : List Value, Vals xs its ∧ IsTup s.heap a its.toArray ∧ xs.length ≤ sizeLine := by
  rcases h with h | ⟨o, its, n, hk, hc, hs, hz, r⟩
  · obtain ⟨z, its, r, p⟩ := h.ok I.hok
    exact ⟨its, r, p, z⟩
  · refine ⟨its.toList, r, ⟨o, I.kIn a o hk, hc, n, by simpa using hs⟩, ?_⟩
    have e := r.length
    simp only [Array.length_toList] at e
    omega
theorem Inv.list_inj (I : Inv X pins σ H s) (h : SqL X.K H a xs) (h' : SqL X.K H a ys) : xs = ys := by
  obtain ⟨its, r, ⟨o, n, e, _, _, d⟩, _⟩ := I.list h
  obtain ⟨its', r', ⟨o', n', e', _, _, d'⟩, _⟩ := I.list h'
  rw [e] at e'; cases e'
  rw [d] at d'
  injection d' with d1 _
  have : its = its' := by simpa using congrArg Array.toList d1
  subst this
  exact r.inj r'
theorem Inv.tuple_inj (I : Inv X pins σ H s) (h : SqT X.K H a xs) (h' : SqT X.K H a ys) : xs = ys := by
  obtain ⟨its, r, ⟨o, e, _, n, d⟩, _⟩ := I.tuple h
  obtain ⟨its', r', ⟨o', e', _, n', d'⟩, _⟩ := I.tuple h'
  rw [e] at e'; cases e'
  rw [d] at d'
  injection d' with d1 _
  have : its = its' := by simpa using congrArg Array.toList d1
  subst this
  exact r.inj r'
end
abbrev Cx.wish (X : Cx) (E : Value → Shared → Prop) : Cx := { X with xe := E }
abbrev Cx.nox (X : Cx) : Cx := X.wish fun _ _ => False
theorem Cx.Ok.wish {X : Cx} (ok : X.Ok) (E : Value → Shared → Prop) : (X.wish E).Ok :=
  ⟨ok.mod, ok.kind, ok.glob, ok.blt, ok.above, ok.inj, ok.has, ok.cab, ok.hd, ok.frames, ok.stk, ok.exf, ok.bs, ok.bsz, ok.noex, ok.exfs, ok.funs, ok.frf⟩
theorem Cx.Ok.unwish {X : Cx} {E : Value → Shared → Prop} (ok : (X.wish E).Ok) : X.Ok :=
  ⟨ok.mod, ok.kind, ok.glob, ok.blt, ok.above, ok.inj, ok.has, ok.cab, ok.hd, ok.frames, ok.stk, ok.exf, ok.bs, ok.bsz, ok.noex, ok.exfs, ok.funs, ok.frf⟩
section
variable {X : Cx} {pins : List (Addr × Obj)} {σ : St} {H : Hp} {s : Shared} {E : Value → Shared → Prop}
theorem Inv.wish (I : Inv X pins σ H s) (E : Value → Shared → Prop) : Inv (X.wish E) pins σ H s := ⟨I.ok.wish E, I.os, I.bare, I.base, I.loc, I.cell, I.free, I.freeC, I.pin, I.hok, I.len⟩
theorem Inv.unwish (I : Inv (X.wish E) pins σ H s) : Inv X pins σ H s := ⟨I.ok.unwish, I.os, I.bare, I.base, I.loc, I.cell, I.free, I.freeC, I.pin, I.hok, I.len⟩
theorem SP.unwish {D : Ends} {f : Flow} {s' : Shared} (h : SP (X.wish E) pins D f s') : SP X pins D f s' := by
  cases f with
  | next => obtain ⟨σ', H', I, q⟩ := h; exact ⟨σ', H', I.unwish, q⟩
  | brk => obtain ⟨σ', H', I, q⟩ := h; exact ⟨σ', H', I.unwish, q⟩
  | cont => obtain ⟨σ', H', I, q⟩ := h; exact ⟨σ', H', I.unwish, q⟩
  | ret u => obtain ⟨v, σ', H', I, r, q⟩ := h; exact ⟨v, σ', H', I.unwish, r, q⟩
theorem PE.nox {e : Expr} {t : TE} (h : PE X.nox e t) : PE X e t := fun pins s σ H Q I hw =>
  wpAny_mono (h pins s σ H Q (I.wish _) hw) (fun _ _ ⟨v, H', I', r, q⟩ => ⟨v, H', I'.unwish, r, q⟩) fun _ _ z => False.elim z
theorem PT.nox {e : Expr} {t : TT} (h : PT X.nox e t) : PT X e t := fun pins s σ H Q I hw =>
  wpAny_mono (h pins s σ H Q (I.wish _) hw) (fun _ _ ⟨H', I', q⟩ => ⟨H', I'.unwish, q⟩) fun _ _ z => False.elim z
theorem PSs.nox {st : List Stmt} {t : TS} (h : PSs X.nox st t) : PSs X st t := fun pins s σ H D I hw =>
  wpAny_mono (h pins s σ H D (I.wish _) hw) (fun _ _ q => q.unwish) fun _ _ z => False.elim z
end
section
variable {X : Cx} {st : Stmt} {rest : List Stmt} {t u : TS} {e : Expr} {te : TE} {pos : Pos}
def tNext : TS := fun D σ H => D.nx σ H
def tSeq (t u : TS) : TS := fun D σ H => t { D with nx := u D } σ H
theorem pss_nil : PSs X [] tNext := fun _ _ σ H _ I h => wpAny_execs_nil ⟨σ, H, I, h⟩
theorem pss_cons (h1 : PS X st t) (h2 : PSs X rest u) : PSs X (st :: rest) (tSeq t u) := by
  intro pins s σ H D I h
  refine wpAny_execs_cons (thn (h1 pins s σ H { D with nx := u D } I h) fun f s1 q => ?_)
  cases f with
  | next =>
    obtain ⟨σ', H', I', q⟩ := q
    exact h2 pins s1 σ' H' D I' q
  | ret v => exact q
  | brk => exact q
  | cont => exact q
theorem pss_one (h1 : PS X st t) : PSs X [st] t := by
  intro pins s σ H D I h
  refine wpAny_execs_cons (thn (h1 pins s σ H D I h) fun f s1 q => ?_)
  cases f with
  | next => exact wpAny_execs_nil q
  | ret v => exact q
  | brk => exact q
  | cont => exact q
theorem Inv.quiet {pins : List (Addr × Obj)} {σ : St} {H : Hp} {s : Shared} (I : Inv X pins σ H s) : interactive X.env = false := by simp [interactive, I.ok.kind]
def tDrop (te : TE) : TS := fun D σ H => te σ H fun _ H1 => D.nx σ H1
theorem ps_expr (he : PE X e te) (hs : swapsWith e none pos.line X.env = pure false := by rfl) : PS X (.Expr e pos) (tDrop te) := by
  intro pins s σ H D I h
  exact wpAny_Expr_any (thn (he pins s σ H _ I h) fun v s1 ⟨x, H1, I1, r1, q1⟩ => ⟨σ, H1, I1, q1⟩) I.quiet hs
def tRet (te : TE) : TS := fun D σ H => te σ H D.rt
theorem ps_ret (he : PE X e te) : PS X (.Return (some e) pos) (tRet te) := by
  intro pins s σ H D I h
  exact wpAny_Return_some (thn (he pins s σ H _ I h) fun v s1 ⟨x, H1, I1, r1, q1⟩ => ⟨x, σ, H1, I1, r1, q1⟩)
def tIfS (c : TT) (t u : TS) : TS := fun D σ H => c σ H fun b H1 => if b = true then t D σ H1 else u D σ H1
theorem ps_if {c : Expr} {a b : List Stmt} {tc : TT} (hc : PT X c tc) (ha : PSs X a t) (hb : PSs X b u) : PS X (.If c a b pos) (tIfS tc t u) := by
  intro pins s σ H D I h
  refine wpAny_If (thn (hc pins s σ H _ I h) fun d s1 ⟨H1, I1, q1⟩ => ?_)
  cases d with
  | true => exact ha pins s1 σ H1 D I1 q1
  | false => exact hb pins s1 σ H1 D I1 q1
end
abbrev TG := V → St → Hp → (St → Hp → Prop) → Prop
abbrev TGs := List V → St → Hp → (St → Hp → Prop) → Prop
def PG (X : Cx) (target : Expr) (t : TG) : Prop :=
  ∀ (pins : List (Addr × Obj)) (s : Shared) (σ : St) (H : Hp) (v : V) (u : Value) (Q : St → Hp → Prop), Inv X pins σ H s → RelV v u → t v σ H Q →
    wpAny (model X.prog X.w) X.A (assign target X.env u) (fun _ s' => ∃ σ' H', Inv X pins σ' H' s' ∧ Q σ' H') X.xe s
def PGs (X : Cx) (ts : List Expr) (t : TGs) : Prop :=
  ∀ (pins : List (Addr × Obj)) (s : Shared) (σ : St) (H : Hp) (vs : List V) (us : List Value) (Q : St → Hp → Prop), Inv X pins σ H s → Vals vs us → t vs σ H Q →
    wpAny (model X.prog X.w) X.A (assignInOrder ((assignEach ts X.env).map (·.2)) us) (fun _ s' => ∃ σ' H', Inv X pins σ' H' s' ∧ Q σ' H') X.xe s
section
variable {X : Cx} {pos : Pos}
def gName (i : Nat) : TG := fun v σ H Q => Q (σ.set i (some v)) H
theorem pg_name {i : Nat} {x : Str} (hN : X.N.Nodup) (hi : X.N[i]? = some x) (hx : Loc X.env.scope x) (hf : X.fn x = true ∨ X.env.scope.names.lookup x = some .local := by first | exact .inl rfl | exact .inr rfl | assumption) : PG X (.Name x pos) (gName i) := by
  intro pins s σ H v u Q I r h
  exact wpAny_assign_Name (store_ok I hN hi hx r (fun s' I' => ⟨_, H, I', h⟩) hf)
def gNil : TGs := fun vs σ H Q => vs = [] ∧ Q σ H
def gCons (t : TG) (u : TGs) : TGs := fun vs σ H Q => ∃ v r, vs = v :: r ∧ t v σ H fun σ' H' => u r σ' H' Q
theorem pgs_nil : PGs X [] gNil := by
  intro pins s σ H vs us Q I r h
  obtain ⟨e, h⟩ := h
  subst e
  cases r
  exact assignInOrder_nil ⟨σ, H, I, h⟩
theorem pgs_cons {e : Expr} {es : List Expr} {t : TG} {u : TGs} (h1 : PG X e t) (h2 : PGs X es u)
    (hs : (assignEach (e :: es) X.env).map (·.2) = assign e X.env :: (assignEach es X.env).map (·.2) := by rfl) : PGs X (e :: es) (gCons t u) := by
  intro pins s σ H vs us Q I r h
  obtain ⟨v, vr, e1, h⟩ := h
  subst e1
  cases r with
  | cons r rr =>
    rw [hs]
    refine assignInOrder_cons (thn (h1 pins s σ H _ _ _ I r h) fun _ s1 ⟨σ1, H1, I1, q1⟩ => ?_)
    exact h2 pins s1 σ1 H1 _ _ Q I1 rr q1
def gTup (K : PySem.W.Frag) (n : Nat) (t : TGs) : TG := fun v σ H Q => ∃ a xs, v = .ref a ∧ SqT K H a xs ∧ xs.length = n ∧ t xs σ H Q
theorem pg_tup {es : List Expr} {k : Nat} {t : TGs} {n : Nat} (hc : X.calm = true) (h : PGs X es t)
    (hn : (assignEach es X.env).length = n := by rfl) (hst : (assignEach es X.env).findIdx? (·.1) = none := by rfl) : PG X (.Tuple es k pos) (gTup X.K n t) := by
  intro pins s σ H v u Q I r hw
  obtain ⟨a, xs, e1, hq, hl, hw⟩ := hw
  subst e1
  cases r
  obtain ⟨its, rv, ht, hz⟩ := I.tuple hq
  refine assign_Tuple_tuple (I.ok.hd hc) ht (by simp [hn, ← hl, rv.length]) hst fun h' hx => ?_
  have I1 : Inv X pins σ H { s with heap := h' } := I.kept (t' := s.toks) fun b o e => hx b o (Nat.ne_of_lt (Heap.lt_size e)) e
  exact h pins _ σ H xs _ Q I1 (by simpa using rv) hw
def tAsg (te : TE) (g : TG) : TS := fun D σ H => te σ H fun x H1 => g x σ H1 D.nx
theorem ps_asg {tg e : Expr} {te : TE} {g : TG} (he : PE X e te) (hg : PG X tg g) (hs : swapsWithSole [tg] e pos.line X.env = pure false := by rfl) (hw : swappedStores [tg] e X.env = pure none := by rfl)
    (h1 : (assignEach [tg] X.env).map (·.2) = [assign tg X.env] := by rfl) : PS X (.Assign [tg] e pos) (tAsg te g) := by
  intro pins s σ H D I h
  refine wpAny_Assign_stores (thn (he pins s σ H _ I h) fun v s1 ⟨x, H1, I1, r1, q1⟩ => ?_) hs hw
  rw [h1]
  exact thn (hg pins s1 σ H1 x v _ I1 r1 q1) fun _ s2 q => q
theorem ps_set {i : Nat} {x : Str} {e : Expr} {te : TE} {pos' : Pos} (hN : X.N.Nodup) (hi : X.N[i]? = some x) (hx : Loc X.env.scope x) (he : PE X e te) (hs : swapsWith e (some (.Name x pos')) pos.line X.env = pure false := by rfl) (hf : X.fn x = true ∨ X.env.scope.names.lookup x = some .local := by first | exact .inl rfl | exact .inr rfl | assumption) :
    PS X (.Assign [.Name x pos'] e pos) (tAsg te (gName i)) := by
  intro pins s σ H D I h
  refine wpAny_Assign_Name (thn (he pins s σ H _ I h) fun v s1 ⟨y, H1, I1, r1, q1⟩ => ?_) hs
  exact store_ok I1 hN hi hx r1 (fun s2 I2 => ⟨_, H1, I2, q1⟩) hf
def tPar (i j : Nat) (ta : TA) : TS := fun D σ H => ta σ H fun vs H1 => ∃ v w, vs = [v, w] ∧ D.nx ((σ.set i (some v)).set j (some w)) H1
theorem ps_par {i j : Nat} {x y : Str} {a b : Expr} {ta : TA} {px py pt : Pos} {kt k2 pt2} (hc : X.calm = true) (hN : X.N.Nodup) (hi : X.N[i]? = some x) (hj : X.N[j]? = some y) (hij : i ≠ j)
    (hx : X.env.scope.names.lookup x = some .local) (hy : X.env.scope.names.lookup y = some .local) (ha : PA X [a, b] ta)
    (hw : swappedStores [.Tuple [.Name x px, .Name y py] kt pt] (.Tuple [a, b] k2 pt2) X.env = pure (some [x, y]))
    (hs : swapsWithSole [.Tuple [.Name x px, .Name y py] kt pt] (.Tuple [a, b] k2 pt2) pos.line X.env = pure false := by rfl) :
    PS X (.Assign [.Tuple [.Name x px, .Name y py] kt pt] (.Tuple [a, b] k2 pt2) pos) (tPar i j ta) := by
  intro pins s σ H D I h
  rw [exec_Assign_arm]
  refine wpAny_bind (wpAny_standAt ?_)
  rw [hs]
  refine wpAny_bind (wpAny_pure ?_)
  rw [if_neg (by decide)]
  refine wpAny_bind (Tuple_ (thn (ha _ pins s σ H _ I h) fun us s1 ⟨vs, H1, I1, r1, q1⟩ => ?_))
  obtain ⟨v, w, e1, q1⟩ := q1
  subst e1
  obtain ⟨u1, u2, rfl, rv, rw'⟩ : ∃ u1 u2, us = [u1, u2] ∧ RelV v u1 ∧ RelV w u2 := by
    cases r1 with
    | cons p q =>
      cases q with
      | cons p' q' =>
        cases q'
        exact ⟨_, _, rfl, p, p'⟩
  refine wpAny_newObj_type ?_ (by show 2 ≤ sizeLine; decide)
  have I2 : Inv X pins σ H1 { s1 with heap := s1.heap.push { cls := .type "tuple", data := .seq [u1, u2].toArray } } := I1.kept (t' := s1.toks) fun b o e => Heap.get?_push_of_some _ e
  rw [hw]
  refine wpAny_bind (wpAny_pure ?_)
  show wpAny (model X.prog X.w) X.A (do rule "assign.swapped-stores"; let items ← unpackItems (.ref s1.heap.objs.size) 2 none; assignInOrder [fun v => bindName X.env y v, fun v => bindName X.env x v] items.reverse; pure Flow.next) _ _ _
  refine wpAny_bind (wpAny_rule (wpAny_bind (unpackItems_tuple (items := #[u1, u2]) (I.ok.hd hc) (IsTup.new s1.heap _) fun h' hx' => ?_)))
  have I3 := I2.kept (h' := h') (t' := s1.toks) fun b o e => hx' b o (Nat.ne_of_lt (Heap.lt_size e)) e
  show wpAny _ _ (assignInOrder [fun v => bindName X.env y v, fun v => bindName X.env x v] [u2, u1] >>= fun _ => pure Flow.next) _ _ _
  refine wpAny_bind (assignInOrder_cons (wpAny_bindName (store_ok I3 hN hj (.inl hy) rw' (fun s2 I4 => ?_) (.inr hy))))
  refine assignInOrder_cons (wpAny_bindName (store_ok I4 hN hi (.inl hx) rv (fun s3 I5 => assignInOrder_nil (wpAny_pure ?_)) (.inr hx)))
  rw [List.set_comm _ _ (Ne.symm hij)] at I5
  exact ⟨_, H1, I5, q1⟩
end
section
variable {X : Cx} {pos : Pos}
def tWhile (c : TT) (tb : TS) : TS := fun D σ H => ∃ W : Nat → St → Hp → Prop, (∃ m, W m σ H) ∧ ∀ m σ H, W m σ H →
  c σ H fun b H1 => if b = true then ∃ N : St → Hp → Prop, (∀ σ' H', N σ' H' → ∃ m', m' < m ∧ W m' σ' H') ∧ tb { D with nx := N, ct := N, bk := D.nx } σ H1 else D.nx σ H1
theorem ps_while {c : Expr} {body : List Stmt} {tc : TT} {tb : TS} (hp : PassesOwn (model X.prog X.w) X.A X.env X.xe) (hc : PT X c tc) (hb : PSs X body tb) : PS X (.While c body [] pos) (tWhile tc tb) := by
  intro pins s σ H D I h
  obtain ⟨W, ⟨m0, w0⟩, turn⟩ := h
  refine wpAny_While (codeAny_whileLoop (fun n s' => ∃ σ' H', Inv X pins σ' H' s' ∧ W n σ' H') ?_ m0 ⟨σ, H, I, w0⟩)
  rintro n s1 ⟨σ1, H1, I1, w1⟩
  refine wpAny_passesOwn hp (thn (hc pins s1 σ1 H1 _ I1 (turn n σ1 H1 w1)) fun b s2 ⟨H2, I2, q2⟩ => ?_)
  cases b with
  | true =>
    obtain ⟨N, hN, q2⟩ := q2
    rw [if_pos rfl]
    refine wpAny_passesOwn hp (thn (hb pins s2 σ1 H2 _ I2 q2) fun f s3 q3 => ?_)
    cases f with
    | next =>
      obtain ⟨σ3, H3, I3, n3⟩ := q3
      obtain ⟨m', hm, w3⟩ := hN σ3 H3 n3
      exact ⟨m', hm, σ3, H3, I3, w3⟩
    | cont =>
      obtain ⟨σ3, H3, I3, n3⟩ := q3
      obtain ⟨m', hm, w3⟩ := hN σ3 H3 n3
      exact ⟨m', hm, σ3, H3, I3, w3⟩
    | brk => exact q3
    | ret v => exact q3
  | false =>
    rw [if_neg Bool.false_ne_true]
    exact wpAny_execs_nil ⟨σ1, H2, I2, q2⟩
end
structure It where
  go : Nat → Hp → Prop
  yld : Nat → Hp → V → Hp → Prop
  stop : Nat → Hp → Prop
def FpOk (X : Cx) (pins : List (Addr × Obj)) (H : Hp) (b : Addr) : Prop :=
  H b = none ∧ b ≠ X.env.locals ∧ b ∉ X.fs ∧ (b ∈ X.ex ∨ X.s₀.heap.objs.size ≤ b) ∧ (∀ x c, X.env.cells.lookup x = some c → c ≠ b) ∧ ∀ p ∈ X.pn ++ pins, p.1 ≠ b
theorem Inv.fpOk {X : Cx} {pins : List (Addr × Obj)} {σ : St} {H H' : Hp} {s : Shared} {b : Addr} (I : Inv X pins σ H s) (hb : s.heap.objs.size ≤ b) (hn : H' b = none) : FpOk X pins H' b := by
  refine ⟨hn, Nat.ne_of_gt (Nat.lt_of_lt_of_le I.lt hb), I.nofs hb, .inr (Nat.le_trans I.sz hb), fun x c e z => ?_, fun p hp z => ?_⟩
  · obtain ⟨v, q⟩ := I.cell x c e
    exact absurd (Nat.lt_of_lt_of_le q.lt (by rw [z]; exact hb)) (Nat.lt_irrefl _)
  · exact absurd (Nat.lt_of_lt_of_le (Heap.lt_size (I.pin p hp).1) (by rw [z]; exact hb)) (Nat.lt_irrefl _)
structure Turn (P : Program) (w : World) (K : PySem.W.Frag) (tg : Expr) (J : It) (fp : List Addr) (it : Addr) (tn : Nat → Heap → Prop) : Prop where
  mem : it ∈ fp
  obj : ∀ i h, tn i h → ∀ b ∈ fp, ∃ o, h.get? b = some o ∧ ∀ v, o.data ≠ .cell v
  keep : ∀ i h h', tn i h → (∀ b ∈ fp, ∀ o, h.get? b = some o → h'.get? b = some o) → tn i h'
  item : ∀ (X : Cx), X.prog = P → X.w = w → X.K = K → X.calm = true → ∀ (i : Nat) (pins : List (Addr × Obj)) (s : Shared) (σ : St) (H : Hp) (E : Value → Shared → Prop), Inv X pins σ H s → (∀ b ∈ fp, FpOk X pins H b) → tn i s.heap → J.go i H →
    wpAny (model P w) X.A (pyNext (.ref it)) (fun r s1 => ∃ u, r = some u ∧
      wpAny (model P w) X.A (letOwnedTupleGo tg (.ref it) u) (fun _ s2 => ∃ x H', Inv X pins σ H' s2 ∧ RelV x u ∧ J.yld i H x H' ∧ tn (i + 1) s2.heap ∧ ∀ b ∈ fp, H' b = none) E s1) E s
  done : ∀ (X : Cx), X.prog = P → X.w = w → X.K = K → X.calm = true → ∀ (i : Nat) (pins : List (Addr × Obj)) (s : Shared) (σ : St) (H : Hp) (E : Value → Shared → Prop), Inv X pins σ H s → (∀ b ∈ fp, FpOk X pins H b) → tn i s.heap → J.stop i H →
    wpAny (model P w) X.A (pyNext (.ref it)) (fun r s1 => r = none ∧ Inv X pins σ H s1) E s
  self : ∀ (A : Around) (i : Nat) (s : Shared) (Q : Value → Shared → Prop) (E : Value → Shared → Prop), tn i s.heap → Q (.ref it) s → wpAny (model P w) A (pyIter (.ref it)) Q E s
abbrev TI := St → Hp → (It → Hp → Prop) → Prop
def PIE (X : Cx) (pins : List (Addr × Obj)) (σ : St) (tg : Expr) (R : It → Hp → Prop) (itv : Value) (s2 : Shared) : Prop :=
  ∃ (it : Addr) (fp : List Addr) (tn : Nat → Heap → Prop) (J : It) (H' : Hp), itv = .ref it ∧ Inv X pins σ H' s2 ∧ Turn X.prog X.w X.K tg J fp it tn ∧ tn 0 s2.heap ∧ (∀ b ∈ fp, FpOk X pins H' b) ∧ R J H'
def PI (X : Cx) (tg iter : Expr) (wi : TI) : Prop :=
  ∀ (pins : List (Addr × Obj)) (s : Shared) (σ : St) (H : Hp) (R : It → Hp → Prop), Inv X pins σ H s → wi σ H R →
    wpAny (model X.prog X.w) X.A (eval iter X.env) (fun v s1 => wpAny (model X.prog X.w) X.A (pyIter v) (PIE X pins σ tg R) X.xe s1) X.xe s
theorem go_of {M : Model} {A : Around} {E : Value → Shared → Prop} {s : Shared} {tg : Expr} {it : Addr} {u : Value} {o : Obj} {n : String} {vs : Array Value} {Q : Unit → Shared → Prop} (ho : s.heap.get? it = some o) (hc : o.cls = .type n) (hd : o.data = .fields vs)
    (hn : ["enumerate", "zip", "dict_itemiterator", "dict_reverseitemiterator", "odict_iterator", "itertools.zip_longest", "itertools.pairwise"].contains n = false) (hQ : Q () s) : wpAny M A (letOwnedTupleGo tg (.ref it) u) Q E s := by
  unfold letOwnedTupleGo
  cases tg <;> first
    | exact wpAny_pure hQ
    | (cases u <;> first
        | exact wpAny_pure hQ
        | (refine wpAny_bind (wpAny_load ho ?_)
           rw [hc, hd]
           show wpAny M A (if (["enumerate", "zip", "dict_itemiterator", "dict_reverseitemiterator", "odict_iterator", "itertools.zip_longest", "itertools.pairwise"].contains n && vs[0]? == some (rawInt _)) = true then _ else _) Q E s
           rw [if_neg (by intro h; rw [hn, Bool.false_and] at h; cases h)]
           exact wpAny_pure hQ))
def Itl (K : PySem.W.Frag) (a : Addr) : It :=
  ⟨fun i H => ∃ xs x, SqL K H a xs ∧ xs[i]? = some x, fun i H x H' => H' = H ∧ ∀ xs, SqL K H a xs → xs[i]? = some x, fun i H => ∃ xs, SqL K H a xs ∧ xs.length ≤ i⟩
def Itt (K : PySem.W.Frag) (a : Addr) : It :=
  ⟨fun i H => ∃ xs x, SqT K H a xs ∧ xs[i]? = some x, fun i H x H' => H' = H ∧ ∀ xs, SqT K H a xs → xs[i]? = some x, fun i H => ∃ xs, SqT K H a xs ∧ xs.length ≤ i⟩
def Itr (lo : Int) (n : Nat) : It := ⟨fun i _ => i < n, fun i H x H' => H' = H ∧ x = .int (lo + i), fun i _ => n ≤ i⟩
theorem turn_list {P : Program} {w : World} {K : PySem.W.Frag} {tg : Expr} (a it : Addr) : Turn P w K tg (Itl K a) [it] it (fun i h => h.IsListIter it a i) where
  mem := by simp
  obj := fun i h st b hb => by
    have e : b = it := by simpa using hb
    subst e
    obtain ⟨o, e, c, d⟩ := st
    exact ⟨o, e, fun v z => by rw [d] at z; cases z⟩
  keep := fun i h h' st k => st.at fun o e => k it (by simp) o e
  item := by
    intro X hP hw hK hc i pins s σ H E I hf st hg
    subst hP hw hK
    obtain ⟨xs, x, hq, hx⟩ := hg
    obtain ⟨its, rv, p, hz⟩ := I.list hq
    obtain ⟨u, hu, ru⟩ := rv.get hx
    obtain ⟨f0, f1, f2, f3, f4, f5⟩ := hf it (by simp)
    refine wpAny_pyNext_list_item st p.isList (x := u) (by simpa using hu) fun h' st' sb => ?_
    have I1 : Inv X pins σ H { s with heap := h' } := I.turned (t' := s.toks) (fun b o hb e => (sb.2 b hb).trans e) f0 f1 f3 f4 f5
    obtain ⟨o, e, c, d⟩ := id st'
    exact ⟨u, rfl, go_of (s := { s with heap := h' }) e c d (by decide) ⟨x, H, I1, ru, ⟨rfl, fun ys hy => by rw [I.list_inj hy hq]; exact hx⟩, st', fun b hb => (hf b hb).1⟩⟩
  done := by
    intro X hP hw hK hc i pins s σ H E I hf st hg
    subst hP hw hK
    obtain ⟨xs, hq, hx⟩ := hg
    obtain ⟨its, rv, p, hz⟩ := I.list hq
    obtain ⟨f0, f1, f2, f3, f4, f5⟩ := hf it (by simp)
    have hl := rv.length
    exact wpAny_pyNext_list_end (I.ok.hd hc) st p.isList (by simp; omega) fun h' eb => ⟨rfl, I.turned (t' := s.toks) (fun b o hb e => eb b o hb e) f0 f1 f3 f4 f5⟩
  self := fun _ _ _ _ _ st h => wpAny_pyIter_listiter st h
theorem turn_tuple {P : Program} {w : World} {K : PySem.W.Frag} {tg : Expr} (a it : Addr) : Turn P w K tg (Itt K a) [it] it (fun i h => h.IsTupleIter it a i) where
  mem := by simp
  obj := fun i h st b hb => by
    have e : b = it := by simpa using hb
    subst e
    obtain ⟨o, e, c, d⟩ := st
    exact ⟨o, e, fun v z => by rw [d] at z; cases z⟩
  keep := fun i h h' st k => st.at fun o e => k it (by simp) o e
  item := by
    intro X hP hw hK hc i pins s σ H E I hf st hg
    subst hP hw hK
    obtain ⟨xs, x, hq, hx⟩ := hg
    obtain ⟨its, rv, p, hz⟩ := I.tuple hq
    obtain ⟨u, hu, ru⟩ := rv.get hx
    obtain ⟨f0, f1, f2, f3, f4, f5⟩ := hf it (by simp)
    refine wpAny_pyNext_tuple_item st (show s.heap.IsTuple a its.toArray from p) (x := u) (by simpa using hu) fun h' st' sb => ?_
    have I1 : Inv X pins σ H { s with heap := h' } := I.turned (t' := s.toks) (fun b o hb e => (sb.2 b hb).trans e) f0 f1 f3 f4 f5
    obtain ⟨o, e, c, d⟩ := id st'
    exact ⟨u, rfl, go_of (s := { s with heap := h' }) e c d (by decide) ⟨x, H, I1, ru, ⟨rfl, fun ys hy => by rw [I.tuple_inj hy hq]; exact hx⟩, st', fun b hb => (hf b hb).1⟩⟩
  done := by
    intro X hP hw hK hc i pins s σ H E I hf st hg
    subst hP hw hK
    obtain ⟨xs, hq, hx⟩ := hg
    obtain ⟨its, rv, p, hz⟩ := I.tuple hq
    obtain ⟨f0, f1, f2, f3, f4, f5⟩ := hf it (by simp)
    have hl := rv.length
    exact wpAny_pyNext_tuple_end (I.ok.hd hc) st (show s.heap.IsTuple a its.toArray from p) (by simp; omega) fun h' eb => ⟨rfl, I.turned (t' := s.toks) (fun b o hb e => eb b o hb e) f0 f1 f3 f4 f5⟩
  self := fun _ _ _ _ _ st h => wpAny_pyIter_tupleiter st h
theorem turn_range {P : Program} {w : World} {K : PySem.W.Frag} {tg : Expr} (it : Addr) (lo : Int) (n : Nat) : Turn P w K tg (Itr lo n) [it] it (fun i h => IsRangeIter h it (lo + (i : Nat) * 1) ((n : Int) - (i : Nat)) 1) where
  mem := by simp
  obj := fun i h st b hb => by
    have e : b = it := by simpa using hb
    subst e
    exact ⟨_, st, fun v z => by
      have z' : Data.fields _ = Data.cell v := z
      cases z'⟩
  keep := fun i h h' st k => k it (by simp) _ st
  item := by
    intro X hP hw hK hc i pins s σ H E I hf st hg
    subst hP hw hK
    obtain ⟨f0, f1, f2, f3, f4, f5⟩ := hf it (by simp)
    have W := Walks.range (prog := X.prog) (w := X.w) (I.ok.hd hc) it lo 1 n
    refine W.item i s _ _ hg st fun v h' tk hv st' kk => ?_
    obtain ⟨t, rfl⟩ := hv
    have I1 : Inv X pins σ H { s with heap := h', toks := tk } := I.turned (fun b o hb e => kk b o (by simpa using hb) e) f0 f1 f3 f4 f5
    refine ⟨_, rfl, go_of (s := { s with heap := h', toks := tk }) (n := "range_iterator") st' rfl rfl (by decide) ⟨.int (lo + i), H, I1, ⟨t, ?_⟩, ⟨rfl, rfl⟩, st', fun b hb => (hf b hb).1⟩⟩
    rw [Int.mul_one]
  done := by
    intro X hP hw hK hc i pins s σ H E I hf st hg
    subst hP hw hK
    obtain ⟨f0, f1, f2, f3, f4, f5⟩ := hf it (by simp)
    exact wpAny_pyNext_range_end (I.ok.hd hc) st (by have : n ≤ i := hg; omega) fun h' eb => ⟨rfl, I.turned (t' := s.toks) (fun b o hb e => eb b o hb e) f0 f1 f3 f4 f5⟩
  self := fun _ _ _ _ _ st h => wpAny_pyIter_rangeiter st h
end L2
namespace L2
open PySem PySem.Spec PyProof.Rows
section
variable {X : Cx} {tg : Expr}
theorem range_it {pins : List (Addr × Obj)} {σ : St} {H : Hp} {s : Shared} {R : It → Hp → Prop} {E : Value → Shared → Prop} {lo hi : Int} {t u v : Tok} {tk : Nat} (I : Inv X pins σ H s) (h1 : -(2 ^ 62) ≤ lo) (h2 : lo < 2 ^ 62) (h3 : -(2 ^ 62) ≤ hi) (h4 : hi < 2 ^ 62)
    (q : R (Itr lo (hi - lo).toNat) H) : wpAny (model X.prog X.w) X.A (pyIter (.ref s.heap.objs.size)) (PIE X pins σ tg R) E { s with heap := s.heap.push { cls := .type "range", data := .fields #[.int lo t, .int hi u, .int 1 v] }, toks := tk } := by
  refine wpAny_pyIter_range (IsRange.new ..) (small_one h1 h2 h3 h4) ?_
  have I1 : Inv X pins σ H { s with heap := s.heap.push { cls := .type "range", data := .fields #[.int lo t, .int hi u, .int 1 v] }, toks := tk } := I.kept fun b o e => Heap.get?_push_of_some _ e
  refine ⟨(s.heap.push { cls := .type "range", data := .fields #[.int lo t, .int hi u, .int 1 v] }).objs.size, [(s.heap.push { cls := .type "range", data := .fields #[.int lo t, .int hi u, .int 1 v] }).objs.size], _, _, H, rfl,
    I1.kept (t' := tk) fun b o e => Heap.get?_push_of_some _ e, turn_range _ lo (hi - lo).toNat, ?_, fun b hb => ?_, q⟩
  · have e1 : lo + ((0 : Nat) : Int) * 1 = lo := by simp
    have e2 : (((hi - lo).toNat : Nat) : Int) - ((0 : Nat) : Int) = Builtin.Range.rangeSize lo hi 1 := by rw [rangeSize_one]; split <;> omega
    show IsRangeIter _ _ (lo + ((0 : Nat) : Int) * 1) ((((hi - lo).toNat : Nat) : Int) - ((0 : Nat) : Int)) 1
    rw [e1, e2]
    exact Heap.get?_push_size _ rfl
  · have e : b = (s.heap.push { cls := .type "range", data := .fields #[.int lo t, .int hi u, .int 1 v] }).objs.size := by simpa using hb
    subst e
    exact I1.fpOk (Nat.le_refl _) (I1.hok.fresh (Nat.le_refl _))
def iRng1 (ta : TA) : TI := fun σ H R => ta σ H fun vs H1 => ∃ j : Int, vs = [.int j] ∧ -(2 ^ 62) ≤ j ∧ j < 2 ^ 62 ∧ R (Itr 0 j.toNat) H1
theorem pi_range1 {a : Expr} {ta : TA} {p pos : Pos} (hg : Gl X "range") (hm : X.mg "range" = none) (ha : PA X [a] ta) (hs : starEach [a] X.env = [(false, eval a X.env)] := by rfl) : PI X tg (.Call (.Name "range" p) [a] [] pos) (iRng1 ta) := by
  intro pins s σ H R I h
  refine Call_ (ld_blt I hg hm boot_range (PyProof.Rows.callWith_type1 (thn (ha pos pins s σ H _ I h) fun us s1 ⟨vs, H1, I1, r1, q1⟩ => ?_) hs rfl))
  obtain ⟨j, e, q1, q2, q⟩ := q1
  subst e
  cases r1 with
  | cons r rr =>
    cases rr
    obtain ⟨t, rfl⟩ := r
    exact call_range_1 (range_it I1 (by omega) (by omega) q1 q2 (by simpa using q))
def tFor (wi : TI) (g : TG) (tb : TS) : TS := fun D σ H => wi σ H fun J H1 => ∃ W : Nat → Nat → St → Hp → Prop, (∃ m, W 0 m σ H1) ∧ ∀ i m σ H, W i m σ H →
  (J.stop i H ∧ D.nx σ H) ∨ (J.go i H ∧ ∃ N : St → Hp → Prop, (∀ σ' H', N σ' H' → ∃ m', m' < m ∧ W (i + 1) m' σ' H') ∧ ∀ x H', J.yld i H x H' → g x σ H' fun σ2 H2 => tb { D with nx := N, ct := N, bk := D.nx } σ2 H2)
def pinsAt (fp : List Addr) (h : Heap) : List (Addr × Obj) := fp.filterMap fun b => (h.get? b).map fun o => (b, o)
theorem mem_pinsAt {fp : List Addr} {h : Heap} {b : Addr} {o : Obj} (hb : b ∈ fp) (e : h.get? b = some o) : (b, o) ∈ pinsAt fp h := List.mem_filterMap.mpr ⟨b, hb, by rw [e]; rfl⟩
theorem of_pinsAt {fp : List Addr} {h : Heap} {p : Addr × Obj} (hp : p ∈ pinsAt fp h) : p.1 ∈ fp ∧ h.get? p.1 = some p.2 := by
  obtain ⟨b, hb, e⟩ := List.mem_filterMap.mp hp
  cases q : h.get? b with
  | none => rw [q] at e; cases e
  | some o =>
    rw [q] at e
    have e' : (b, o) = p := Option.some.inj e
    subst e'
    exact ⟨hb, q⟩
theorem Inv.pinned {pins : List (Addr × Obj)} {σ : St} {H : Hp} {s : Shared} {fp : List Addr} (I : Inv X pins σ H s) (hf : ∀ b ∈ fp, FpOk X pins H b) (ho : ∀ b ∈ fp, ∃ o, s.heap.get? b = some o ∧ ∀ v, o.data ≠ .cell v) : Inv X (pins ++ pinsAt fp s.heap) σ H s :=
  I.pins_of fun p hp => (List.mem_append.mp hp).elim (fun z => I.pin p (List.mem_append_right _ z)) fun z => by
    obtain ⟨hb, e⟩ := of_pinsAt z
    obtain ⟨f0, f1, f2, _⟩ := hf p.1 hb
    obtain ⟨o, e', d⟩ := ho p.1 hb
    rw [e] at e'; cases e'
    exact ⟨e, f0, f1, f2, d⟩
theorem Inv.unpinned {pins pl : List (Addr × Obj)} {σ : St} {H : Hp} {s : Shared} (I : Inv X (pins ++ pl) σ H s) : Inv X pins σ H s := I.pins_of fun p hp => I.pin p (List.mem_append_right _ (List.mem_append_left _ hp))
theorem ps_for {iter : Expr} {body : List Stmt} {wi : TI} {g : TG} {tb : TS} {pos : Pos} (hp : PassesOwn (model X.prog X.w) X.A X.env X.xe) (hc : X.calm = true) (hi : PI X tg iter wi) (hg : PG X tg g) (hb : PSs X body tb)
    (hs : ∀ x, foldedSetIterable iter X.env x = pure x := by intro _; rfl) : PS X (.For tg iter body [] pos) (tFor wi g tb) := by
  intro pins s σ H D I h
  refine wpAny_For (thn (hi pins s σ H _ I h) fun v s1 h1 => thn h1 fun itv s2 h2 => ?_) hs
  obtain ⟨it, fp, tn, J, H2, e, I2, T, st2, f2, W, ⟨m0, w0⟩, turn⟩ := h2
  subst e
  have stat : ∀ {H' : Hp}, (∀ b ∈ fp, H' b = none) → ∀ b ∈ fp, FpOk X pins H' b := fun hn b hb => ⟨hn b hb, (f2 b hb).2⟩
  refine codeAny_forLoop_any (fun n s' => ∃ i σ' H', Inv X pins σ' H' s' ∧ tn i s'.heap ∧ (∀ b ∈ fp, H' b = none) ∧ W i n σ' H') ?_ m0 ⟨0, σ, H2, I2, st2, fun b hb => (f2 b hb).1, w0⟩
  rintro n s3 ⟨i, σ3, H3, I3, st3, fr3, w3⟩
  rcases turn i n σ3 H3 w3 with ⟨stop, qn⟩ | ⟨go, N, hN, step⟩
  · refine wpAny_passesOwn hp (thn (T.done X rfl rfl rfl hc i pins s3 σ3 H3 X.xe I3 (stat fr3) st3 stop) fun r s4 ⟨hr, I4⟩ => ?_)
    subst hr
    exact wpAny_execs_nil ⟨σ3, H3, I4, qn⟩
  · refine wpAny_passesOwn hp (thn (T.item X rfl rfl rfl hc i pins s3 σ3 H3 X.xe I3 (stat fr3) st3 go) fun r s4 ⟨u, hr, h4⟩ => ?_)
    subst hr
    refine wpAny_passesOwn hp (thn h4 fun _ s5 ⟨x, H5, I5, r5, y5, st5, fr5⟩ => ?_)
    have I5' := I5.pinned (stat fr5) (T.obj _ _ st5)
    refine wpAny_passesOwn hp (thn (hg _ s5 σ3 H5 x u _ I5' r5 (step x H5 y5)) fun _ s6 ⟨σ6, H6, I6, q6⟩ => ?_)
    refine wpAny_passesOwn hp (thn (hb _ s6 σ6 H6 _ I6 q6) fun f s7 q7 => ?_)
    have again : ∀ {σ7 : St} {H7 : Hp}, Inv X (pins ++ pinsAt fp s5.heap) σ7 H7 s7 → N σ7 H7 → ∃ m, m < n ∧ ∃ i σ' H', Inv X pins σ' H' s7 ∧ tn i s7.heap ∧ (∀ b ∈ fp, H' b = none) ∧ W i m σ' H' := fun {σ7 H7} I7 n7 => by
      obtain ⟨m', hm, w7⟩ := hN σ7 H7 n7
      refine ⟨m', hm, i + 1, σ7, H7, I7.unpinned, T.keep _ _ _ st5 fun b hb o e => (I7.pin (b, o) (List.mem_append_right _ (List.mem_append_right _ (mem_pinsAt hb e)))).1, fun b hb => ?_, w7⟩
      obtain ⟨o, e, d⟩ := T.obj _ _ st5 b hb
      exact (I7.pin (b, o) (List.mem_append_right _ (List.mem_append_right _ (mem_pinsAt hb e)))).2.1
    cases f with
    | next => obtain ⟨σ7, H7, I7, n7⟩ := q7; exact again I7 n7
    | cont => obtain ⟨σ7, H7, I7, n7⟩ := q7; exact again I7 n7
    | brk => obtain ⟨σ7, H7, I7, q7⟩ := q7; exact ⟨σ7, H7, I7.unpinned, q7⟩
    | ret v => obtain ⟨x7, σ7, H7, I7, r7, q7⟩ := q7; exact ⟨x7, σ7, H7, I7.unpinned, r7, q7⟩
end
end L2
namespace L2
open PySem PySem.Spec PyProof.Rows
abbrev R2 := V → V → Hp → VK → Prop
def OpR (X : Cx) (f : Value → Value → Sem Value) (r : R2) : Prop :=
  ∀ (pins : List (Addr × Obj)) (s : Shared) (σ : St) (H : Hp) (x y : V) (v u : Value) (Q : VK), Inv X pins σ H s → RelV x v → RelV y u → r x y H Q →
    wpAny (model X.prog X.w) X.A (f v u) (EP X pins σ Q) X.xe s
def UnR (X : Cx) (f : Value → Sem Value) (r : V → Hp → VK → Prop) : Prop :=
  ∀ (pins : List (Addr × Obj)) (s : Shared) (σ : St) (H : Hp) (x : V) (v : Value) (Q : VK), Inv X pins σ H s → RelV x v → r x H Q →
    wpAny (model X.prog X.w) X.A (f v) (EP X pins σ Q) X.xe s
def CallR (X : Cx) (f : Value) (r : List V → Hp → VK → Prop) : Prop :=
  ∀ (pins : List (Addr × Obj)) (s : Shared) (σ : St) (H : Hp) (xs : List V) (us : List Value) (Q : VK), Inv X pins σ H s → Vals xs us → r xs H Q →
    wpAny (model X.prog X.w) X.A (call f us) (EP X pins σ Q) X.xe s
def tOp (r : R2) (ta tb : TE) : TE := fun σ H Q => ta σ H fun x H1 => tb σ H1 fun y H2 => r x y H2 Q
def tUn (r : V → Hp → VK → Prop) (ta : TE) : TE := fun σ H Q => ta σ H fun x H1 => r x H1 Q
def rI (C : Int → Int → Prop) (g : Int → Int → V) : R2 := fun x y H Q => ∃ i j, x = .int i ∧ y = .int j ∧ C i j ∧ Q (g i j) H
def rI0 (g : Int → Int → V) : R2 := fun x y H Q => ∃ i j, x = .int i ∧ y = .int j ∧ Q (g i j) H
def rU (g : Int → V) : V → Hp → VK → Prop := fun x H Q => ∃ i, x = .int i ∧ Q (g i) H
section
variable {X : Cx} {a b c : Expr} {ta tb tc : TE} {pos : Pos}
theorem binT (ha : PE X a ta) (hb : PE X b tb) {pins : List (Addr × Obj)} {s : Shared} {σ : St} {H : Hp} {R : V → V → Hp → Prop} (I : Inv X pins σ H s)
    (h : ta σ H fun x H1 => tb σ H1 fun y H2 => R x y H2) {Q : Value → Shared → Prop} {f : Value → Value → Sem Value}
    (hf : ∀ v u s2 x y H2, Inv X pins σ H2 s2 → RelV x v → RelV y u → R x y H2 → wpAny (model X.prog X.w) X.A (f v u) Q X.xe s2) :
    wpAny (model X.prog X.w) X.A (eval a X.env) (fun v s₁ => wpAny (model X.prog X.w) X.A (eval b X.env) (fun u s₂ => wpAny (model X.prog X.w) X.A (f v u) Q X.xe s₂) X.xe s₁) X.xe s := by
  refine thn (ha pins s σ H _ I h) fun v s1 ⟨x, H1, I1, r1, q1⟩ => ?_
  refine thn (hb pins s1 σ H1 _ I1 q1) fun u s2 ⟨y, H2, I2, r2, q2⟩ => ?_
  exact hf v u s2 x y H2 I2 r1 r2 q2
theorem pe_op {op : Operator} {r : R2} (ho : OpR X (binaryOp op) r) (ha : PE X a ta) (hb : PE X b tb) : PE X (.BinOp a op b pos) (tOp r ta tb) := by
  intro pins s σ H Q I h
  exact wpAny_BinOp (binT ha hb I h fun v u s2 x y H2 I2 rx ry q => ho pins s2 σ H2 x y v u Q I2 rx ry q)
theorem pe_un {op : UnaryOp} {r : V → Hp → VK → Prop} (ho : UnR X (unaryOp op) r) (ha : PE X a ta) : PE X (.UnaryOp op a pos) (tUn r ta) := by
  intro pins s σ H Q I h
  exact UnaryOp_ (thn (ha pins s σ H _ I h) fun v s1 ⟨x, H1, I1, r1, q1⟩ => ho pins s1 σ H1 x v Q I1 r1 q1)
theorem opI {f : Value → Value → Sem Value} {C : Int → Int → Prop} {g : Int → Int → Int}
    (rule : ∀ (i j : Int) (t u : Tok) (s : Shared) (Q : Value → Shared → Prop) (E : Value → Shared → Prop), C i j → Q (.int (g i j) s.toks) { s with toks := s.toks + 1 } → wpAny (model X.prog X.w) X.A (f (.int i t) (.int j u)) Q E s) :
    OpR X f (rI C fun i j => .int (g i j)) := by
  intro pins s σ H x y v u Q I rx ry h
  obtain ⟨i, j, rfl, rfl, hc, q⟩ := h
  obtain ⟨t, rfl⟩ := rx
  obtain ⟨t', rfl⟩ := ry
  exact rule i j t t' s _ _ hc ⟨.int (g i j), H, I.tok _, ⟨_, rfl⟩, q⟩
theorem opI0 {f : Value → Value → Sem Value} {g : Int → Int → Int}
    (rule : ∀ (i j : Int) (t u : Tok) (s : Shared) (Q : Value → Shared → Prop) (E : Value → Shared → Prop), Q (.int (g i j) s.toks) { s with toks := s.toks + 1 } → wpAny (model X.prog X.w) X.A (f (.int i t) (.int j u)) Q E s) :
    OpR X f (rI0 fun i j => .int (g i j)) := by
  intro pins s σ H x y v u Q I rx ry h
  obtain ⟨i, j, rfl, rfl, q⟩ := h
  obtain ⟨t, rfl⟩ := rx
  obtain ⟨t', rfl⟩ := ry
  exact rule i j t t' s _ _ ⟨.int (g i j), H, I.tok _, ⟨_, rfl⟩, q⟩
theorem opB0 {f : Value → Value → Sem Value} {g : Int → Int → Bool}
    (rule : ∀ (i j : Int) (t u : Tok) (s : Shared) (Q : Value → Shared → Prop) (E : Value → Shared → Prop), Q (.bool (g i j)) s → wpAny (model X.prog X.w) X.A (f (.int i t) (.int j u)) Q E s) :
    OpR X f (rI0 fun i j => .bl (g i j)) := by
  intro pins s σ H x y v u Q I rx ry h
  obtain ⟨i, j, rfl, rfl, q⟩ := h
  obtain ⟨t, rfl⟩ := rx
  obtain ⟨t', rfl⟩ := ry
  exact rule i j t t' s _ _ ⟨.bl (g i j), H, I, rfl, q⟩
def CPow (i j : Int) : Prop := 0 ≤ j ∧ j ≤ 1000000 ∧ i.natAbs < 2 ^ 64
def CMul (i j : Int) : Prop := (-(2 ^ 64) < i ∧ i < 2 ^ 64) ∨ (-(2 ^ 64) < j ∧ j < 2 ^ 64)
theorem CMul.ok {i j : Int} (h : CMul i j) : IntMulOk i j := by
  rcases h with ⟨h1, h2⟩ | ⟨h1, h2⟩
  · exact .of_left (intBits_le_64 h1 h2)
  · exact .of_right (intBits_le_64 h1 h2)
theorem op_add : OpR X (binaryOp .Add) (rI0 fun i j => .int (i + j)) := opI0 fun _ _ _ _ _ _ _ q => add_int q
theorem op_sub : OpR X (binaryOp .Sub) (rI0 fun i j => .int (i - j)) := opI0 fun _ _ _ _ _ _ _ q => sub_int q
theorem op_mul : OpR X (binaryOp .Mult) (rI CMul fun i j => .int (i * j)) := opI fun _ _ _ _ _ _ _ hc q => mul_int q hc.ok
theorem op_mod : OpR X (binaryOp .Mod) (rI (fun _ j => 0 < j) fun i j => .int (i % j)) := opI fun i j _ _ _ _ _ hc q => by
  have h1 : (0 : Int) < j := hc
  exact mod_int' (by omega) (by rw [Int.fmod_eq_emod_of_nonneg i (by omega)]; exact q)
theorem op_pow : OpR X (binaryOp .Pow) (rI CPow fun i j => .int (i ^ j.toNat)) := opI fun _ _ _ _ _ _ _ hc q => pow_int_small hc.1 hc.2.1 hc.2.2 q
theorem unI {f : Value → Sem Value} {g : Int → Int}
    (rule : ∀ (i : Int) (t : Tok) (s : Shared) (Q : Value → Shared → Prop) (E : Value → Shared → Prop), Q (.int (g i) s.toks) { s with toks := s.toks + 1 } → wpAny (model X.prog X.w) X.A (f (.int i t)) Q E s) :
    UnR X f (rU fun i => .int (g i)) := by
  intro pins s σ H x v Q I rx h
  obtain ⟨i, rfl, q⟩ := h
  obtain ⟨t, rfl⟩ := rx
  exact rule i t s _ _ ⟨.int (g i), H, I.tok _, ⟨_, rfl⟩, q⟩
theorem un_neg : UnR X (unaryOp .USub) (rU fun i => .int (-i)) := unI fun _ _ _ _ _ q => neg_int q
end
section
variable {X : Cx} {a b c : Expr} {ta tb tc : TE} {pos : Pos}
theorem fin_bl {pins : List (Addr × Obj)} {σ : St} {H : Hp} {s : Shared} {Q : VK} {k k' : Bool} (I : Inv X pins σ H s) (q : Q (.bl k) H) (e : k = k') : EP X pins σ Q (.bool k') s := by
  subst e
  exact ⟨.bl k, H, I, rfl, q⟩
theorem op_lt : OpR X (compareOp .Lt) (rI0 fun i j => .bl (decide (i < j))) := opB0 fun _ _ _ _ _ _ _ q => lt_int q
theorem op_le : OpR X (compareOp .LtE) (rI0 fun i j => .bl (decide (i ≤ j))) := opB0 fun _ _ _ _ _ _ _ q => le_int q
theorem op_gt : OpR X (compareOp .Gt) (rI0 fun i j => .bl (decide (j < i))) := opB0 fun _ _ _ _ _ _ _ q => gt_int q
theorem op_ge : OpR X (compareOp .GtE) (rI0 fun i j => .bl (decide (j ≤ i))) := opB0 fun _ _ _ _ _ _ _ q => ge_int q
theorem OpR.or {f : Value → Value → Sem Value} {r r' : R2} (h : OpR X f r) (h' : OpR X f r') : OpR X f (fun x y H Q => r x y H Q ∨ r' x y H Q) := by
  intro pins s σ H x y v u Q I rx ry q
  rcases q with q | q
  · exact h pins s σ H x y v u Q I rx ry q
  · exact h' pins s σ H x y v u Q I rx ry q
theorem nomark (b : Expr) {op : CmpOp} (h : op ≠ .In := by decide) (h2 : op ≠ .NotIn := by decide) : behindInMarks op b = false := by
  have e1 : (op == CmpOp.In) = false := by cases op <;> first | rfl | exact absurd rfl h
  have e2 : (op == CmpOp.NotIn) = false := by cases op <;> first | rfl | exact absurd rfl h2
  cases b <;> simp [behindInMarks, e1, e2]
theorem pe_cmpR {op : CmpOp} {r : R2} (ho : OpR X (compareOp op) r) (ha : PE X a ta) (hb : PE X b tb) (hm : behindInMarks op b = false) : PE X (.Compare a [op] [b] pos) (tOp r ta tb) := by
  intro pins s σ H Q I h
  exact wpAny_Compare1 (binT ha hb I h fun v u s2 x y H2 I2 rx ry q => ho pins s2 σ H2 x y v u Q I2 rx ry q) hm
def tTest (t : TE) : TT := fun σ H Q => t σ H fun x H' => ∃ k, x = .bl k ∧ Q k H'
theorem pt_cmpR {op : CmpOp} {r : R2} (ho : OpR X (compareOp op) r) (ha : PE X a ta) (hb : PE X b tb) (hm : behindInMarks op b = false) : PT X (.Compare a [op] [b] pos) (tTest (tOp r ta tb)) := by
  intro pins s σ H Q I h
  refine wpAny_isTrue_Compare1 (thn (ha pins s σ H _ I h) fun v s1 ⟨x, H1, I1, r1, q1⟩ => thn (hb pins s1 σ H1 _ I1 q1) fun u s2 ⟨y, H2, I2, r2, q2⟩ =>
    thn (ho pins s2 σ H2 x y v u _ I2 r1 r2 q2) fun c s3 ⟨z, H3, I3, r3, k, e, q3⟩ => ?_) hm
  subst e
  cases r3
  exact wpAny_truthy_bool ⟨H3, I3, q3⟩
def tChain (r r' : R2) (ta tb tc : TE) : TE := fun σ H Q => ta σ H fun x H1 => tb σ H1 fun y H2 => r x y H2 fun z H3 => ∃ k, z = .bl k ∧
  (if k = true then tc σ H3 fun w' H4 => r' y w' H4 Q else Q (.bl false) H3)
theorem pe_chain {op op' : CmpOp} {r r' : R2} (ho : OpR X (compareOp op) r) (ho' : OpR X (compareOp op') r') (ha : PE X a ta) (hb : PE X b tb) (hc : PE X c tc)
    (hm : lastMarks [op, op'] [b, c] = false := by with_unfolding_all rfl) : PE X (.Compare a [op, op'] [b, c] pos) (tChain r r' ta tb tc) := by
  intro pins s σ H Q I h
  refine Compare_chain (thn (ha pins s σ H _ I h) fun v s1 ⟨x, H1, I1, r1, q1⟩ => chain_link (thn (hb pins s1 σ H1 _ I1 q1) fun u s2 ⟨y, H2, I2, r2, q2⟩ =>
    thn (ho pins s2 σ H2 x y v u _ I2 r1 r2 q2) fun d s3 ⟨z, H3, I3, r3, k, e, q3⟩ => ?_)) hm
  subst e
  cases r3
  refine wpAny_truthy_bool ?_
  cases k with
  | false => exact ite_ff ⟨.bl false, H3, I3, rfl, q3⟩
  | true => exact ite_tt (chain_last (thn (hc pins s3 σ H3 _ I3 q3) fun w' s4 ⟨z', H4, I4, r4, q4⟩ => ho' pins s4 σ H4 y z' u w' Q I4 r2 r4 q4))
theorem line63 : (sizeLine : Nat) < 2 ^ 63 := by rw [sizeLine_eq]; decide
theorem vals1 {x : V} {us : List Value} (r : Vals [x] us) : ∃ u, us = [u] ∧ RelV x u := by
  cases r with
  | cons r1 r2 => cases r2; exact ⟨_, rfl, r1⟩
theorem vals2 {x y : V} {us : List Value} (r : Vals [x, y] us) : ∃ u w', us = [u, w'] ∧ RelV x u ∧ RelV y w' := by
  cases r with
  | cons r1 r2 =>
    cases r2 with
    | cons r3 r4 => cases r4; exact ⟨_, _, rfl, r1, r3⟩
end
end L2
namespace L2
open PySem PySem.Spec PyProof.Rows
structure ObjM (h : Heap) (x dx C : Addr) (mA : Str → Option Value) : Prop where
  obj : h.get? x = some (PySem.W.instObj C dx)
  ns : h.Ns1 dx mA
  ne : dx ≠ x
theorem lookIn_ns {h : Heap} {dx : Addr} {mA : Str → Option Value} (n : h.Ns1 dx mA) : ∃ od, h.get? dx = some od ∧ ∀ name, PySem.W.lookIn name od = some (mA name) := by
  obtain ⟨o, es, ep, ho, hd, hk, _, hm⟩ := n
  refine ⟨o, ho, fun name => ?_⟩
  have e := hm name
  unfold nsFind findBy at e
  rw [← Array.find?_toList] at e
  unfold PySem.W.lookIn
  rw [hd]
  dsimp only
  split
  · rename_i y q
    rw [q] at e
    exact congrArg some e
  · rename_i q
    rw [q] at e
    have a : es.toList.any (·.refKey) = false := by
      rw [List.any_eq_false]
      intro y hy
      obtain ⟨z, t, hkey⟩ := hk y (Array.mem_toList_iff.mp hy)
      simp [DictEntry.refKey, hkey]
    have a' : ¬ es.toList.any (·.refKey) = true := by rw [a]; exact Bool.false_ne_true
    rw [if_neg a']
    exact congrArg some e
theorem ObjM.look {h : Heap} {x dx C : Addr} {mA : Str → Option Value} (I : ObjM h x dx C mA) : ∃ od, PySem.W.InstAt h x (PySem.W.instObj C dx) C (some od) ∧ ∀ name, PySem.W.lookIn name od = some (mA name) :=
  let ⟨od, ho, hl⟩ := lookIn_ns I.ns
  ⟨od, ⟨I.obj, rfl, rfl, ho⟩, hl⟩
section
variable {prog : Program} {w : World} {A : Around} {E : Value → Shared → Prop} {s : Shared} {K : PySem.W.Frag} {x dx C f : Addr} {mA : Str → Option Value} {name : Str} {v : Value}
end
section
variable {P : Program} {w : World} {H H' : Hp} {h h' : Heap} {a C dx : Addr} {fs fs' : List (Str × V)}
end
structure Cls (K : PySem.W.Frag) (C : Addr) : Prop where
  pg : PySem.W.plainGet K C Str.empty = true
  hd : PySem.W.hasDictIn K C = true
  po : PySem.W.plainOver K C = true
  sa : PySem.W.findIn K (.ref C) "__setattr__" = some (some (.builtin "object.__setattr__"))
theorem Cls.get {K : PySem.W.Frag} {C : Addr} (c : Cls K C) (f : Str) : PySem.W.plainGet K C f = true := c.pg
section
variable {X : Cx} {pins : List (Addr × Obj)} {σ : St} {H : Hp} {s : Shared} {a C dx : Addr} {fs : List (Str × V)} {f : Str} {v : V} {A : Around} {E : Value → Shared → Prop}
theorem Inv.made (I : Inv X pins σ H s) : Inv X pins σ (upd (upd H s.heap.objs.size (.own (s.heap.objs.size + 1))) (s.heap.objs.size + 1) (.ins C s.heap.objs.size []))
    { s with heap := (s.heap.push PySem.W.emptyDict).push (PySem.W.instObj C s.heap.objs.size) } := by
  have e1 : (s.heap.push PySem.W.emptyDict).get? s.heap.objs.size = some PySem.W.emptyDict := Heap.get?_push_size s.heap rfl
  have e2 : ((s.heap.push PySem.W.emptyDict).push (PySem.W.instObj C s.heap.objs.size)).get? (s.heap.objs.size + 1) = some (PySem.W.instObj C s.heap.objs.size) := by
    have := Heap.get?_push_size (s.heap.push PySem.W.emptyDict) (o := PySem.W.instObj C s.heap.objs.size) rfl
    rwa [Heap.size_push] at this
  have e3 : (s.heap.push PySem.W.emptyDict).Ns s.heap.objs.size (fun _ => none) := ⟨PySem.W.emptyDict, #[], _, e1, rfl, (fun e he => absurd he (by simp)), fun _ => rfl⟩
  have I1 := I.laid (a := s.heap.objs.size) (o := .own (s.heap.objs.size + 1)) (h' := s.heap.push PySem.W.emptyDict) (t' := s.toks) (fun b u q => Heap.get?_push_of_some _ q) (Nat.le_refl _) ⟨_, e1⟩
  refine I1.laid (a := s.heap.objs.size + 1) (o := .ins C s.heap.objs.size []) (t' := s.toks) (fun b u q => Heap.get?_push_of_some _ q) (Nat.le_of_eq (Heap.size_push _ _)) ?_
  have ne : s.heap.objs.size ≠ s.heap.objs.size + 1 := Nat.ne_of_lt (Nat.lt_succ_self _)
  refine ⟨by rw [upd_ne ne, upd_same], Nat.zero_le _, ne, e2, fun _ => none, (Heap.Ns1.of_empty e3).at fun o q => Heap.get?_push_of_some _ q, fun _ => True.intro, fun y hy => absurd rfl hy⟩
end
section
variable {X : Cx} {o e value : Expr} {f : Str} {pos pos' tpos : Pos} {ta tv : TE}
end
section
variable {X : Cx} {pins : List (Addr × Obj)} {σ : St} {H : Hp} {s : Shared} {A : Around} {E : Value → Shared → Prop} {Q : Value → Shared → Prop} {c : Value} {b : Bool}
end
end L2
namespace L2
open PySem PySem.Spec PyProof.Rows
structure Room (k : Nat) (A : Around) : Prop where
  hd : A.handled = none
  dp : A.depth + 3 * k + 5 < recursionLimit
  un : A.units + 16 * k + 200 < cLine
theorem Room.mono {j k : Nat} {A : Around} (r : Room k A) (h : j ≤ k) : Room j A := ⟨r.hd, by have := r.dp; omega, by have := r.un; omega⟩
theorem Room.deeper {k : Nat} {A : Around} (r : Room (k + 1) A) (env : Env) : Room k (A.deeper env) :=
  ⟨r.hd, by have := r.dp; show A.depth + 1 + 3 * k + 5 < _; omega, by have := r.un; show A.units + 3 + 16 * k + 200 < _; omega⟩
theorem Room.in1 {k : Nat} {A : Around} (r : Room (k + 1) A) : Room k A.in1 :=
  ⟨r.hd, by have := r.dp; show A.depth + 3 * k + 5 < _; omega, by have := r.un; show A.units + 1 + 16 * k + 200 < _; omega⟩
theorem Room.depth {k : Nat} {A : Around} (r : Room k A) : A.depth < recursionLimit := by have := r.dp; omega
theorem Room.units {k : Nat} {A : Around} (r : Room k A) : A.units + 64 < cLine := by have := r.un; omega
def tNil : TA := fun _ H Q => Q [] H
def tCons (ta : TE) (tr : TA) : TA := fun σ H Q => ta σ H fun x H1 => tr σ H1 fun xs H2 => Q (x :: xs) H2
section
variable {X : Cx} {e : Expr} {es : List Expr} {te : TE} {t : TA} {pos : Pos}
theorem pa_nil : PA X [] tNil := fun _ _ _ _ H Q I h => Calls.spliced_nil ⟨[], H, I, .nil, h⟩
theorem pa_cons (ha : PE X e te) (hr : PA X es t) (hs : starEach (e :: es) X.env = (false, eval e X.env) :: starEach es X.env := by rfl) : PA X (e :: es) (tCons te t) := by
  intro pos pins s σ H Q I h
  rw [hs]
  show wpAny _ _ (spliced ((false, eval e X.env) :: backTo pos (starEach es X.env))) _ _ s
  refine Calls.spliced_cons (thn (ha pins s σ H _ I h) fun u s1 ⟨x, H1, I1, r1, q1⟩ => ?_)
  exact thn (hr pos pins s1 σ H1 _ I1 q1) fun us s2 ⟨xs, H2, I2, r2, q2⟩ => ⟨x :: xs, H2, I2, .cons r1 r2, q2⟩
def tTup (t : TA) : TE := fun σ H Q => t σ H fun xs H1 => xs.length ≤ sizeLine ∧ ∀ p, H1 p = none → Q (.ref p) (upd H1 p (.tup xs))
def tLst (t : TA) : TE := fun σ H Q => t σ H fun xs H1 => xs.length ≤ sizeLine ∧ ∀ p, H1 p = none → Q (.ref p) (upd H1 p (.lst xs))
theorem pe_tup {x1} (h : PA X es t) : PE X (.Tuple es x1 pos) (tTup t) := by
  intro pins s σ H Q I hq
  refine wpAny_Tuple_spliced (thn (h pos pins s σ H _ I hq) fun us s1 ⟨xs, H1, I1, r, z, q⟩ => ⟨by rw [← r.length]; exact z, ?_⟩)
  have hf : H1 s1.heap.objs.size = none := I1.hok.fresh (Nat.le_refl _)
  refine ⟨.ref s1.heap.objs.size, upd H1 s1.heap.objs.size (.tup xs), I1.laid (t' := s1.toks) (fun b u e => Heap.get?_push_of_some _ e) (Nat.le_refl _) ?_, rfl, q _ hf⟩
  exact ⟨z, us, r, ⟨_, Heap.get?_push_size _ rfl, rfl, _, rfl⟩⟩
theorem pe_lst (h : PA X es t) : PE X (.List es pos) (tLst t) := by
  intro pins s σ H Q I hq
  refine wpAny_List_spliced (thn (h pos pins s σ H _ I hq) fun us s1 ⟨xs, H1, I1, r, z, q⟩ => ⟨by rw [← r.length]; exact z, ?_⟩)
  have hf : H1 s1.heap.objs.size = none := I1.hok.fresh (Nat.le_refl _)
  refine ⟨.ref s1.heap.objs.size, upd H1 s1.heap.objs.size (.lst xs), I1.laid (t' := s1.toks) (fun b u e => Heap.get?_push_of_some _ e) (Nat.le_refl _) ?_, rfl, q _ hf⟩
  exact ⟨z, us, 0, r, Heap.get?_push_size _ rfl⟩
end
abbrev Sp := List V → Hp → VK → XK → Prop
abbrev CXT := List Env → Hp → Shared → XK → Value → Shared → Prop
structure Env0 (P : Program) (w : World) (K : PySem.W.Frag) (mg : Str → Option Value) (base : Heap) (A : Around) (outer : List Env) (s : Shared) (H : Hp) : Prop where
  frames : A.frames = some outer
  mod : Mod K mg base
  bs : ∀ b o, base.get? b = some o → s.heap.get? b = some o ∧ H b = none
  bsz : base.objs.size ≤ s.heap.objs.size
  funs : s.heap.FunFrames base outer
  frf : ∀ b ∈ frs outer, H b = none
  hok : HOk P w H s.heap
  bare : AllBare s.gens
def CE (outer : List Env) (P : Program) (w : World) (H : Hp) (s : Shared) (Q : VK) (u : Value) (s' : Shared) : Prop :=
  ∃ v H', s'.os = s.os ∧ AllBare s'.gens ∧ Un (frs outer) [] H H' s.heap s'.heap ∧ HOk P w H' s'.heap ∧ RelV v u ∧ Q v H'
def CR (CX : CXT) (outer : List Env) (P : Program) (w : World) (H : Hp) (s : Shared) (Q : VK) (E : XK) (r : Result) (s' : Shared) : Prop :=
  match r with
  | .ok (.ret u) => CE outer P w H s Q u s'
  | .ok _ => False
  | .error e => CX outer H s E e s'
structure FnOk (P : Program) (w : World) (K : PySem.W.Frag) (mg : Str → Option Value) (base : Heap) (CX : CXT) (k : Nat) (f : Addr) (fd : FuncData) (ps : List Str) (sp : Sp) : Prop where
  len : ∀ vs H Q E, sp vs H Q E → vs.length = ps.length
  run : ∀ (A : Around) (outer : List Env) (s : Shared) (H : Hp) (args : Args) (us : List Value) (vs : List V) (Q : VK) (E : XK), Room k A → Env0 P w K mg base A outer s H → BindsTo s fd args (ps.zip us) → Vals vs us → sp vs H Q E →
    codeAny (model P w) A (.call (.ref f) args) (CR CX outer P w H s Q E) s
theorem FnOk.mono {P : Program} {w : World} {K : PySem.W.Frag} {mg : Str → Option Value} {base : Heap} {CX : CXT} {j k : Nat} {f : Addr} {fd : FuncData} {ps : List Str} {sp : Sp} (F : FnOk P w K mg base CX j f fd ps sp) (h : j ≤ k) :
    FnOk P w K mg base CX k f fd ps sp := ⟨F.len, fun A outer s H args us vs Q E hr => F.run A outer s H args us vs Q E (hr.mono h)⟩
theorem FnOk.imp {P : Program} {w : World} {K : PySem.W.Frag} {mg : Str → Option Value} {base : Heap} {CX : CXT} {k : Nat} {f : Addr} {fd : FuncData} {ps : List Str} {sp sp' : Sp} (F : FnOk P w K mg base CX k f fd ps sp)
    (h : ∀ vs H Q E, sp' vs H Q E → sp vs H Q E) : FnOk P w K mg base CX k f fd ps sp' :=
  ⟨fun vs H Q E q => F.len vs H Q E (h _ _ _ _ q), fun A outer s H args us vs Q E hr he hb hv hs => F.run A outer s H args us vs Q E hr he hb hv (h _ _ _ _ hs)⟩
theorem Env0.in1 {P : Program} {w : World} {K : PySem.W.Frag} {mg : Str → Option Value} {base : Heap} {A : Around} {outer : List Env} {s : Shared} {H : Hp} (e : Env0 P w K mg base A outer s H) :
    Env0 P w K mg base A.in1 outer s H := ⟨e.frames, e.mod, e.bs, e.bsz, e.funs, e.frf, e.hok, e.bare⟩
section
variable {X : Cx} {pins : List (Addr × Obj)} {σ : St} {H : Hp} {s s' : Shared}
theorem Inv.env0 (I : Inv X pins σ H s) : Env0 X.prog X.w X.K X.mg X.base X.A X.stack s H :=
  ⟨I.ok.frames, I.ok.mod, I.bs, Nat.le_trans I.ok.bsz I.sz, I.stack, I.stkFree, I.hok, I.bare⟩
theorem Inv.after {Q : VK} {u : Value} (I : Inv X pins σ H s) (h : CE X.stack X.prog X.w H s Q u s') : EP X pins σ Q u s' := by
  obtain ⟨v, H', os, bare, un, hok, r, q⟩ := h
  obtain ⟨hh, g, d, t, os'⟩ := s'
  obtain rfl : os' = s.os := os
  exact ⟨v, H', I.call (h' := hh) (g' := g) (d' := d) (t' := t) (ch := []) un hok bare (fun b z => absurd z (by simp)), r, q⟩
end
def tCall (sp : Sp) (dvs : List V) (E : XK) (t : TA) : TE := fun σ H Q => t σ H fun vs H1 => sp (vs ++ dvs) H1 Q E
def Binds (K : PySem.W.Frag) (fd : FuncData) (ps : List Str) (ds : List Value) : Prop :=
  ∀ (s : Shared) (us : List Value), K.In s.heap → (us ++ ds).length = ps.length → BindsTo s fd ⟨us, []⟩ (ps.zip (us ++ ds))
theorem Binds.all {K : PySem.W.Frag} {fd : FuncData} {ps : List Str} (h : ∀ us : List Value, us.length = ps.length → bindArgs fd ⟨us, []⟩ = pure (ps.zip us)) : Binds K fd ps [] := fun s us _ hl => by
  rw [List.append_nil] at hl ⊢
  exact .of_eq (h us hl)
def Passes (CX : CXT) (X : Cx) (E : XK) : Prop := ∀ (pins : List (Addr × Obj)) (σ : St) (H : Hp) (s : Shared) (e : Value) (s' : Shared), Inv X pins σ H s → CX X.stack H s E e s' → X.xe e s'
section
variable {X : Cx} {CX : CXT} {k : Nat} {f C : Addr} {fd : FuncData} {ps : List Str} {sp : Sp} {dvs : List V} {ds : List Value} {E : XK} {x m : Str} {p pos apos : Pos} {e o : Expr} {es : List Expr} {ta : TE} {t : TA}
theorem run_fn {pins : List (Addr × Obj)} {σ : St} {H : Hp} {s : Shared} {Q : VK} {us : List Value} {vs : List V} (F : FnOk X.prog X.w X.K X.mg X.base CX k f fd ps sp) (hr : Room k X.A) (hb : Binds X.K fd ps ds) (hd : Vals dvs ds) (hx : Passes CX X E)
    (I : Inv X pins σ H s) (r : Vals vs us) (h : sp (vs ++ dvs) H Q E) : wpAny (model X.prog X.w) X.A (call (.ref f) us) (EP X pins σ Q) X.xe s := by
  have r2 : Vals (vs ++ dvs) (us ++ ds) := r.append hd
  have hl : (us ++ ds).length = ps.length := by rw [← r2.length]; exact F.len _ _ _ _ h
  refine wpAny_call (codeAny_mono (F.run X.A X.stack s H ⟨us, []⟩ (us ++ ds) (vs ++ dvs) Q E hr I.env0 (hb s us I.kIn hl) r2 h) fun r s' hq => ?_)
  cases r with
  | error e => exact hx pins σ H s e s' I hq
  | ok fl =>
    cases fl with
    | ret u => exact I.after hq
    | next => exact False.elim hq
    | brk => exact False.elim hq
    | cont => exact False.elim hq
theorem pe_call (F : FnOk X.prog X.w X.K X.mg X.base CX k f fd ps sp) (hr : Room k X.A) (hg : Gl X x) (hm : X.mg x = some (.ref f)) (hk : PySem.W.keepIn X.K (.ref f) = true) (hb : Binds X.K fd ps ds) (hd : Vals dvs ds) (hx : Passes CX X E)
    (ha : PA X (e :: es) t) (hdb : (x == ("__debug__" : Str)) = false := by decide) (he : starEach (e :: es) X.env = (false, eval e X.env) :: starEach es X.env := by rfl) (hpl : (backTo pos (starEach es X.env)).any (·.1) = false := by rfl) :
    PE X (.Call (.Name x p) (e :: es) [] pos) (tCall sp dvs E t) := by
  intro pins s σ H Q I h
  refine wpAny_Call_Name_kw (ld_glob I hg hm ?_ hdb)
  refine PySem.W.callWith_K (h₀ := X.base) I.ok.mod.kin hk (thn (ha pos pins s σ H _ I h) fun us s1 ⟨vs, H1, I1, r, q⟩ => ⟨I1.kIn, ?_⟩) he hpl
  exact run_fn F hr hb hd hx I1 r q
end
def PK (X : Cx) (kws : List Keyword) (t : TA) : Prop :=
  ∀ (pos : Pos) (pins : List (Addr × Obj)) (s : Shared) (σ : St) (H : Hp) (Q : List V → Hp → Prop), Inv X pins σ H s → t σ H Q → wpAny (model X.prog X.w) X.A (evalAll ((backToKw pos (keywordEach kws X.env)).map (·.2))) (AP X pins σ Q) X.xe s
section
variable {X : Cx} {CX : CXT} {k : Nat} {f C : Addr} {fd : FuncData} {ps ks : List Str} {sp : Sp} {E : XK} {x m : Str} {p pos apos kpos : Pos} {e o : Expr} {es : List Expr} {kws : List Keyword} {te ta : TE} {t tk : TA} {nm : Option Str}
variable {g : List Value → List Value → List Value} {gV : List V → List V → List V}
end
structure FnScope (N P : List Str) (sc : Scope) : Prop where
  kind : sc.kind = .function
  co : sc.isCoroutine = false
  gen : sc.isGenerator = false
  nd : N.Nodup
  pre : N.take P.length = P
  par : ∀ x ∈ P, sc.names.lookup x = some .local ∨ sc.names.lookup x = some .cell
  nofree : ∀ y ∈ sc.names, y.2 ≠ .free
theorem bindL_out {kindOf : Str → Option NameKind} {x : Str} : ∀ {binds : List (Str × Value)} {m : Str → Option Value}, (∀ v, (x, v) ∉ binds) → bindL kindOf binds m x = m x
  | [], _, _ => rfl
  | (n, v) :: r, m, h => by
    unfold bindL
    rw [bindL_out fun w hw => h w (List.mem_cons_of_mem _ hw)]
    split
    · have : x ≠ n := by rintro rfl; exact h v List.mem_cons_self
      simp [this]
    · rfl
theorem bindC_out {kindOf : Str → Option NameKind} {x : Str} : ∀ {binds : List (Str × Value)} {m : Str → Option Value}, (∀ v, (x, v) ∉ binds) → bindC kindOf binds m x = m x
  | [], _, _ => rfl
  | (n, v) :: r, m, h => by
    unfold bindC
    rw [bindC_out fun w hw => h w (List.mem_cons_of_mem _ hw)]
    split
    · rfl
    · have : x ≠ n := by rintro rfl; exact h v List.mem_cons_self
      simp [this]
theorem bindL_get {kindOf : Str → Option NameKind} {x : Str} {v : Value} : ∀ {P : List Str} {vs : List Value} {i : Nat} {m : Str → Option Value}, P.Nodup → P[i]? = some x → vs[i]? = some v → kindOf x = some .local →
    bindL kindOf (P.zip vs) m x = some v
  | [], _, _, _, _, h, _, _ => by simp at h
  | _ :: _, [], _, _, _, _, h, _ => by simp at h
  | p :: P, w :: vs, 0, m, nd, h1, h2, hk => by
    simp at h1 h2; subst h1; subst h2
    show bindL kindOf ((p, w) :: P.zip vs) m p = _
    unfold bindL
    rw [bindL_out fun v hv => (List.nodup_cons.mp nd).1 (List.of_mem_zip hv).1, if_pos hk]
    simp
  | p :: P, w :: vs, i + 1, m, nd, h1, h2, hk => by
    show bindL kindOf ((p, w) :: P.zip vs) m x = _
    unfold bindL
    exact bindL_get (i := i) (List.nodup_cons.mp nd).2 (by simpa using h1) (by simpa using h2) hk
theorem bindC_get {kindOf : Str → Option NameKind} {x : Str} {v : Value} : ∀ {P : List Str} {vs : List Value} {i : Nat} {m : Str → Option Value}, P.Nodup → P[i]? = some x → vs[i]? = some v → kindOf x ≠ some .local →
    bindC kindOf (P.zip vs) m x = some v
  | [], _, _, _, _, h, _, _ => by simp at h
  | _ :: _, [], _, _, _, _, h, _ => by simp at h
  | p :: P, w :: vs, 0, m, nd, h1, h2, hk => by
    simp at h1 h2; subst h1; subst h2
    show bindC kindOf ((p, w) :: P.zip vs) m p = _
    unfold bindC
    rw [bindC_out fun v hv => (List.nodup_cons.mp nd).1 (List.of_mem_zip hv).1, if_neg hk]
    simp
  | p :: P, w :: vs, i + 1, m, nd, h1, h2, hk => by
    show bindC kindOf ((p, w) :: P.zip vs) m x = _
    unfold bindC
    exact bindC_get (i := i) (List.nodup_cons.mp nd).2 (by simpa using h1) (by simpa using h2) hk
def start (N : List Str) (vs : List V) : St := vs.map some ++ List.replicate (N.length - vs.length) none
def cxOf (CX : CXT) (P : Program) (w : World) (K : PySem.W.Frag) (mg : Str → Option Value) (base : Heap) (N : List Str) (qual : Str) (scope : Scope) (f : Addr) (cd : Value) (A : Around) (outer : List Env) (s : Shared) (H : Hp) (E : XK) : Cx where
  prog := P
  w := w
  K := K
  mg := mg
  base := base
  A := A.deeper (envOfC qual scope s.heap.objs.size f cd)
  N := N
  s₀ := s
  H₀ := H
  env := envOfC qual scope s.heap.objs.size f cd
  outer := outer
  stack := envOfC qual scope s.heap.objs.size f cd :: outer
  ex := []
  calm := true
  fn := fun _ => true
  pn := []
  xe := fun e s' => wpAny (model P w) (A.deeper (envOfC qual scope s.heap.objs.size f cd)) (leaving (envOfC qual scope s.heap.objs.size f cd) e) (fun _ s'' => CX outer H s E e s'') (fun e' s'' => CX outer H s E e' s'') s'
theorem cell_has {sc : Scope} {n : Nat} {x : Str} (h : sc.names.lookup x = some .cell) : ∃ c, (cellsFrom n sc.names []).lookup x = some c := by
  have q := PySem.W.cellsFrom_some sc.names n [] (.inl h)
  exact Option.isSome_iff_exists.mp q
theorem inv_start {CX : CXT} {P : Program} {w : World} {K : PySem.W.Frag} {mg : Str → Option Value} {base : Heap} {N ps : List Str} {qual : Str} {scope : Scope} {f : Addr} {cd : Value} {A : Around} {outer : List Env} {s s1 : Shared} {H : Hp} {E : XK} {us : List Value} {vs : List V}
    (S : FnScope N ps scope) (hd : A.handled = none) (e0 : Env0 P w K mg base A outer s H) (hl : vs.length = ps.length) (r : Vals vs us)
    (x : InCallC s s.heap.objs.size (bindL (envOfC qual scope s.heap.objs.size f cd).kindOf (ps.zip us) fun _ => none) (cellsFrom (s.heap.objs.size + 1) scope.names []) (bindC (envOfC qual scope s.heap.objs.size f cd).kindOf (ps.zip us) fun _ => none) s1) :
    Inv (cxOf CX P w K mg base N qual scope f cd A outer s H E) [] (start N vs) H s1 := by
  have hpl : ps.length ≤ N.length := by have := congrArg List.length S.pre; rw [List.length_take] at this; omega
  obtain ⟨h1, tk, rfl, hk⟩ := x.done
  have noA : ∀ b : Addr, b ∉ (cxOf CX P w K mg base N qual scope f cd A outer s H E).ex := fun b z => absurd (show b ∈ ([] : List Addr) from z) (by simp)
  refine ⟨⟨e0.mod, S.kind, rfl, rfl, Nat.le_refl _, fun y z c h1 h2 => ?_, fun y hy => ?_, fun y c _ h => ?_, fun _ => hd, Around.frames_deeper e0.frames, .inr ⟨rfl, rfl⟩, fun b z => absurd z (noA b), e0.bs, e0.bsz, fun b _ _ => noA b, fun b z => absurd z (noA b), e0.funs, e0.frf⟩,
    rfl, e0.bare, Un.kept hk, ⟨_, x.toInCall.ns, fun i y v h1 h2 h3 => ?_⟩, fun y c h => ⟨_, x.cell y c h⟩, e0.hok.fresh (Nat.le_refl _), fun y c h => ?_, fun p hp => absurd (show p ∈ ([] : List (Addr × Obj)) from hp) (by simp), e0.hok.kept hk, ?_⟩
  · exact name_of_addr x.apart (PySem.mem_of_lookup h1) (PySem.mem_of_lookup h2)
  · have hy : scope.names.lookup y = some .cell ∨ scope.names.lookup y = some .free := hy
    rcases hy with hy | hy
    · exact cell_has hy
    · exact absurd rfl (S.nofree _ (PySem.mem_of_lookup hy))
  · exact Nat.le_of_lt (x.above y c (PySem.mem_of_lookup h))
  · have hi : i < vs.length := by
      unfold start at h2
      by_cases hi : i < vs.length
      · exact hi
      · rw [List.getElem?_append_right (by simpa using hi)] at h2
        rw [List.getElem?_replicate] at h2
        split at h2 <;> cases h2
    have ha : vs[i]? = some v := by
      unfold start at h2
      rw [List.getElem?_append_left (by simpa using hi), List.getElem?_map] at h2
      cases e : vs[i]? with
      | none => rw [e] at h2; cases h2
      | some a => rw [e] at h2; cases h2; rfl
    obtain ⟨u, hu, rv⟩ := r.get ha
    have hp : ps[i]? = some y := by
      rw [← S.pre, List.getElem?_take_of_lt (by omega)]; exact h1
    have ndP : ps.Nodup := by rw [← S.pre]; exact S.nd.sublist (List.take_sublist _ _)
    refine ⟨u, rv, ?_⟩
    rcases S.par y (List.mem_of_getElem? hp) with k | k
    · exact .inl ⟨k, bindL_get ndP hp hu k⟩
    · obtain ⟨c, e⟩ := cell_has (n := s.heap.objs.size + 1) k
      refine .inr ⟨.inl k, c, e, ?_⟩
      have q := x.cell y c e
      rw [bindC_get ndP hp hu (by show scope.names.lookup y ≠ _; rw [k]; decide)] at q
      exact q
  · exact e0.hok.fresh (Nat.le_of_lt (x.above y c (PySem.mem_of_lookup h)))
  · unfold start
    show _ = N.length
    rw [List.length_append, List.length_map, List.length_replicate]
    omega
theorem fn_of {CX : CXT} {P : Program} {w : World} {K : PySem.W.Frag} {mg : Str → Option Value} {base : Heap} {k : Nat} {f : Addr} {name qual : Str} {params : Arguments} {body : List Stmt} {scope : Scope} {dV kV doc pm cdv ct oc : Value} {an od : Option Addr}
    {osl : Array (Option Value)} {N ps : List Str} {sp : Sp} (lk : K.lookup f = some ⟨oc, od, .func (PySem.W.fnOf name qual params body scope dV kV doc pm an cdv ct), osl⟩) (hcd : PySem.W.codeIn K cdv qual = true) (S : FnScope N ps scope)
    (len : ∀ vs H Q E, sp vs H Q E → vs.length = ps.length)
    (hbody : ∀ (A : Around) (outer : List Env) (s : Shared) (H : Hp) (vs : List V) (Q : VK) (E : XK), Room k (A.deeper (envOfC qual scope s.heap.objs.size f cdv)) → sp vs H Q E →
      ∃ t, PSs (cxOf CX P w K mg base N qual scope f cdv A outer s H E) body t ∧ t { nx := fun _ H' => Q .non H', rt := Q } (start N vs) H) :
    FnOk P w K mg base CX (k + 1) f (PySem.W.fnOf name qual params body scope dV kV doc pm an cdv ct) ps sp := by
  refine ⟨len, fun A outer s H args us vs Q E hr e0 hb r hsp => ?_⟩
  have hl := len _ _ _ _ hsp
  have KX : K.In s.heap := e0.mod.kin.keeps fun b o e => (e0.bs b o e).1
  have lim : s.heap.NoLimit := e0.mod.nolimit.keeps fun b o e => (e0.bs b o e).1
  have hkind : ∀ y ∈ ps.zip us, scope.names.lookup y.1 = some .local ∨ (scope.names.lookup y.1 = some .cell ∧ ((cellsFrom (s.heap.objs.size + 1) scope.names []).lookup y.1).isSome = true) := fun ⟨n, v⟩ hy => by
    rcases S.par n (List.of_mem_zip hy).1 with q | q
    · exact .inl q
    · exact .inr ⟨q, PySem.W.cellsFrom_some _ _ _ (.inl q)⟩
  refine codeAny_call_function hr.depth (KX _ _ lk) rfl S.co S.gen rfl (PySem.W.codeRec_of KX hcd) (hb _ _ _ _ ?_)
  refine wpAny_newFunctionEnv_cells S.kind hkind fun env he s1 x => ?_
  subst he
  refine ⟨lim.keeps x.toInCall.keep, codeAny_func ?_⟩
  obtain ⟨t, ht, hq⟩ := hbody A outer s H vs Q E (hr.deeper _) hsp
  have I : Inv (cxOf CX P w K mg base N qual scope f cdv A outer s H E) [] (start N vs) H s1 := inv_start S hr.hd e0 hl r x
  refine wpAny_mono (ht [] s1 (start N vs) H _ I hq) (fun fl s' hs => ?_) fun e s' hs => hs
  have fin : ∀ {σ' : St} {H' : Hp} {v : V} {u : Value}, Inv (cxOf CX P w K mg base N qual scope f cdv A outer s H E) [] σ' H' s' → RelV v u → Q v H' → CE outer P w H s Q u s' :=
    fun {σ' H' v u} J rv q => ⟨v, H', J.os, J.bare, J.base, J.hok, rv, q⟩
  cases fl with
  | ret u =>
    obtain ⟨v, σ', H', J, rv, q⟩ := hs
    exact fin J rv q
  | next =>
    obtain ⟨σ', H', J, q⟩ := hs
    exact fin (v := V.non) (u := Value.none) J rfl q
  | brk =>
    obtain ⟨_, _, _, q⟩ := hs
    exact False.elim q
  | cont =>
    obtain ⟨_, _, _, q⟩ := hs
    exact False.elim q
end L2
namespace L2
open PySem PySem.Spec PyProof.Rows
section
variable {X : Cx} {x : Str} {p pos : Pos} {e : Expr} {es : List Expr} {t : TA} {id T : String} {r : List V → Hp → VK → Prop}
def tCB (r : List V → Hp → VK → Prop) (t : TA) : TE := fun σ H Q => t σ H fun vs H1 => r vs H1 Q
theorem pe_callB (hc : CallR X (.builtin id) r) (hg : Gl X x) (hm : X.mg x = none) (hv : bootBuiltins x = some (.builtin id)) (ha : PA X (e :: es) t) (hn : x ≠ "__name__" := by decide) (hdb : (x == ("__debug__" : Str)) = false := by decide)
    (he : starEach (e :: es) X.env = (false, eval e X.env) :: starEach es X.env := by rfl) (hpl : (backTo pos (starEach es X.env)).any (·.1) = false := by rfl) : PE X (.Call (.Name x p) (e :: es) [] pos) (tCB r t) := by
  intro pins s σ H Q I h
  refine wpAny_Call_Name_kw (ld_blt I hg hm hv ?_ hn hdb)
  exact PyProof.Rows.callWith_builtin1 (thn (ha pos pins s σ H _ I h) fun us s1 ⟨vs, H1, I1, r1, q1⟩ => hc pins s1 σ H1 vs us Q I1 r1 q1) he hpl
theorem pe_callTy (hc : CallR X (.type T) r) (hg : Gl X x) (hm : X.mg x = none) (hv : bootBuiltins x = some (.type T)) (ha : PA X (e :: es) t) (hn : x ≠ "__name__" := by decide) (hdb : (x == ("__debug__" : Str)) = false := by decide)
    (he : starEach (e :: es) X.env = (false, eval e X.env) :: starEach es X.env := by rfl) (hpl : (backTo pos (starEach es X.env)).any (·.1) = false := by rfl) : PE X (.Call (.Name x p) (e :: es) [] pos) (tCB r t) := by
  intro pins s σ H Q I h
  refine wpAny_Call_Name_kw (ld_blt I hg hm hv ?_ hn hdb)
  exact PyProof.Rows.callWith_type1 (thn (ha pos pins s σ H _ I h) fun us s1 ⟨vs, H1, I1, r1, q1⟩ => hc pins s1 σ H1 vs us Q I1 r1 q1) he hpl
end
end L2
namespace HT
open PySem PyProof.Rows
section
open PySem.SeqAt
open PySem.AutoSeq1 (wpAny_loadPart')
open PySem.MeetsSeq PySem.MeetsSeq2 PySem.MeetsSeq3
end
section
variable {prog : Program} {w : World} {A : Around} {E : Value → Shared → Prop} {s : Shared}
theorem cat_tup {t b : Addr} {vs ws : List Value} {Q : Value → Shared → Prop} (ht : IsTup s.heap t vs.toArray) (hb : IsTup s.heap b ws.toArray) (hv : vs ≠ [])
    (h1 : ws = [] → Q (.ref t) s) (h2 : ws ≠ [] → Q (.ref s.heap.objs.size) { s with heap := s.heap.push { cls := .type "tuple", data := .seq (vs ++ ws).toArray } })
    (hsz : vs.length + ws.length ≤ sizeLine) : wpAny (model prog w) A (binaryOp .Add (.ref t) (.ref b)) Q E s := by
  obtain ⟨⟨cls, dd, data, sl⟩, ho, hc, n, hd⟩ := id ht
  obtain ⟨⟨cls2, dd2, data2, sl2⟩, ho2, hc2, n2, hd2⟩ := id hb
  simp only at hc hd hc2 hd2
  subst hc hd hc2 hd2
  have e : vs.toArray ++ ws.toArray = (vs ++ ws).toArray := by simp
  by_cases hw : ws = []
  · exact concat_meets ⟨_, ho, rfl⟩ ⟨_, ho2, rfl⟩ noFill_tuple_add seq_tuple_add PySem.F.slot_tuple_add PySem.F.entry_tuple_add (PySem.F.args_tuple_add_2 _ _)
      (tuple_addW1 t b vs.toArray ws.toArray n n2 dd dd2 sl sl2 (by simpa using hv) (by simp [hw])) ⟨ho, ho2, h1 hw⟩
  · refine concat_meets ⟨_, ho, rfl⟩ ⟨_, ho2, rfl⟩ noFill_tuple_add seq_tuple_add PySem.F.slot_tuple_add PySem.F.entry_tuple_add (PySem.F.args_tuple_add_2 _ _)
      (tuple_addW2 t b vs.toArray ws.toArray n n2 dd dd2 sl sl2 (by simpa using hv) (by simpa using hw) (by rw [List.size_toArray, List.size_toArray]; exact hsz)) ⟨ho, ho2, ?_⟩
    rw [e]
    exact h2 hw
end
end HT
namespace L2
open PySem PySem.Spec PyProof.Rows
abbrev TO := St → Hp → (Option Int → Hp → Prop) → Prop
def PO (X : Cx) (e : Option Expr) (t : TO) : Prop :=
  ∀ (pins : List (Addr × Obj)) (s : Shared) (σ : St) (H : Hp) (Q : Option Int → Hp → Prop), Inv X pins σ H s → t σ H Q →
    wpAny (model X.prog X.w) X.A (evalPart e X.env) (fun u s' => ∃ o H', Inv X pins σ H' s' ∧ IsPart u o ∧ Q o H') X.xe s
theorem intsAre_of {ns : List Int} : ∀ {us : List Value}, Vals (ns.map V.int) us → IntsAre us ns := by
  induction ns with
  | nil => intro us r; rw [List.map_nil] at r; cases r; exact .nil
  | cons n ns ih =>
    intro us r
    rw [List.map_cons] at r
    cases r with
    | cons r1 r2 =>
      obtain ⟨t, e⟩ := r1
      subst e
      exact .cons n t (ih r2)
section
variable {X : Cx} {e : Expr} {te : TE} {lo hi : Option Expr} {tl th : TO} {pos p2 : Pos}
def SlR (X : Cx) (r : V → Option Int → Option Int → Hp → VK → Prop) : Prop :=
  ∀ (pins : List (Addr × Obj)) (s : Shared) (σ : St) (H : Hp) (x : V) (v vl vu : Value) (lo hi : Option Int) (sl : Addr) (Q : VK), Inv X pins σ H s → RelV x v → s.heap.IsSliceOf sl vl vu .none → IsPart vl lo → IsPart vu hi → r x lo hi H Q →
    ∃ T id, typeLookup (.type T) "__getitem__" = pure (some (.builtin id)) ∧ s.TypeIs v T ∧ wpAny (model X.prog X.w) X.A (getItem v (.ref sl)) (EP X pins σ Q) X.xe s
theorem SlR.or {r r' : V → Option Int → Option Int → Hp → VK → Prop} (h : SlR X r) (h' : SlR X r') : SlR X (fun x lo hi H Q => r x lo hi H Q ∨ r' x lo hi H Q) := by
  intro pins s σ H x v vl vu lo hi sl Q I rx hs pl pu q
  rcases q with q | q
  · exact h pins s σ H x v vl vu lo hi sl Q I rx hs pl pu q
  · exact h' pins s σ H x v vl vu lo hi sl Q I rx hs pl pu q
def rCatT (K : PySem.W.Frag) : R2 := fun x y H Q => ∃ a b xs ys, x = .ref a ∧ y = .ref b ∧ SqT K H a xs ∧ SqT K H b ys ∧ xs ≠ [] ∧ xs.length + ys.length ≤ sizeLine ∧
  (ys = [] → Q (.ref a) H) ∧ (ys ≠ [] → ∀ p, H p = none → Q (.ref p) (upd H p (.tup (xs ++ ys))))
theorem Vals.nil_iff {xs : List V} {us : List Value} (r : Vals xs us) : us = [] ↔ xs = [] := by
  cases r with
  | nil => simp
  | cons _ _ => simp
theorem op_catT : OpR X (binaryOp .Add) (rCatT X.K) := by
  intro pins s σ H x y v u Q I rx ry h
  obtain ⟨a, b, xs, ys, rfl, rfl, ha, hb, hx, hz, q1, q2⟩ := h
  cases rx
  cases ry
  obtain ⟨its, r1, p1, _⟩ := I.tuple ha
  obtain ⟨its2, r2, p2, _⟩ := I.tuple hb
  refine HT.cat_tup p1 p2 (fun z => hx (r1.nil_iff.mp z)) (fun z => ⟨.ref a, H, I, rfl, q1 (r2.nil_iff.mp z)⟩) (fun z => ?_) (by rw [← r1.length, ← r2.length]; exact hz)
  refine ⟨.ref s.heap.objs.size, _, I.laid (t' := s.toks) (o := .tup (xs ++ ys)) (fun b ob q => Heap.get?_push_of_some _ q) (Nat.le_refl _) ?_, rfl, q2 (fun w => z (r2.nil_iff.mpr w)) _ (I.hok.fresh (Nat.le_refl _))⟩
  exact ⟨by rw [List.length_append]; exact hz, _, r1.append r2, IsTup.new _ _⟩
end
end L2
namespace L2
open PySem PySem.Spec PyProof.Rows
def ixN (n : Nat) (i : Int) : Option Nat := if 0 ≤ i then (if i < n then some i.toNat else none) else if -(n : Int) ≤ i then some (i + n).toNat else none
def atI {α : Type} (xs : List α) (i : Int) : Option α := (ixN xs.length i).bind fun j => xs[j]?
theorem ixN_seq {n : Nat} {i : Int} {j : Nat} (h : ixN n i = some j) : seqIndex? i n = some j ∧ j < n ∧ -(n : Int) ≤ i ∧ i < n := by
  unfold ixN at h
  by_cases h0 : 0 ≤ i
  · rw [if_pos h0] at h
    by_cases h1 : i < n
    · rw [if_pos h1] at h
      have e : i.toNat = j := Option.some.inj h
      exact ⟨by rw [seqIndex_of h0 h1, e], by omega, by omega, h1⟩
    · rw [if_neg h1] at h; cases h
  · rw [if_neg h0] at h
    by_cases h1 : -(n : Int) ≤ i
    · rw [if_pos h1] at h
      have e : (i + n).toNat = j := Option.some.inj h
      exact ⟨by rw [seqIndex_neg (by omega) h1, e], by omega, h1, by omega⟩
    · rw [if_neg h1] at h; cases h
theorem atI_get {α : Type} {xs : List α} {i : Int} {v : α} (h : atI xs i = some v) : ∃ j, seqIndex? i xs.length = some j ∧ xs[j]? = some v ∧ j < xs.length ∧ -(xs.length : Int) ≤ i ∧ i < xs.length := by
  unfold atI at h
  cases e : ixN xs.length i with
  | none => rw [e] at h; cases h
  | some j =>
    rw [e] at h
    obtain ⟨h1, h2, h3, h4⟩ := ixN_seq e
    exact ⟨j, h1, h, h2, h3, h4⟩
theorem atI_nat {α : Type} {xs : List α} {j : Nat} {v : α} (h : xs[j]? = some v) : atI xs (j : Int) = some v := by
  have hj : j < xs.length := (List.getElem?_eq_some_iff.mp h).1
  have e : ixN xs.length (j : Int) = some j := by
    unfold ixN
    rw [if_pos (by omega), if_pos (by omega)]; simp
  unfold atI; rw [e]; exact h
def PlainIx (b : Expr) : Prop := ∀ o i, subscripted b false o i = operate [o, i] (getItem o i)
def IxR (X : Cx) (r : R2) : Prop :=
  ∀ (value slice : Expr) (pins : List (Addr × Obj)) (s : Shared) (σ : St) (H : Hp) (x y : V) (v u : Value) (Q : VK), Inv X pins σ H s → RelV x v → RelV y u → r x y H Q →
    subscripted slice false v u = operate [v, u] (getItem v u) → wpAny (model X.prog X.w) X.A (subscriptTail value slice v u) (EP X pins σ Q) X.xe s
def MtR (X : Cx) (id : String) (r : V → List V → Hp → VK → Prop) : Prop :=
  ∀ (pins : List (Addr × Obj)) (s : Shared) (σ : St) (H : Hp) (x : V) (xs : List V) (v : Value) (us : List Value) (Q : VK), Inv X pins σ H s → RelV x v → Vals xs us → r x xs H Q →
    wpAny (model X.prog X.w) X.A (call (.builtin id) (v :: us)) (EP X pins σ Q) X.xe s
section
variable {X : Cx} {a b : Expr} {ta tb : TE} {pos : Pos}
theorem IxR.or {r r' : R2} (h : IxR X r) (h' : IxR X r') : IxR X (fun x y H Q => r x y H Q ∨ r' x y H Q) := by
  intro value slice pins s σ H x y v u Q I rx ry q hs
  rcases q with q | q
  · exact h value slice pins s σ H x y v u Q I rx ry q hs
  · exact h' value slice pins s σ H x y v u Q I rx ry q hs
theorem MtR.or {id : String} {r r' : V → List V → Hp → VK → Prop} (h : MtR X id r) (h' : MtR X id r') : MtR X id (fun x xs H Q => r x xs H Q ∨ r' x xs H Q) := by
  intro pins s σ H x xs v us Q I rx rs q
  rcases q with q | q
  · exact h pins s σ H x xs v us Q I rx rs q
  · exact h' pins s σ H x xs v us Q I rx rs q
theorem pe_ix {r : R2} (hr : IxR X r) (ha : PE X a ta) (hb : PE X b tb) (hs : PlainIx b) : PE X (.Subscript a b pos) (tOp r ta tb) := by
  intro pins s σ H Q I h
  exact Subscript_ (binT ha hb I h fun v u s2 x y H2 I2 rx ry q => hr a b pins s2 σ H2 x y v u Q I2 rx ry q (hs _ _))
def rIxL (K : PySem.W.Frag) : R2 := fun x y H Q => ∃ p xs i v, x = .ref p ∧ y = .int i ∧ SqL K H p xs ∧ atI xs i = some v ∧ Q v H
def rIxT (K : PySem.W.Frag) : R2 := fun x y H Q => ∃ p xs i v, x = .ref p ∧ y = .int i ∧ SqT K H p xs ∧ atI xs i = some v ∧ Q v H
def rIxS : R2 := fun x y H Q => ∃ z i c, x = .str z ∧ y = .int i ∧ z.length ≤ sizeLine ∧ atI z.cps.toList i = some c ∧ Q (.str ⟨#[c]⟩) H
theorem ix_list : IxR X (rIxL X.K) := by
  intro value slice pins s σ H x y v u Q I rx ry h hs
  obtain ⟨p, xs, i, z, rfl, rfl, hq, he, q⟩ := h
  cases rx
  obtain ⟨t, rfl⟩ := ry
  obtain ⟨its, r, pl, hz⟩ := I.list hq
  obtain ⟨j, h1, h2, h3, h4, h5⟩ := atI_get he
  obtain ⟨w, ew, rw'⟩ := r.get h2
  have hl := r.length
  have hn := line63
  have fin : EP X pins σ Q w s := ⟨z, H, I, rw', q⟩
  by_cases h0 : 0 ≤ i
  · have hj : i.toNat = j := by
      rw [seqIndex_of h0 h5] at h1
      exact Option.some.inj h1
    exact item_listR pl.isList h0 (by omega) (by rw [hj]; simpa using ew) fin hs
  · have hj : (i + (its.toArray.size : Int)).toNat = j := by
      rw [seqIndex_neg (by omega) h4] at h1
      rw [List.size_toArray, ← hl]
      exact Option.some.inj h1
    exact subscriptTail_builtinR (x := w) pl.isList.typeIs slot_list_getitem.lookup
      (wpAny_getItem_list_neg (Q := fun r s' => r = w ∧ EP X pins σ Q r s') pl.isList (by omega) (by rw [List.size_toArray] <;> omega) (by omega) (by rw [hj]; simpa using ew) ⟨rfl, fin⟩) hs
theorem ix_tup : IxR X (rIxT X.K) := by
  intro value slice pins s σ H x y v u Q I rx ry h hs
  obtain ⟨p, xs, i, z, rfl, rfl, hq, he, q⟩ := h
  cases rx
  obtain ⟨t, rfl⟩ := ry
  obtain ⟨its, r, pl, hz⟩ := I.tuple hq
  obtain ⟨j, h1, h2, h3, h4, h5⟩ := atI_get he
  obtain ⟨w, ew, rw'⟩ := r.get h2
  have hl := r.length
  have hn := line63
  have fin : EP X pins σ Q w s := ⟨z, H, I, rw', q⟩
  exact subscriptTail_builtinR (x := w) pl.typeIs slot_tuple_getitem.lookup
    (getItem_tuple (j := j) (Q := fun r s' => r = w ∧ EP X pins σ Q r s') pl (by omega) (by omega) (by rw [List.size_toArray, ← hl]; exact h1) (by simpa using ew) ⟨rfl, fin⟩) hs
theorem ix_str : IxR X rIxS := by
  intro value slice pins s σ H x y v u Q I rx ry h hs
  obtain ⟨z, i, c, rfl, rfl, hz, he, q⟩ := h
  obtain ⟨t, rfl⟩ := rx
  obtain ⟨t', rfl⟩ := ry
  obtain ⟨j, h1, h2, h3, h4, h5⟩ := atI_get he
  have hl : z.cps.toList.length = z.length := by simp [Str.length]
  rw [hl] at h1 h4 h5
  have hn := line63
  exact tail_any (typeIs_str s z t) slot_str_getitem.lookup (getItem_str (c := c) (by
    have e1 : decide (i < -(2 ^ 63 : Int)) = false := decide_eq_false (by omega)
    have e2 : decide (i ≥ 2 ^ 63) = false := decide_eq_false (by omega)
    rw [e1, e2, Bool.or_false]) (by rw [h1]; simpa using h2) ⟨.str ⟨#[c]⟩, H, I.tok _, ⟨_, rfl⟩, q⟩) hs
def rIx (K : PySem.W.Frag) : R2 := fun x y H Q => rIxL K x y H Q ∨ rIxT K x y H Q ∨ rIxS x y H Q
theorem ix_seq : IxR X (rIx X.K) := ix_list.or (ix_tup.or ix_str)
theorem Inv.lst {pins : List (Addr × Obj)} {σ : St} {H : Hp} {s : Shared} {p : Addr} {xs : List V} (I : Inv X pins σ H s) (h : H p = some (.lst xs)) :
    ∃ (its : List Value) (n : Nat), Vals xs its ∧ s.heap.get? p = some { cls := .type "list", data := .seq its.toArray n } ∧ xs.length ≤ sizeLine := by
  obtain ⟨z, its, n, r, e⟩ := I.hok p _ h
  exact ⟨its, n, r, e, z⟩
theorem call_len_seq : CallR X (.builtin "len") (fun xs H Q => ∃ p ys, xs = [.ref p] ∧ (SqL X.K H p ys ∨ SqT X.K H p ys) ∧ Q (.int ys.length) H) := by
  intro pins s σ H xs us Q I r h
  obtain ⟨p, ys, rfl, hq, q⟩ := h
  obtain ⟨u, rfl, rx⟩ := vals1 r
  cases rx
  have hn := line63
  rcases hq with hq | hq
  · obtain ⟨its, r', pl, hz⟩ := I.list hq
    have hlen := r'.length
    exact Calls.call_len_list pl.isList (by simp only [List.size_toArray] <;> omega) ⟨.int ys.length, H, I.tok _, ⟨s.toks + 1, by rw [List.size_toArray, hlen]⟩, q⟩
  · obtain ⟨its, r', pl, hz⟩ := I.tuple hq
    have hlen := r'.length
    exact len_tuple pl (by simp only [List.size_toArray] <;> omega) ⟨.int ys.length, H, I.tok _, ⟨s.toks + 1, by rw [List.size_toArray, hlen]⟩, q⟩
theorem CallR.or {f : Value} {r r' : List V → Hp → VK → Prop} (h : CallR X f r) (h' : CallR X f r') : CallR X f (fun xs H Q => r xs H Q ∨ r' xs H Q) := by
  intro pins s σ H xs us Q I rs q
  rcases q with q | q
  · exact h pins s σ H xs us Q I rs q
  · exact h' pins s σ H xs us Q I rs q
theorem call_list_of : CallR X (.type "list") (fun xs H Q => ∃ p ys, xs = [.ref p] ∧ (SqL X.K H p ys ∨ SqT X.K H p ys) ∧ ∀ l, H l = none → Q (.ref l) (upd H l (.lst ys))) := by
  intro pins s σ H xs us Q I r h
  obtain ⟨p, ys, rfl, hq, q⟩ := h
  obtain ⟨u, rfl, rx⟩ := vals1 r
  cases rx
  have fin : ∀ (its : List Value), Vals ys its → ys.length ≤ sizeLine → ∀ (h' : Heap) (c' : Nat), (∀ b o', s.heap.get? b = some o' → h'.get? b = some o') →
      h'.get? s.heap.objs.size = some { cls := .type "list", dict := none, data := .seq its.toArray c', slots := #[] } → EP X pins σ Q (.ref s.heap.objs.size) { s with heap := h' } := fun its r' hz h' c' kp e =>
    ⟨.ref s.heap.objs.size, _, I.laid (t' := s.toks) kp (Nat.le_refl _) (show ObjOk X.prog X.w _ h' _ (.lst ys) from ⟨hz, its, c', r', e⟩), rfl, q _ (I.hok.fresh (Nat.le_refl _))⟩
  rcases hq with hq | hq
  · obtain ⟨its, r', pl, hz⟩ := I.list hq
    have hlen := r'.length
    obtain ⟨o, ho, hc, n, hd⟩ := pl.isList
    exact call_list_seq p (.inl rfl) ho hc hd (fun h' c' kp e => fin its r' hz h' c' kp e) (by simp only [List.size_toArray] <;> omega)
  · obtain ⟨its, r', pl, hz⟩ := I.tuple hq
    have hlen := r'.length
    obtain ⟨o, ho, hc, n, hd⟩ := pl
    exact call_list_seq p (.inr rfl) ho hc hd (fun h' c' kp e => fin its r' hz h' c' kp e) (by simp only [List.size_toArray] <;> omega)
theorem call_tuple_of : CallR X (.type "tuple") (fun xs H Q => ∃ p ys, xs = [.ref p] ∧ ((SqL X.K H p ys ∧ ∀ l, H l = none → Q (.ref l) (upd H l (.tup ys))) ∨ (SqT X.K H p ys ∧ Q (.ref p) H))) := by
  intro pins s σ H xs us Q I r h
  obtain ⟨p, ys, rfl, h⟩ := h
  obtain ⟨u, rfl, rx⟩ := vals1 r
  cases rx
  rcases h with ⟨hq, q⟩ | ⟨hq, q⟩
  · obtain ⟨its, r', pl, hz⟩ := I.list hq
    have hlen := r'.length
    refine call_tuple_list pl.isList (fun h' kp => ?_) (by simp only [List.size_toArray] <;> omega)
    have I1 : Inv X pins σ H { s with heap := h' } := I.kept (t' := s.toks) kp
    have I2 : Inv X pins σ (upd H h'.objs.size (.tup ys)) { s with heap := h'.push { cls := .type "tuple", data := .seq its.toArray } } :=
      I1.laid (t' := s.toks) (fun b o e => Heap.get?_push_of_some _ e) (Nat.le_refl _) (show ObjOk X.prog X.w _ _ _ (.tup ys) from ⟨hz, its, r', IsTup.new _ _⟩)
    exact ⟨.ref h'.objs.size, _, I2, rfl, q _ (I1.hok.fresh (Nat.le_refl _))⟩
  · obtain ⟨its, r', pl, hz⟩ := I.tuple hq
    exact call_tuple_same pl ⟨.ref p, H, I, rfl, q⟩
def tyV (K : PySem.W.Frag) (T : String) (x : V) (H : Hp) : Prop := match x with
  | .str _ => T = "str"
  | .int _ => T = "int"
  | .ref p => (T = "list" ∧ ∃ xs, SqL K H p xs) ∨ (T = "tuple" ∧ ∃ o, K.lookup p = some o ∧ o.cls = .type "tuple" ∧ o.dict = none) ∨
      (T = "dict" ∧ ((∃ kvs, H p = some (.dK kvs)) ∨ ∃ kvs, H p = some (.dT kvs))) ∨ (T = "set" ∧ ∃ S n, H p = some (.set S n))
  | _ => False
theorem tyV_is {pins : List (Addr × Obj)} {σ : St} {H : Hp} {s : Shared} {T : String} {x : V} {v : Value} (I : Inv X pins σ H s) (r : RelV x v) (ty : tyV X.K T x H) :
    s.TypeIs v T ∧ ∀ a, v = .ref a → ∃ ob, s.heap.get? a = some ob ∧ ob.dict = none := by
  cases x with
  | str z =>
    obtain ⟨t, rfl⟩ := r
    cases (show T = "str" from ty)
    exact ⟨typeIs_str s z t, fun _ e => nomatch e⟩
  | int i =>
    obtain ⟨t, rfl⟩ := r
    cases (show T = "int" from ty)
    exact ⟨typeIs_int s i t, fun _ e => nomatch e⟩
  | ref p =>
    cases r
    rcases ty with ⟨rfl, xs, hq⟩ | ⟨rfl, o, hk, hc, hd⟩ | ⟨rfl, hk⟩ | ⟨rfl, S, n, hk⟩
    · obtain ⟨its, _, pl, _⟩ := I.list hq
      refine ⟨pl.isList.typeIs, fun a e => ?_⟩
      cases e
      obtain ⟨o, n, e, c, hd, _⟩ := pl
      exact ⟨o, e, hd⟩
    · refine ⟨⟨o, I.kIn p o hk, hc⟩, fun a e => ?_⟩
      cases e
      exact ⟨o, I.kIn _ o hk, hd⟩
    · have z : ∃ o, s.heap.get? p = some o ∧ o.ExactDict := by
        rcases hk with ⟨kvs, hk⟩ | ⟨kvs, hk⟩
        · obtain ⟨_, _, _, _, o, _, _, e, ex, _⟩ := I.hok p _ hk
          exact ⟨o, e, ex⟩
        · obtain ⟨_, _, _, _, o, _, _, e, ex, _⟩ := I.hok p _ hk
          exact ⟨o, e, ex⟩
      obtain ⟨o, e, ex⟩ := z
      refine ⟨⟨o, e, ex.1⟩, fun a e2 => ?_⟩
      cases e2
      exact ⟨o, e, ex.2.1⟩
    · obtain ⟨o, _, _, _, e, ex, _⟩ := I.hok p _ hk
      refine ⟨⟨o, e, ex.1⟩, fun a e2 => ?_⟩
      cases e2
      exact ⟨o, e, ex.2.1⟩
  | _ => exact False.elim ty
def tBM0 (K : PySem.W.Frag) (T : String) (r : V → List V → Hp → VK → Prop) (to : TE) : TE := fun σ H Q => to σ H fun x H1 => tyV K T x H1 ∧ r x [] H1 Q
def tBM (K : PySem.W.Frag) (T : String) (r : V → List V → Hp → VK → Prop) (to : TE) (t : TA) : TE := fun σ H Q => to σ H fun x H1 => tyV K T x H1 ∧ t σ H1 fun xs H2 => r x xs H2 Q
variable {o e : Expr} {es : List Expr} {to : TE} {t : TA} {name : Str} {apos cpos : Pos} {T id : String} {r : V → List V → Hp → VK → Prop}
theorem pe_bm0 (pa : PlainAttrs T) (slot : Slot T name id) (hty : typeOf (.builtin id) = pure (.type "method_descriptor")) (hm : MtR X id r) (ho : PE X o to)
    (hbase : attributeBase o name X.env (eval o X.env) = eval o X.env := by rfl) (hline : (apos.endLine == cpos.line) = true := by rfl) : PE X (.Call (.Attribute o name apos) [] [] cpos) (tBM0 X.K T r to) := by
  intro pins s σ H Q I h
  refine wpAny_Call_method0_late hbase hline (thn (ho pins s σ H _ I h) fun v s1 ⟨x, H1, I1, r1, ty, q1⟩ => ?_)
  obtain ⟨h1, h2⟩ := tyV_is I1 r1 ty
  exact ⟨T, id, pa, slot, hty, h1, h2, Calls.callWith_builtin rfl (PySem.evalArgs_none (hm pins s1 σ H1 x [] v [] Q I1 r1 .nil q1))⟩
theorem pe_bm (pa : PlainAttrs T) (slot : Slot T name id) (hty : typeOf (.builtin id) = pure (.type "method_descriptor")) (hm : MtR X id r) (ho : PE X o to) (ha : PA X (e :: es) t)
    (hbase : attributeBase o name X.env (eval o X.env) = eval o X.env := by rfl)
    (hfew : ((backTo cpos (starEach (e :: es) X.env)).all (fun x => !x.1) && (backToKw cpos (keywordEach [] X.env)).all (fun x => x.1.isSome)
      && decide ((e :: es).length + ([] : List Keyword).length + (if ([] : List Keyword).isEmpty then 0 else 1) < 30)) = true := by rfl)
    (hline : (apos.endLine == cpos.line) = true := by rfl) (hs : starEach (e :: es) X.env = (false, eval e X.env) :: starEach es X.env := by rfl) (hplain : (backTo cpos (starEach es X.env)).any (·.1) = false := by rfl) :
    PE X (.Call (.Attribute o name apos) (e :: es) [] cpos) (tBM X.K T r to t) := by
  intro pins s σ H Q I h
  refine wpAny_Call_method_late hbase hfew hline rfl (thn (ho pins s σ H _ I h) fun v s1 ⟨x, H1, I1, r1, ty, q1⟩ => ?_)
  obtain ⟨h1, h2⟩ := tyV_is I1 r1 ty
  refine ⟨T, id, pa, slot, hty, h1, h2, ?_⟩
  have hA := ha cpos pins s1 σ H1 _ I1 q1
  rw [hs] at hA ⊢
  refine Calls.callWith_builtin (by show (false || (backTo cpos (starEach es X.env)).any (·.1)) = false; rw [hplain] <;> rfl) (Calls.evalArgs_plain ?_)
  exact thn hA fun us s2 ⟨vs, H2, I2, r2, q2⟩ => hm pins s2 σ H2 x vs v us Q I2 r1 r2 q2
end
end L2
namespace L2
open PySem PySem.Spec PyProof.Rows
def MtM (X : Cx) (id : String) (r : V → List V → Hp → VK → Prop) : Prop :=
  ∀ (pins : List (Addr × Obj)) (s : Shared) (σ : St) (H : Hp) (x : V) (xs : List V) (v : Value) (us : List Value) (Q : VK), Inv X pins σ H s → RelV x v → Vals xs us → r x xs H Q →
    wpAny (model X.prog X.w) X.A (call (.builtin id) (v :: us)) (EP X pins σ Q) X.xe s
theorem Vals.one : ∀ {x : V} {us : List Value}, Vals [x] us → ∃ u, us = [u] ∧ RelV x u
  | _, _, .cons r .nil => ⟨_, rfl, r⟩
theorem Vals.two : ∀ {x y : V} {us : List Value}, Vals [x, y] us → ∃ u v, us = [u, v] ∧ RelV x u ∧ RelV y v
  | _, _, _, .cons r (.cons q .nil) => ⟨_, _, rfl, r, q⟩
theorem Vals.zero : ∀ {us : List Value}, Vals [] us → us = []
  | _, .nil => rfl
theorem Vals.eraseIdx : ∀ {xs : List V} {us : List Value} (i : Nat), Vals xs us → Vals (xs.eraseIdx i) (us.eraseIdx i)
  | _, _, _, .nil => .nil
  | _, _, 0, .cons _ t => t
  | _, _, i + 1, .cons r t => .cons r (Vals.eraseIdx i t)
theorem Vals.reverse {xs : List V} {us : List Value} (h : Vals xs us) : Vals xs.reverse us.reverse := by
  induction h with
  | nil => exact .nil
  | cons r t ih => rw [List.reverse_cons, List.reverse_cons]; exact Vals.append ih (.cons r .nil)
theorem Vals.rep {xs : List V} {us : List Value} (h : Vals xs us) : ∀ k : Nat, Vals (List.replicate k xs).flatten (List.replicate k us).flatten
  | 0 => .nil
  | k + 1 => by
    rw [List.replicate_succ, List.replicate_succ, List.flatten_cons, List.flatten_cons]
    exact Vals.append h (Vals.rep h k)
theorem foldl_rep (its : List Value) : ∀ (k : Nat) (acc : List Value),
    List.foldl (fun x1 x2 => x1 ++ x2) acc.toArray (List.replicate k its.toArray) = (acc ++ (List.replicate k its).flatten).toArray
  | 0, acc => by simp
  | k + 1, acc => by
    have e : acc.toArray ++ its.toArray = (acc ++ its).toArray := by simp
    have e2 : (acc ++ its) ++ (List.replicate k its).flatten = acc ++ (List.replicate (k + 1) its).flatten := by
      rw [List.replicate_succ, List.flatten_cons, List.append_assoc]
    rw [← e2, ← foldl_rep its k (acc ++ its), ← e, List.replicate_succ, List.foldl_cons]
section
variable {X : Cx} {pins : List (Addr × Obj)} {σ : St} {H : Hp} {s : Shared} {l b : Addr} {xs ys zs : List V}
theorem Inv.lset {its its' : List Value} {n : Nat} {f : Array Value → Array Value} {t' : Nat} (I : Inv X pins σ H s) (hH : H l = some (.lst xs))
    (e : s.heap.get? l = some { cls := .type "list", data := .seq its.toArray n }) (hf : f its.toArray = its'.toArray) (hv : Vals ys its') (hz : ys.length ≤ sizeLine) :
    Inv X pins σ (upd H l (.lst ys)) { s with heap := s.heap.update l (Obj.mapSeq f), toks := t' } := by
  have q := PySem.IsL.update e f
  rw [hf] at q
  refine I.write (x := l) (e := l) (by rw [hH]; exact trivial) (.inl rfl) (fun b' u hb hu => (Heap.get?_update_other s.heap (Obj.mapSeq f) (Ne.symm hb)).trans hu) ⟨_, q⟩ ?_
  exact ⟨hz, its', _, hv, q⟩
theorem Inv.lnew {its : List Value} {t' : Nat} (I : Inv X pins σ H s) (hv : Vals ys its) (hz : ys.length ≤ sizeLine) :
    Inv X pins σ (upd H s.heap.objs.size (.lst ys)) { s with heap := s.heap.push { cls := .type "list", data := .seq its.toArray }, toks := t' } :=
  I.laid (fun _ _ q => Heap.get?_push_of_some _ q) (Nat.le_refl _) ⟨hz, its, 0, hv, Heap.get?_push_size _ rfl⟩
theorem Inv.fresh (I : Inv X pins σ H s) : H s.heap.objs.size = none := I.hok.fresh (Nat.le_refl _)
theorem Inv.lstM (I : Inv X pins σ H s) (hH : H l = some (.lst xs)) : xs.length ≤ sizeLine ∧ ∃ (its : List Value) (n : Nat), Vals xs its ∧ xs.length = its.length ∧ s.heap.get? l = some { cls := .type "list", data := .seq its.toArray n } := by
  obtain ⟨z, its, n, r, e⟩ := I.hok l _ hH
  exact ⟨z, its, n, r, r.length, e⟩
end
section
variable {X : Cx}
def rAppend : V → List V → Hp → VK → Prop := fun x vs H Q => ∃ l xs y, x = .ref l ∧ vs = [y] ∧ H l = some (.lst xs) ∧ xs.length < sizeLine ∧ Q .non (upd H l (.lst (xs ++ [y])))
theorem mt_append : MtM X "list.append" rAppend := by
  intro pins s σ H x vs v us Q I rx rv h
  obtain ⟨l, xs, y, rfl, rfl, hH, hz, q⟩ := h
  cases rx
  obtain ⟨u, rfl, ru⟩ := rv.one
  obtain ⟨z, its, n, r, hl, e⟩ := I.lstM hH
  refine call_meets F.slot_list_append ⟨_, e, rfl⟩ F.entry_list_append (F.args_list_append_2 _ _) (PySem.list_append l its.toArray n u (by rw [List.size_toArray]; omega)) ⟨e, ?_⟩
  refine ⟨.non, _, I.lset (its' := its ++ [u]) hH e (by simp) (r.append (.cons ru .nil)) ?_, rfl, q⟩
  rw [List.length_append, List.length_singleton]
  omega
theorem len_rep {α : Type} (xs : List α) (k : Nat) : (List.replicate k xs).flatten.length = k * xs.length := by
  induction k with
  | zero => simp
  | succ k ih => rw [List.replicate_succ, List.flatten_cons, List.length_append, ih, Nat.succ_mul, Nat.add_comm]
end
section
variable {prog : Program} {w : World} {A : Around} {E : Value → Shared → Prop} {s : Shared}
end
section
variable {X : Cx}
end
end L2
namespace L2
open PySem PySem.Spec PyProof.Rows
section
variable {κ : Type} [DecidableEq κ]
def valV (kvs : List (κ × V)) (k : κ) : Option V := (kvs.find? fun kv => decide (kv.1 = k)).map (·.2)
def putK (kvs : List (κ × V)) (k : κ) (v : V) : List (κ × V) :=
  if (kvs.any fun kv => decide (kv.1 = k)) = true then kvs.map (fun kv => if kv.1 = k then (kv.1, v) else kv) else kvs ++ [(k, v)]
def dropK (kvs : List (κ × V)) (k : κ) : List (κ × V) := kvs.filter fun kv => decide (kv.1 ≠ k)
theorem valV_pos {p : κ × V} {r : List (κ × V)} {k : κ} (e : p.1 = k) : valV (p :: r) k = some p.2 := by simp [valV, List.find?_cons, e]
theorem valV_neg {p : κ × V} {r : List (κ × V)} {k : κ} (e : ¬ p.1 = k) : valV (p :: r) k = valV r k := by simp [valV, List.find?_cons, e]
theorem valV_any (k : κ) : ∀ kvs : List (κ × V), (kvs.any fun kv => decide (kv.1 = k)) = (valV kvs k).isSome
  | [] => rfl
  | p :: r => by
    rw [List.any_cons]
    by_cases e : p.1 = k
    · simp only [valV_pos e, decide_eq_true e, Bool.true_or, Option.isSome_some]
    · rw [valV_neg e, decide_eq_false e, Bool.false_or]; exact valV_any k r
theorem length_putK (kvs : List (κ × V)) (k : κ) (v : V) : (putK kvs k v).length ≤ kvs.length + 1 := by
  unfold putK
  split
  · rw [List.length_map]; omega
  · rw [List.length_append, List.length_cons, List.length_nil]; omega
theorem RelO.isSome_eq {o : Option V} {u : Option Value} (r : RelO o u) : o.isSome = u.isSome := by
  cases o with
  | none => cases u with
    | none => rfl
    | some _ => exact (show False from r).elim
  | some _ => cases u with
    | none => exact (show False from r).elim
    | some _ => rfl
theorem RelO.getD {o : Option V} {u : Option Value} {d : V} {d' : Value} (r : RelO o u) (rd : RelV d d') : RelV (o.getD d) (u.getD d') := by
  cases o with
  | none => cases u with
    | none => exact rd
    | some _ => exact (show False from r).elim
  | some _ => cases u with
    | none => exact (show False from r).elim
    | some _ => exact r
theorem KV.val {kvs : List (κ × V)} {vs : List (κ × Value)} (r : KV kvs vs) (k : κ) : RelO (valV kvs k) (valueAt vs k) := by
  unfold KV at r
  induction r with
  | nil => exact True.intro
  | @cons p q ps qs h t ih =>
    obtain ⟨h1, h2⟩ := h
    by_cases e : p.1 = k
    · have e' : q.1 = k := h1.symm.trans e
      have b : valueAt (q :: qs) k = some q.2 := by simp [valueAt, List.find?_cons, e']
      rw [valV_pos e, b]; exact h2
    · have e' : ¬ q.1 = k := fun z => e (h1.trans z)
      have b : valueAt (q :: qs) k = valueAt qs k := by simp [valueAt, List.find?_cons, e']
      rw [valV_neg e, b]; exact ih
theorem KV.any {kvs : List (κ × V)} {vs : List (κ × Value)} (r : KV kvs vs) (k : κ) : (kvs.any fun kv => decide (kv.1 = k)) = vs.any fun kv => decide (kv.1 = k) := by
  unfold KV at r
  induction r with
  | nil => rfl
  | cons h t ih => rw [List.any_cons, List.any_cons, ih, h.1]
theorem KV.repl {kvs : List (κ × V)} {vs : List (κ × Value)} (r : KV kvs vs) (k : κ) {y : V} {u : Value} (ry : RelV y u) :
    KV (kvs.map fun kv => if kv.1 = k then (kv.1, y) else kv) (vs.map fun kv => if kv.1 = k then (kv.1, u) else kv) := by
  unfold KV at r ⊢
  induction r with
  | nil => exact .nil
  | @cons p q ps qs h t ih =>
    rw [List.map_cons, List.map_cons]
    refine .cons ?_ ih
    obtain ⟨h1, h2⟩ := h
    by_cases e : p.1 = k
    · rw [if_pos e, if_pos (h1.symm.trans e)]; exact ⟨h1, ry⟩
    · rw [if_neg e, if_neg (fun z => e (h1.trans z))]; exact ⟨h1, h2⟩
theorem KV.put {kvs : List (κ × V)} {vs : List (κ × Value)} (r : KV kvs vs) (k : κ) {y : V} {u : Value} (ry : RelV y u) : KV (putK kvs k y) (stored vs k u) := by
  unfold putK stored
  rw [r.any k]
  by_cases e : (vs.any fun kv => decide (kv.1 = k)) = true
  · rw [if_pos e, if_pos e]; exact r.repl k ry
  · rw [if_neg e, if_neg e]; exact Paired.snoc r ⟨rfl, ry⟩
theorem KV.drop {kvs : List (κ × V)} {vs : List (κ × Value)} (r : KV kvs vs) (k : κ) : KV (dropK kvs k) (without vs k) := by
  unfold KV at r ⊢
  unfold dropK without
  induction r with
  | nil => exact .nil
  | @cons p q ps qs h t ih =>
    obtain ⟨h1, h2⟩ := h
    rw [List.filter_cons, List.filter_cons]
    by_cases e : p.1 = k
    · have a : ¬ decide (p.1 ≠ k) = true := by simp [e]
      have b : ¬ decide (q.1 ≠ k) = true := by simp [h1.symm.trans e]
      rw [if_neg a, if_neg b]; exact ih
    · have e' : ¬ q.1 = k := fun z => e (h1.trans z)
      have a : decide (p.1 ≠ k) = true := by simp [e]
      have b : decide (q.1 ≠ k) = true := by simp [e']
      rw [if_pos a, if_pos b]; exact .cons ⟨h1, h2⟩ ih
theorem KV.keys {kvs : List (κ × V)} {vs : List (κ × Value)} (r : KV kvs vs) : kvs.map (·.1) = vs.map (·.1) := by
  unfold KV at r
  induction r with
  | nil => rfl
  | cons h t ih => rw [List.map_cons, List.map_cons, ih, h.1]
theorem KV.length {kvs : List (κ × V)} {vs : List (κ × Value)} (r : KV kvs vs) : kvs.length = vs.length := Paired.length r
end
theorem kV_is {P : Program} {w : World} {k : Key} {u : Value} (r : RelV (kV k) u) : (mixKind P w).is k u = true := by
  cases k with
  | inl i => obtain ⟨t, e⟩ := (show ∃ t, u = Value.int i t from r); subst e; exact mixKind_int P w i t
  | inr x => obtain ⟨t, e⟩ := (show ∃ t, u = Value.str x t from r); subst e; exact mixKind_str P w x t
theorem items_are {P : Program} {w : World} : ∀ {ks : List Key} {us : List Value}, Vals (ks.map kV) us → ItemsAre (mixKind P w) ks us
  | [], _, r => by rw [List.map_nil] at r; cases r; exact .nil
  | k :: ks, _, r => by
    rw [List.map_cons] at r
    cases r with
    | cons h t => exact .cons (kV_is h) (items_are t)
abbrev KT (H : Hp) : List (List Key × V) → List (List Key × Addr × Value) → Prop := Paired fun p q => p.1 = q.1 ∧ H q.2.1 = some (.tup (p.1.map kV)) ∧ RelV p.2 q.2.2
theorem KT.val {H : Hp} {kvs : List (List Key × V)} {xs : List (List Key × Addr × Value)} (r : KT H kvs xs) (k : List Key) : RelO (valV kvs k) ((atKey xs k).map (·.2)) := by
  induction r with
  | nil => exact True.intro
  | @cons p q ps qs h t ih =>
    obtain ⟨h1, _, h2⟩ := h
    by_cases e : p.1 = k
    · have e' : q.1 = k := h1.symm.trans e
      have b : atKey (q :: qs) k = some q.2 := by simp [atKey, List.find?_cons, e']
      rw [valV_pos e, b]; exact h2
    · have e' : ¬ q.1 = k := fun z => e (h1.trans z)
      have b : atKey (q :: qs) k = atKey qs k := by simp [atKey, List.find?_cons, e']
      rw [valV_neg e, b]; exact ih
theorem KT.repl {H : Hp} {kvs : List (List Key × V)} {xs : List (List Key × Addr × Value)} (r : KT H kvs xs) (k : List Key) {y : V} {u : Value} (ry : RelV y u) :
    KT H (kvs.map fun kv => if kv.1 = k then (kv.1, y) else kv) (xs.map (putAt k u)) := by
  induction r with
  | nil => exact .nil
  | @cons p q ps qs h t ih =>
    rw [List.map_cons, List.map_cons]
    refine .cons ?_ ih
    obtain ⟨h1, h2, h3⟩ := h
    unfold putAt
    by_cases e : p.1 = k
    · rw [if_pos e, if_pos (h1.symm.trans e)]; exact ⟨h1, h2, ry⟩
    · rw [if_neg e, if_neg (fun z => e (h1.trans z))]; exact ⟨h1, h2, h3⟩
theorem KT.put {H : Hp} {kvs : List (List Key × V)} {xs : List (List Key × Addr × Value)} (r : KT H kvs xs) (k : List Key) {b : Addr} {y : V} {u : Value} (hb : H b = some (.tup (k.map kV))) (ry : RelV y u) :
    KT H (putK kvs k y) (storedH xs k b u) := by
  have e : (kvs.any fun kv => decide (kv.1 = k)) = (atKey xs k).isSome := by
    rw [valV_any, (r.val k).isSome_eq, Option.isSome_map]
  unfold putK storedH
  rw [e]
  by_cases q : (atKey xs k).isSome = true
  · rw [if_pos q, if_pos q]; exact r.repl k ry
  · rw [if_neg q, if_neg q]; exact Paired.snoc r ⟨rfl, hb, ry⟩
theorem KT.keeps {H H' : Hp} {kvs : List (List Key × V)} {xs : List (List Key × Addr × Value)} (r : KT H kvs xs) (ht : ∀ b ys, H b = some (.tup ys) → H' b = some (.tup ys)) : KT H' kvs xs :=
  Paired.mapP r fun _ _ z => ⟨z.1, ht _ _ z.2.1, z.2.2⟩
section
variable {P : Program} {w : World} {H : Hp} {h : Heap} {a : Addr}
theorem rd_of {u : HO} (ok : HOk P w H h) (e : Rd H a u) : ObjOk P w H h a u := e.ok ok
theorem dk_rd {kvs : List (Key × V)} (ok : HOk P w H h) (e : Rd H a (.dK kvs)) : kvs.length ≤ sizeLine ∧ (a == sysModules) = false ∧ ∃ vs, KV kvs vs ∧ h.DictOf (mixKind P w) a vs :=
  show ObjOk P w H h a (.dK kvs) from rd_of ok e
theorem dk_of {kvs : List (Key × V)} (ok : HOk P w H h) (e : H a = some (.dK kvs)) : kvs.length ≤ sizeLine ∧ (a == sysModules) = false ∧ ∃ vs, KV kvs vs ∧ h.DictOf (mixKind P w) a vs := dk_rd ok (.inl e)
theorem key_of {ks : List Key} (ok : HOk P w H h) (e : H a = some (.tup (ks.map kV))) : (tupleKind (mixKind P w)).is h ks a := by
  obtain ⟨_, its, r, o, h1, h2, n, h3⟩ := (show ObjOk P w H h a (.tup (ks.map kV)) from ok a _ e)
  exact ⟨o, its.toArray, n, h1, h2, h3, by simpa using items_are r⟩
theorem dt_rd {kvs : List (List Key × V)} (ok : HOk P w H h) (e : Rd H a (.dT kvs)) : kvs.length ≤ sizeLine ∧ (a == sysModules) = false ∧
    ∃ xs, KT H kvs xs ∧ h.DictOfH (tupleKind (mixKind P w)) a xs := by
  obtain ⟨z, y, xs, r, o, es, ep, h1, h2, h3, h4, h5⟩ := (show ObjOk P w H h a (.dT kvs) from rd_of ok e)
  refine ⟨z, y, xs, r, o, es, ep, h1, h2, h3, h4, fun x hx => ?_, h5⟩
  have all : ∀ {l : List (List Key × V)} {m : List (List Key × Addr × Value)}, KT H l m → ∀ x ∈ m, (tupleKind (mixKind P w)).is h x.1 x.2.1 := by
    intro l m q
    induction q with
    | nil => intro x hx; exact nomatch hx
    | @cons p q ps qs hq t ih =>
      intro x hx
      rcases List.mem_cons.mp hx with e | hx
      · subst e
        exact key_of ok (by rw [← hq.1]; exact hq.2.1)
      · exact ih x hx
  exact all r x hx
theorem dt_of {kvs : List (List Key × V)} (ok : HOk P w H h) (e : H a = some (.dT kvs)) : kvs.length ≤ sizeLine ∧ (a == sysModules) = false ∧
    ∃ xs, KT H kvs xs ∧ h.DictOfH (tupleKind (mixKind P w)) a xs := dt_rd ok (.inl e)
end
def DGet (H : Hp) (a : Addr) (y : V) (r : Option V) : Prop :=
  (∃ kvs k, Rd H a (.dK kvs) ∧ y = kV k ∧ r = valV kvs k) ∨ ∃ kvs k b, Rd H a (.dT kvs) ∧ y = .ref b ∧ H b = some (.tup (k.map kV)) ∧ r = valV kvs k
def DPut (H : Hp) (a : Addr) (y v : V) (H' : Hp) : Prop :=
  (∃ kvs k, H a = some (.dK kvs) ∧ y = kV k ∧ kvs.length < sizeLine ∧ H' = upd H a (.dK (putK kvs k v))) ∨
  ∃ kvs k b, H a = some (.dT kvs) ∧ y = .ref b ∧ H b = some (.tup (k.map kV)) ∧ kvs.length < sizeLine ∧ H' = upd H a (.dT (putK kvs k v))
theorem DGet.k {H : Hp} {a : Addr} {kvs : List (Key × V)} {k : Key} (e : H a = some (.dK kvs)) : DGet H a (kV k) (valV kvs k) := .inl ⟨kvs, k, .inl e, rfl, rfl⟩
theorem DGet.t {H : Hp} {a b : Addr} {kvs : List (List Key × V)} {k : List Key} (e : H a = some (.dT kvs)) (eb : H b = some (.tup (k.map kV))) : DGet H a (.ref b) (valV kvs k) := .inr ⟨kvs, k, b, .inl e, rfl, eb, rfl⟩
theorem DPut.k {H : Hp} {a : Addr} {kvs : List (Key × V)} {k : Key} {v : V} (e : H a = some (.dK kvs)) (hl : kvs.length < sizeLine) : DPut H a (kV k) v (upd H a (.dK (putK kvs k v))) := .inl ⟨kvs, k, e, rfl, hl, rfl⟩
theorem DPut.t {H : Hp} {a b : Addr} {kvs : List (List Key × V)} {k : List Key} {v : V} (e : H a = some (.dT kvs)) (eb : H b = some (.tup (k.map kV))) (hl : kvs.length < sizeLine) :
    DPut H a (.ref b) v (upd H a (.dT (putK kvs k v))) := .inr ⟨kvs, k, b, e, rfl, eb, hl, rfl⟩
section
variable {X : Cx} {pins : List (Addr × Obj)} {σ : St} {H : Hp} {s : Shared} {a : Addr} {y v : V} {u r : Value} {o : Option V} {A : Around} {E : Value → Shared → Prop}
theorem Inv.big (I : Inv X pins σ H s) : sysModules < s.heap.objs.size := by
  have h : mainGlobals < s.heap.objs.size := (I.mod.glob.keeps I.bk).lt
  exact Nat.lt_trans (by decide) h
theorem d_write {h' : Heap} {t' : Nat} {ob : HO} (I : Inv X pins σ H s) (mu : Mut (H a)) (hs : Heap.SameBut a s.heap h') (he : ∃ q, h'.get? a = some q) (new : ObjOk X.prog X.w (upd H a ob) h' a ob) :
    Inv X pins σ (upd H a ob) { s with heap := h', toks := t' } :=
  I.write (x := a) (e := a) mu (.inl rfl) (fun b q hb z => (hs.2 b hb).trans z) he new
theorem dk_new {P : Program} {w : World} {H' : Hp} {h' : Heap} {kvs : List (Key × V)} {vs : List (Key × Value)} (z : kvs.length ≤ sizeLine) (hd : (a == sysModules) = false) (rel : KV kvs vs) (dd : h'.DictOf (mixKind P w) a vs) :
    ObjOk P w H' h' a (.dK kvs) := ⟨z, hd, vs, rel, dd⟩
theorem d_setItem {H' : Hp} {Q : Unit → Shared → Prop} (hu : A.units + 1 < cLine) (I : Inv X pins σ H s) (g : DPut H a y v H') (ry : RelV y u) (rv : RelV v r) (h : ∀ s', Inv X pins σ H' s' → Q () s') :
    wpAny (model X.prog X.w) A (setItem (.ref a) u r) Q E s := by
  rcases g with ⟨kvs, k, e, ey, l, eH⟩ | ⟨kvs, k, b, e, ey, eb, l, eH⟩
  · subst ey eH
    obtain ⟨z, hd, vs, rel, dd⟩ := dk_of I.hok e
    have hz : vs.length ≤ sizeLine := by rw [← rel.length]; exact z
    have hl : (putK kvs k v).length ≤ sizeLine := by have := length_putK kvs k v; omega
    refine wpAny_setItem_pairs (hsz := hz) (kV_is ry) dd fun h' dd' hs => h _ ?_
    have he : ∃ q, h'.get? a = some q := let ⟨q, _, _, hq, _⟩ := dd'; ⟨q, hq⟩
    exact d_write I (by rw [e]; exact True.intro) hs he (dk_new hl hd (rel.put k rv) dd')
  · subst ey eH
    cases (show u = Value.ref b from ry)
    obtain ⟨z, hd, xs, rel, dd⟩ := dt_of I.hok e
    have hz : xs.length ≤ sizeLine := by rw [← Paired.length rel]; exact z
    have hl : (putK kvs k v).length ≤ sizeLine := by have := length_putK kvs k v; omega
    refine wpAny_setItem_heap (hsz := hz) (tupleKind_room_in1 hu) (key_of I.hok eb) dd fun h' dd' hs => h _ ?_
    obtain ⟨q, es, ep, hq, h2, h3, h4, _, h5⟩ := dd'
    refine d_write I (by rw [e]; exact True.intro) hs ⟨q, hq⟩ ⟨hl, hd, _, (rel.put k eb rv).keeps fun c ys ec => ?_, q, es, ep, hq, h2, h3, h4, h5⟩
    rw [upd_ne (ne_of ec e (fun z => nomatch z))]
    exact ec
end
section
variable {X : Cx} {pins : List (Addr × Obj)} {σ : St} {H : Hp} {s : Shared} {a : Addr} {kvs : List (Key × V)} {k : Key} {u : Value} {A : Around} {E : Value → Shared → Prop}
end
def sDPut (td ty tv : TE) : TS := fun D σ H => tv σ H fun v H1 => td σ H1 fun x H2 => ty σ H2 fun y H3 => ∃ a H4, x = .ref a ∧ DPut H3 a y v H4 ∧ D.nx σ H4
section
variable {X : Cx} {o i e value : Expr} {pos pos' tpos : Pos} {td ty tv : TE}
theorem ps_dput (hu : X.A.units + 1 < cLine) (ho : PE X o td) (hi : PE X i ty) (hv : PE X value tv) (hs : swapsWith value (some (.Subscript o i pos')) pos.line X.env = pure false) :
    PS X (.Assign [.Subscript o i pos'] value pos) (sDPut td ty tv) := by
  intro pins s σ H D I h
  refine wpAny_Assign_Subscript (thn (hv pins s σ H _ I h) fun r s1 ⟨v, H1, I1, rv, q1⟩ => thn (ho pins s1 σ H1 _ I1 q1) fun u s2 ⟨x, H2, I2, rx, q2⟩ => thn (hi pins s2 σ H2 _ I2 q2) fun iv s3 ⟨y, H3, I3, ry, a, H4, ex, g, q3⟩ => ?_) hs
  subst ex
  obtain rfl : u = Value.ref a := rx
  exact d_setItem hu I3 g ry rv fun s4 I4 => ⟨σ, H4, I4, q3⟩
end
theorem dk_empty {P : Program} {w : World} {H : Hp} (h : Heap) (hb : sysModules < h.objs.size) : ObjOk P w H (h.push { cls := .type "dict", data := .dict #[] }) h.objs.size (.dK []) :=
  ⟨Nat.zero_le _, beq_eq_false_iff_ne.mpr (Ne.symm (Nat.ne_of_lt hb)), [], .nil, Heap.DictOf.new h⟩
section
variable {X : Cx} {pos : Pos}
end
structure M2 (X : Cx) (o : Expr) (m : Str) (apos : Pos) (e f : Expr) (cpos : Pos) : Prop where
  base : attributeBase o m X.env (eval o X.env) = eval o X.env
  few : ((backTo cpos (starEach [e, f] X.env)).all (fun x => !x.1) && (backToKw cpos (keywordEach [] X.env)).all (fun x => x.1.isSome)
    && decide (([e, f] : List Expr).length + ([] : List Keyword).length + (if ([] : List Keyword).isEmpty then 0 else 1) < 30)) = true
  line : (apos.endLine == cpos.line) = true
  trees : backTo cpos (starEach [e, f] X.env) = [(false, eval e X.env), (false, eval f X.env)]
def IsD (H : Hp) (a : Addr) : Prop := (∃ kvs, Rd H a (.dK kvs)) ∨ ∃ kvs, Rd H a (.dT kvs)
theorem isD_at {X : Cx} {pins : List (Addr × Obj)} {σ : St} {H : Hp} {s : Shared} {a : Addr} (I : Inv X pins σ H s) (d : IsD H a) :
    s.TypeIs (.ref a) "dict" ∧ (∀ b, Value.ref a = .ref b → ∃ ob, s.heap.get? b = some ob ∧ ob.dict = none) ∧ (a == sysModules) = false := by
  rcases d with ⟨kvs, e⟩ | ⟨kvs, e⟩
  · obtain ⟨_, hd, vs, _, dd⟩ := dk_rd I.hok e
    refine ⟨dd.typeIs, fun b q => ?_, hd⟩
    cases q
    obtain ⟨ob, _, _, h1, h2, _⟩ := dd
    exact ⟨ob, h1, h2.2.1⟩
  · obtain ⟨_, hd, xs, _, dd⟩ := dt_rd I.hok e
    refine ⟨dd.typeIs, fun b q => ?_, hd⟩
    cases q
    obtain ⟨ob, _, _, h1, h2, _⟩ := dd
    exact ⟨ob, h1, h2.2.1⟩
section
variable {X : Cx} {pins : List (Addr × Obj)} {σ : St} {H : Hp} {s : Shared} {a : Addr} {y d : V} {u r : Value} {o : Option V} {A : Around} {E : Value → Shared → Prop}
theorem d_get2 {Q : Value → Shared → Prop} (hu : A.units + 1 < cLine) (I : Inv X pins σ H s) (g : DGet H a y o) (ry : RelV y u) (rd : RelV d r) (h : ∀ w' s', Inv X pins σ H s' → RelV (o.getD d) w' → Q w' s') :
    wpAny (model X.prog X.w) A (call (.builtin "dict.get") [.ref a, u, r]) Q E s := by
  rcases g with ⟨kvs, k, e, ey, l⟩ | ⟨kvs, k, b, e, ey, eb, l⟩
  · subst ey
    obtain ⟨z, hd, vs, rel, dd⟩ := dk_rd I.hok e
    refine call_meetsIn PySem.F.slot_dict_get dd.typeIs PySem.F.entry_dict_get (PySem.F.args_dict_get_3 _ _ _) (meets_dict_get_default (mixKind X.prog X.w) a (kV_is ry) hd r) ⟨_, dd.mapOf, h _ _ (I.tok _) ?_⟩
    rw [l]
    exact (rel.val k).getD rd
  · subst ey
    cases (show u = Value.ref b from ry)
    obtain ⟨z, hd, xs, rel, dd⟩ := dt_rd I.hok e
    refine call_meetsIn PySem.F.slot_dict_get dd.typeIs PySem.F.entry_dict_get (PySem.F.args_dict_get_3 _ _ _) (meetsH_dict_get_default (tupleKind (mixKind X.prog X.w)) a b hd r) ⟨tupleKind_room_in1 hu, k, xs, key_of I.hok eb, dd, h _ _ (I.tok _) ?_⟩
    rw [l]
    exact (rel.val k).getD rd
end
def tDGet2 (td ty tx : TE) : TE := fun σ H Q => td σ H fun x H1 => ∃ a, x = .ref a ∧ IsD H1 a ∧ ty σ H1 fun y H2 => tx σ H2 fun z H3 => ∃ o, DGet H3 a y o ∧ Q (o.getD z) H3
section
variable {X : Cx} {o e f : Expr} {apos cpos : Pos} {td ty tx : TE}
theorem pe_dget2 (hu : X.A.units + 1 < cLine) (ho : PE X o td) (he : PE X e ty) (hf : PE X f tx) (m : M2 X o "get" apos e f cpos) : PE X (.Call (.Attribute o "get" apos) [e, f] [] cpos) (tDGet2 td ty tx) := by
  intro pins s σ H Q I h
  refine wpAny_Call_method m.base m.few m.line PySem.F.plainAttrs_dict PySem.F.slot_dict_get PySem.F.type_dict_get (thn (ho pins s σ H _ I h) fun u s1 ⟨x, H1, I1, rx, a, ex, d, q1⟩ => ?_)
  subst ex
  obtain rfl : u = Value.ref a := rx
  obtain ⟨t1, t2, _⟩ := isD_at I1 d
  refine ⟨t1, t2, ?_⟩
  rw [m.trees]
  refine Calls.callWith_builtin rfl (Calls.evalArgs_plain (Calls.spliced_cons (thn (he pins s1 σ H1 _ I1 q1) fun iv s2 ⟨y, H2, I2, ry, q2⟩ =>
    Calls.spliced_cons (thn (hf pins s2 σ H2 _ I2 q2) fun fv s3 ⟨z, H3, I3, rz, ov, g, q3⟩ => Calls.spliced_nil ?_))))
  exact d_get2 hu I3 g ry rz fun w' s4 I4 rw' => ⟨_, H3, I4, rw', q3⟩
end
section
variable {X : Cx} {pins : List (Addr × Obj)} {σ : St} {H : Hp} {s : Shared} {a : Addr} {kvs : List (Key × V)} {A : Around} {E : Value → Shared → Prop}
end
section
variable {X : Cx} {pins : List (Addr × Obj)} {σ : St} {H : Hp} {s : Shared} {a : Addr} {y : V} {u : Value} {A : Around} {E : Value → Shared → Prop}
end
end L2
namespace Att
open PySem PySem.W PySem.Calls PyProof.Rows
theorem ints_of_wellAll {P : Params} {h : Heap} : ∀ (ns : List Int) (vs : List Value), WellAll P h vs (ns.map WData.int) → IntsAre vs ns := by
  intro ns
  induction ns with
  | nil =>
    intro vs w
    rw [List.map_nil] at w
    cases w
    exact .nil
  | cons n ns ih =>
    intro vs w
    rw [List.map_cons] at w
    cases w with
    | cons a b =>
      cases a
      exact .cons _ _ (ih _ b)
theorem script_of {l : OpenLaw} {n : Nat} (hn : l.most = some n) {P : Params} {h : Heap} {args : List WData} {vals : List Value}
    (hpre : l.row.toRowW.claim.pre args = true) (hwl : WellAll P h vals args) :
    ∃ a vs ns, vals = [Value.ref a] ∧ args = [WData.list (ns.map WData.int)] ∧ h.get? a = some { cls := .type "list", data := .seq vs.toArray } ∧ IntsAre vs ns ∧ ns.length ≤ n := by
  have hsh : WShape.hasAll [] args [.list .int] = true := (pre_splitW hpre).1
  have hc : l.pre.holds [] { args := args } = true := (pre_splitW hpre).2
  obtain ⟨d, r, rfl, h1, h2⟩ := hasAllW_cons hsh
  obtain rfl := hasAllW_nil h2
  obtain ⟨xs, rfl, h3⟩ := hasW_list h1
  obtain ⟨ns, rfl⟩ := items_int h3
  have hlen : ns.length ≤ n := by
    unfold OpenLaw.pre at hc
    have h4 : (WTm.not (.lt (.lit (.int (n : Int))) (.len (.arg 0)))).holds [] { args := [.list (ns.map .int)] } = true := by
      have h4 := (holds_andW hc).1
      rw [hn] at h4
      exact h4
    have h5 := condW_of h4 (w_not (w_lt w_lit (w_len_list (w_arg rfl))))
    rw [List.length_map] at h5
    refine Nat.le_of_not_lt fun q => ?_
    have q' : (n : Int) < ((ns.length : Nat) : Int) := by omega
    first
      | (rw [decide_eq_true q'] at h5; exact absurd h5 (by decide))
      | (simp at h5; omega)
  cases hwl with
  | cons w1 w2 =>
    cases w2
    cases w1 with
    | list ho hall => exact ⟨_, _, ns, rfl, rfl, ho, ints_of_wellAll ns _ hall, hlen⟩
theorem post_true (l : OpenLaw) (args : List WData) : l.row.toRowW.claim.post args (.bool true) args = true :=
  postW_of (r := l.row.toRowW) (X := (true == true))
    (show WShape.has [] (.bool true) .bool = true by first | rfl | decide | simp [WShape.has, WShape.arms, WShape.armsAll])
    (show (WTm.eq .res (.lit (.bool true))).value [] { args := args, res := some (.bool true), after := args } = some (.bool (true == true)) from w_eq_bool (w_res rfl) w_lit) rfl
theorem attach_call {l : OpenLaw} {n : Nat} {q : Program} {loose : List Str} {XP : (Str → Option Value) → Heap → Prop} {YP : World → Heap → Prop} {d : DefRec}
    (hn : l.most = some n) (hdf : d.params.defaults = [])
    (call : ∀ (w : World) (s₀ s₁ : Shared) (mg mb : Str → Option Value) (fa : Addr) (o : Obj) (pm cd doc : Value) (a : Addr) (vs : List Value) (ns : List Int),
      Ground q loose [] XP w s₀ mg mb s₁.heap → YP w s₁.heap →
      s₁.heap.get? fa = some o → o.data = .func (docDef d.name d.params d.body d.scope pm cd doc) → s₁.heap.CodeRec cd d.name → mg d.name = some (.ref fa) →
      s₁.heap.get? a = some { cls := .type "list", data := .seq vs.toArray } → IntsAre vs ns → ns.length ≤ n → s₁.gens = #[] →
      codeAny (model l.prog w) callerA (.call (.ref fa) ⟨[.ref a], []⟩) (fun r s' => r = .ok (.ret (.bool true)) ∧ OldK s₁.heap s'.heap ∧ s'.os = s₁.os ∧ AllBare s'.gens) s₁) :
    WalkO q loose XP YP l.row.toRowW d [] (fun f vs => PySem.call f vs) := by
  intro w s₀ s₁ mg mb G Y fa o pm cd doc dV kV ho hd hcd hD hmg hg args vals as hpre hlay hrd hwl hlo
  obtain rfl : dV = .none := Dflts.none hD hdf
  obtain rfl : kV = .none := Dflts.noKw hD
  obtain ⟨a, vs, ns, rfl, rfl, hobj, hints, hlen⟩ := script_of hn hpre hwl
  refine enter_call (codeAny_mono (call w s₀ s₁ mg mb fa o pm cd doc a vs ns G Y ho (fd_plain hd) hcd hmg hobj hints hlen hg) fun r s' hq => ?_)
  obtain ⟨rfl, h2, h3, h4⟩ := hq
  exact ⟨.inl ⟨.bool true, .bool true, [], rfl, fun _ => rfl, .bool true, post_true l _, fun _ => ⟨List.Pairwise.nil, fun _ hm => (nomatch hm)⟩⟩, h2, h3, h4⟩
section
variable {prog : Program} {w : World} {A : Around} {E : Value → Shared → Prop} {s : Shared} {K : Frag}
end
end Att
namespace L2
open PySem PySem.Spec PyProof.Rows
theorem vals_ints : ∀ {vs : List Value} {ns : List Int}, IntsAre vs ns → Vals (ns.map V.int) vs
  | _, _, .nil => .nil
  | _, _, .cons n t h => .cons ⟨t, rfl⟩ (vals_ints h)
def Only (H : Hp) : Prop := ∀ b, H b = none ∨ ∃ o xs, H b = some (.frz o (.lst xs))
theorem law_call {P : Program} {w : World} {K : PySem.W.Frag} {mg mb : Str → Option Value} {CX : CXT} {k : Nat} {fa a : Addr} {fd : FuncData} {x : Str} {sp : Sp} {s₁ : Shared} {vs : List Value} {ns : List Int}
    (KX : K.In s₁.heap) (hns : s₁.heap.Ns mainGlobals mg) (hb : s₁.heap.Ns builtinsNs mb) (hbb : ∀ x : Str, x ≠ "__name__" → mb x = bootBuiltins x) (hlim : s₁.heap.NoLimit) (hg : s₁.gens = #[])
    (ha : s₁.heap.get? a = some { cls := .type "list", data := .seq vs.toArray }) (hi : IntsAre vs ns) (hl : ns.length ≤ sizeLine) (hr : Room k callerA)
    (F : ∀ base : Heap, K.In base → base.Ns mainGlobals mg → FnOk P w K mg base CX k fa fd [x] sp) (hbind : ∀ (s : Shared) (u : Value), BindsTo s fd ⟨[u], []⟩ [(x, u)])
    (hsp : ∀ H : Hp, Only H → SqL K H a (ns.map V.int) → sp [.ref a] H (fun v _ => v = .bl true) fun _ _ _ => False)
    (hCX : ∀ H e s', CX [] H s₁ (fun _ _ _ => False) e s' → False) :
    codeAny (model P w) callerA (.call (.ref fa) ⟨[.ref a], []⟩) (fun r s' => r = .ok (.ret (.bool true)) ∧ OldK s₁.heap s'.heap ∧ s'.os = s₁.os ∧ AllBare s'.gens) s₁ := by
  have rv := vals_ints hi
  have lenV := hi.length
  have core : ∀ H : Hp, Only H → SqL K H a (ns.map V.int) → HOk P w H s₁.heap → (∀ b, H b ≠ none → b = a) → (H a ≠ none → K.lookup a = none) →
      codeAny (model P w) callerA (.call (.ref fa) ⟨[.ref a], []⟩) (fun r s' => r = .ok (.ret (.bool true)) ∧ OldK s₁.heap s'.heap ∧ s'.os = s₁.os ∧ AllBare s'.gens) s₁ := by
    intro H hO hS hok hA hK
    have base_of : ∀ {b : Addr} {o : Obj}, s₁.heap.get? b = some o → H b = none → (hidT s₁.heap H).get? b = some o := fun e n => hidT_get e n
    have noA : ∀ {b : Addr} {o : Obj} {es : Array DictEntry} {ep : Nat}, s₁.heap.get? b = some o → o.data = .dict es ep → H b = none := fun {b o es ep} e d => by
      cases q : H b with
      | none => rfl
      | some u =>
        have e' : b = a := hA b (by rw [q]; simp)
        subst e'
        rw [ha] at e; cases e
        have d' : Data.seq vs.toArray _ = Data.dict es ep := d
        cases d'
    have nsK : ∀ {b : Addr} {m : Str → Option Value}, s₁.heap.Ns b m → (hidT s₁.heap H).Ns b m := fun {b m} ⟨o, es, ep, e, d, r⟩ => ⟨o, es, ep, base_of e (noA e d), d, r⟩
    have hKb : K.In (hidT s₁.heap H) := fun b o e => base_of (KX b o e) (by
      cases q : H b with
      | none => rfl
      | some u =>
        have e' : b = a := hA b (by rw [q]; simp)
        subst e'
        rw [hK (by rw [q]; simp)] at e; cases e)
    have hM : Mod K mg (hidT s₁.heap H) := ⟨hKb, nsK hns, ⟨mb, nsK hb, hbb⟩, let ⟨mc, h1, h2⟩ := hlim; ⟨mc, nsK h1, h2⟩⟩
    have e0 : Env0 P w K mg (hidT s₁.heap H) callerA [] s₁ H := ⟨rfl, hM, fun b o e => of_hidT e, Nat.le_of_eq (hidT_size _ _), trivial, fun b hb => absurd (show b ∈ ([] : List Addr) from hb) (by simp), hok, .of_eq hg⟩
    refine codeAny_mono ((F _ hKb (nsK hns)).run callerA [] s₁ H ⟨[.ref a], []⟩ [.ref a] [.ref a] _ _ hr e0 (hbind s₁ (.ref a)) (.cons rfl .nil) (hsp H hO hS)) fun r s' h => ?_
    cases r with
    | error e => exact (hCX H e s' h).elim
    | ok fl =>
      cases fl with
      | next => exact False.elim h
      | brk => exact False.elim h
      | cont => exact False.elim h
      | ret u =>
        obtain ⟨v, H', os, bare, un, hok', r', q⟩ := h
        have q' : v = .bl true := q
        subst q'
        obtain rfl : u = Value.bool true := r'
        refine ⟨rfl, OldK.of_keep fun b o e => ?_, os, bare⟩
        cases q : H b with
        | none => exact un.keep b o e q (by intro z; exact absurd (show b ∈ ([] : List Addr) from z) (by simp)) (by simp)
        | some u =>
          rcases hO b with z | ⟨ob, xs, z⟩
          · rw [q] at z; cases z
          · have z2 := un.frzs b ob _ z
            obtain ⟨e1, _⟩ := hok b _ z
            obtain ⟨e2, _⟩ := hok' b _ z2
            rw [e] at e1; cases e1
            exact e2
  cases hk : K.lookup a with
  | some o =>
    have e := KX a o hk
    rw [ha] at e
    cases e
    refine core (fun _ => none) (fun _ => .inl rfl) (.inr ⟨_, vs.toArray, _, hk, rfl, rfl, rfl, by rw [List.size_toArray, lenV]; exact hl, by simpa using rv⟩) (fun b u z => by have z' : (none : Option HO) = some u := z; cases z') (fun b z => absurd rfl z) fun z => absurd rfl z
  | none =>
    refine core (fun b => if b = a then some (.frz { cls := .type "list", data := .seq vs.toArray } (.lst (ns.map V.int))) else none) (fun b => ?_) (.inl (.inr ⟨{ cls := .type "list", data := .seq vs.toArray }, if_pos rfl⟩)) (fun b u z => ?_) (fun b z => ?_) fun _ => hk
    · by_cases hb : b = a
      · exact .inr ⟨_, _, if_pos hb⟩
      · exact .inl (if_neg hb)
    · by_cases hb : b = a
      · have z' := (if_pos hb).symm.trans z
        cases z'
        subst hb
        exact ⟨ha, by rw [List.length_map]; exact hl, vs, _, rv, ha⟩
      · have z' := (if_neg hb).symm.trans z
        cases z'
    · by_cases hb : b = a
      · exact hb
      · exact absurd (if_neg hb) z
end L2
namespace L2
open PySem PySem.Spec PyProof.Rows
theorem walk_of {l : PySem.W.OpenLaw} {n k : Nat} {q : Program} {loose : List Str} {XP : (Str → Option Value) → Heap → Prop} {YP : World → Heap → Prop} {d : DefRec} {K : Params → PySem.W.Frag} {CX : World → CXT} {sp : World → Sp} {x : Str}
    (hn : l.most = some n) (hn2 : n ≤ sizeLine) (hdf : d.params.defaults = []) (hr : Room k callerA)
    (hY : ∀ (w : World) (h : Heap), YP w h → (K w.params).In h)
    (F : ∀ (w : World) (mg : Str → Option Value) (fa : Addr) (h : Heap), (K w.params).In h → h.Ns mainGlobals mg → mg d.name = some (.ref fa) →
      ∃ fd : FuncData, (∀ (s : Shared) (u : Value), BindsTo s fd ⟨[u], []⟩ [(x, u)]) ∧
        ∀ base : Heap, (K w.params).In base → base.Ns mainGlobals mg → FnOk l.prog w (K w.params) mg base (CX w) k fa fd [x] (sp w))
    (hsp : ∀ (w : World) (H : Hp) (a : Addr) (ns : List Int), ns.length ≤ n → Only H → SqL (K w.params) H a (ns.map V.int) → sp w [.ref a] H (fun v _ => v = .bl true) fun _ _ _ => False)
    (hCX : ∀ (w : World) (H : Hp) (s : Shared) (e : Value) (s' : Shared), CX w [] H s (fun _ _ _ => False) e s' → False) :
    PySem.W.WalkO q loose XP YP l.row.toRowW d [] (fun f vs => PySem.call f vs) := by
  refine Att.attach_call hn hdf fun w s₀ s₁ mg mb fa o pm cd doc a vs ns G Y ho hd hcd hmg hobj hints hlen hg => ?_
  have KX := hY w _ Y
  obtain ⟨fd, hb, hF⟩ := F w mg fa _ KX G.T.g hmg
  exact law_call KX G.T.g G.T.b G.T.builtins G.T.nolimit hg hobj hints (Nat.le_trans hlen hn2) hr hF hb (fun H hO hS => hsp w H a ns hlen hO hS) fun H e s' => hCX w H s₁ e s'
end L2
namespace L2
open PySem PySem.Spec PyProof.Rows
def defArgs (s : Stmt) : Arguments := match s with
  | .FunctionDef _ a _ _ _ _ _ _ _ _ => a
  | _ => { posonlyargs := [], args := [], vararg := none, kwonlyargs := [], kw_defaults := [], kwarg := none, defaults := [] }
def defBody (s : Stmt) : List Stmt := match s with
  | .FunctionDef _ _ b _ _ _ _ _ _ _ => b
  | _ => []
def defScope (s : Stmt) : Scope := match s with
  | .FunctionDef _ _ _ _ _ _ sc _ _ _ => sc
  | _ => { kind := .function, names := [], isGenerator := false, isCoroutine := false }
abbrev CX0 : CXT := fun _ _ _ _ _ _ => False
abbrev E0 : XK := fun _ _ _ => False
theorem pass0 {X : Cx} : Passes CX0 X E0 := fun _ _ _ _ _ _ _ h => h.elim
structure Fun (K : PySem.W.Frag) (x qual : Str) (st : Stmt) (f : Addr) (fd : FuncData) : Prop where
  ex : ∃ (oc : Value) (od : Option Addr) (kV doc pm : Value) (an : Option Addr) (cdv ct : Value) (osl : Array (Option Value)),
    fd = PySem.W.fnOf x qual (defArgs st) (defBody st) (defScope st) .none kV doc pm an cdv ct ∧ K.lookup f = some ⟨oc, od, .func fd, osl⟩ ∧ PySem.W.codeIn K cdv qual = true
  kp : PySem.W.keepIn K (.ref f) = true
section
variable {P : Program} {w : World} {K : PySem.W.Frag} {mg : Str → Option Value} {base : Heap}
theorem Fun.ok {x qual : Str} {st : Stmt} {f : Addr} {fd : FuncData} {N ps : List Str} {k : Nat} {sp : Sp} (F : Fun K x qual st f fd) (S : FnScope N ps (defScope st)) (len : ∀ vs H Q E, sp vs H Q E → vs.length = ps.length)
    (hbody : ∀ (cdv : Value) (A : Around) (outer : List Env) (s : Shared) (H : Hp) (vs : List V) (Q : VK) (E : XK), Room k (A.deeper (envOfC qual (defScope st) s.heap.objs.size f cdv)) → sp vs H Q E →
      ∃ t, PSs (cxOf CX0 P w K mg base N qual (defScope st) f cdv A outer s H E).nox (defBody st) t ∧ t { nx := fun _ H' => Q .non H', rt := Q } (start N vs) H) : FnOk P w K mg base CX0 (k + 1) f fd ps sp := by
  obtain ⟨oc, od, kV, doc, pm, an, cdv, ct, osl, rfl, lk, hcd⟩ := F.ex
  refine fn_of lk hcd S len fun A outer s H vs Q E hr hsp => ?_
  obtain ⟨t, h, q⟩ := hbody cdv A outer s H vs Q E hr hsp
  exact ⟨t, h.nox, q⟩
theorem Fun.binds {x qual : Str} {st : Stmt} {f : Addr} {fd : FuncData} {ps : List Str} (F : Fun K x qual st f fd)
    (h : ∀ (kV doc pm : Value) (an : Option Addr) (cdv ct : Value) (us : List Value), us.length = ps.length → bindArgs (PySem.W.fnOf x qual (defArgs st) (defBody st) (defScope st) .none kV doc pm an cdv ct) ⟨us, []⟩ = pure (ps.zip us)) : Binds K fd ps [] := by
  obtain ⟨oc, od, kV, doc, pm, an, cdv, ct, osl, rfl, lk, hcd⟩ := F.ex
  exact .all (h kV doc pm an cdv ct)
theorem fun_mk {x qual : Str} {st : Stmt} {f : Addr} {oc : Value} {od an : Option Addr} {osl : Array (Option Value)} {kV doc pm cdv ct : Value} (l : K.lookup f = some ⟨oc, od, .func (PySem.W.fnOf x qual (defArgs st) (defBody st) (defScope st) .none kV doc pm an cdv ct), osl⟩)
    (c : PySem.W.codeIn K cdv qual = true) (k : PySem.W.keepIn K (.ref f) = true) : Fun K x qual st f (PySem.W.fnOf x qual (defArgs st) (defBody st) (defScope st) .none kV doc pm an cdv ct) := ⟨⟨oc, od, kV, doc, pm, an, cdv, ct, osl, rfl, l, c⟩, k⟩
end
theorem hu_of {A : Around} {k : Nat} (hr : Room k A) : A.units + 1 < cLine := Nat.lt_of_le_of_lt (Nat.add_le_add_left (by decide : 1 ≤ 64) _) hr.units
section
variable {X : Cx}
theorem pv (i : Nat) {x : Str} {pos : Pos} (hN : X.N[i]? = some x := by rfl) (hv : Vis X.env.scope x := by first | exact Or.inl rfl | exact Or.inr (Or.inl rfl) | exact Or.inr (Or.inr rfl)) (hd : (x == ("__debug__" : Str)) = false := by decide)
    (hcd : (x == ("__classdict__" : Str)) = false := by decide) : PE X (.Name x pos) (tVar i) := pe_var hN hv hd hcd
end
def Same (H H' : Hp) : Prop := ∀ b o, H b = some o → H' b = some o
theorem Same.refl (H : Hp) : Same H H := fun _ _ h => h
theorem Same.trans {H H1 H2 : Hp} (a : Same H H1) (b : Same H1 H2) : Same H H2 := fun c o h => b c o (a c o h)
theorem Same.free {H H' : Hp} (e : Same H H') {l : Addr} (h : H' l = Option.none) : H l = Option.none := by
  cases q : H l with
  | none => rfl
  | some o =>
    rw [e l o q] at h
    cases h
theorem Same.seq {K : PySem.W.Frag} {H H' : Hp} {a : Addr} {xs : List V} (e : Same H H') (h : SqL K H a xs) : SqL K H' a xs := by
  rcases h with (h | ⟨o, h⟩) | h
  · exact .inl (.inl (e _ _ h))
  · exact .inl (.inr ⟨o, e _ _ h⟩)
  · exact .inr h
section
variable {κ : Type} [DecidableEq κ]
end
end L2
namespace Pu
open PySem PySem.Spec L2
open PyProof.Rows hiding St
inductive D where
  | non | bl (b : Bool) | int (i : Int) | str (x : Str) | tup (xs : List D) | lst (xs : List D)
inductive R (α : Type) where
  | bad | ok (a : α) | err (c : Str)
namespace R
def bind {α β : Type} (r : R α) (k : α → R β) : R β := match r with
  | .ok a => k a
  | .err c => .err c
  | .bad => .bad
@[simp] theorem bind_ok {α β : Type} (a : α) (k : α → R β) : (R.ok a).bind k = k a := rfl
end R
mutual
def Rep (K : PySem.W.Frag) (O : Addr → Prop) (H : Hp) : D → V → Prop
  | .non, v => v = .non
  | .bl b, v => v = .bl b
  | .int i, v => v = .int i
  | .str x, v => v = .str x
  | .tup ds, v => ∃ a xs, v = .ref a ∧ SqT K H a xs ∧ Reps K O H ds xs
  | .lst ds, v => ∃ a xs, v = .ref a ∧ SqL K H a xs ∧ ¬ O a ∧ Reps K O H ds xs
def Reps (K : PySem.W.Frag) (O : Addr → Prop) (H : Hp) : List D → List V → Prop
  | [], xs => xs = []
  | d :: ds, xs => ∃ x r, xs = x :: r ∧ Rep K O H d x ∧ Reps K O H ds r
end
structure Ext (O : Addr → Prop) (H H' : Hp) : Prop where
  tup : ∀ b xs, Rd H b (.tup xs) → Rd H' b (.tup xs)
  lst : ∀ b xs, ¬ O b → Rd H b (.lst xs) → Rd H' b (.lst xs)
section
variable {K : PySem.W.Frag} {O O' : Addr → Prop} {H H' : Hp}
theorem SqL.ext (e : Ext O H H') {a : Addr} {xs : List V} (n : ¬ O a) (h : SqL K H a xs) : SqL K H' a xs := by
  rcases h with h | h
  · exact .inl (e.lst _ _ n h)
  · exact .inr h
theorem SqT.ext (e : Ext O H H') {a : Addr} {xs : List V} (h : SqT K H a xs) : SqT K H' a xs := by
  rcases h with h | h
  · exact .inl (e.tup _ _ h)
  · exact .inr h
mutual
theorem Rep.ext (e : Ext O H H') (o : ∀ b xs, ¬ O b → SqL K H b xs → ¬ O' b) : ∀ (d : D) (v : V), Rep K O H d v → Rep K O' H' d v
  | .non, _, h => by simpa only [Rep] using h
  | .bl _, _, h => by simpa only [Rep] using h
  | .int _, _, h => by simpa only [Rep] using h
  | .str _, _, h => by simpa only [Rep] using h
  | .tup ds, v, h => by
    simp only [Rep] at h ⊢
    obtain ⟨a, xs, e1, h1, h2⟩ := h
    exact ⟨a, xs, e1, SqT.ext e h1, Reps.ext e o ds xs h2⟩
  | .lst ds, v, h => by
    simp only [Rep] at h ⊢
    obtain ⟨a, xs, e1, h1, h2, h3⟩ := h
    exact ⟨a, xs, e1, SqL.ext e h2 h1, o _ _ h2 h1, Reps.ext e o ds xs h3⟩
theorem Reps.ext (e : Ext O H H') (o : ∀ b xs, ¬ O b → SqL K H b xs → ¬ O' b) : ∀ (ds : List D) (xs : List V), Reps K O H ds xs → Reps K O' H' ds xs
  | [], xs, h => by simpa only [Reps] using h
  | d :: ds, xs, h => by
    simp only [Reps] at h ⊢
    obtain ⟨x, r, e1, h1, h2⟩ := h
    exact ⟨x, r, e1, Rep.ext e o d x h1, Reps.ext e o ds r h2⟩
end
end
structure Rch (K : PySem.W.Frag) (O : Addr → Prop) (H : Hp) (O' : Addr → Prop) (H' : Hp) : Prop where
  ext : Ext O H H'
  new : ∀ a, O' a → O a ∨ (H a = none ∧ K.lookup a = none)
  dom : ∀ a, H' a = none → H a = none
section
variable {K : PySem.W.Frag} {O O1 O2 : Addr → Prop} {H H1 H2 : Hp}
theorem Rd.some {a : Addr} {u : HO} (h : Rd H a u) : H a ≠ none := by
  rcases h with h | ⟨o, h⟩ <;> rw [h] <;> simp
theorem Rch.out (r : Rch K O H O1 H1) (b : Addr) (xs : List V) (n : ¬ O b) (h : SqL K H b xs) : ¬ O1 b := fun z => by
  rcases r.new b z with z | ⟨z1, z2⟩
  · exact n z
  · rcases h with h | ⟨o, _, _, h, _⟩
    · exact Rd.some h z1
    · rw [z2] at h; cases h
theorem Rch.refl : Rch K O H O H := ⟨⟨fun _ _ h => h, fun _ _ _ h => h⟩, fun _ h => .inl h, fun _ h => h⟩
theorem Rch.trans (r : Rch K O H O1 H1) (q : Rch K O1 H1 O2 H2) : Rch K O H O2 H2 where
  ext := ⟨fun b xs h => q.ext.tup b xs (r.ext.tup b xs h), fun b xs n h => q.ext.lst b xs (r.out b xs n (.inl h)) (r.ext.lst b xs n h)⟩
  new := fun a z => (q.new a z).elim (r.new a) fun w => .inr ⟨r.dom a w.1, w.2⟩
  dom := fun a z => r.dom a (q.dom a z)
theorem Same.rd (s : Same H H1) {a : Addr} {u : HO} (h : Rd H a u) : Rd H1 a u := by
  rcases h with h | ⟨o, h⟩
  · exact .inl (s _ _ h)
  · exact .inr ⟨o, s _ _ h⟩
theorem Same.rch (s : Same H H1) : Rch K O H O H1 := ⟨⟨fun _ _ h => Same.rd s h, fun _ _ _ h => Same.rd s h⟩, fun _ h => .inl h, fun _ h => s.free h⟩
theorem Rep.go (r : Rch K O H O1 H1) {d : D} {v : V} (h : Rep K O H d v) : Rep K O1 H1 d v := Rep.ext r.ext r.out d v h
theorem Reps.go (r : Rch K O H O1 H1) {d : List D} {v : List V} (h : Reps K O H d v) : Reps K O1 H1 d v := Reps.ext r.ext r.out d v h
theorem Rep.same (s : Same H H1) {d : D} {v : V} (h : Rep K O H d v) : Rep K O H1 d v := h.go (Same.rch s)
theorem Reps.same (s : Same H H1) {d : List D} {v : List V} (h : Reps K O H d v) : Reps K O H1 d v := h.go (Same.rch s)
theorem Rep.fewer (w : ∀ a, O1 a → O a) {d : D} {v : V} (h : Rep K O H d v) : Rep K O1 H d v := Rep.ext ⟨fun _ _ h => h, fun _ _ _ h => h⟩ (fun b _ n _ z => n (w b z)) d v h
theorem Reps.fewer (w : ∀ a, O1 a → O a) {d : List D} {v : List V} (h : Reps K O H d v) : Reps K O1 H d v := Reps.ext ⟨fun _ _ h => h, fun _ _ _ h => h⟩ (fun b _ n _ z => n (w b z)) d v h
theorem Reps.nil : Reps K O H [] [] := by simp only [Reps]
theorem Reps.cons {d : D} {v : V} {ds : List D} {vs : List V} (h : Rep K O H d v) (t : Reps K O H ds vs) : Reps K O H (d :: ds) (v :: vs) := by simp only [Reps]; exact ⟨v, vs, rfl, h, t⟩
theorem Reps.cons_inv {d : D} {ds : List D} {vs : List V} (h : Reps K O H (d :: ds) vs) : ∃ x r, vs = x :: r ∧ Rep K O H d x ∧ Reps K O H ds r := by simpa only [Reps] using h
theorem Reps.nil_inv {vs : List V} (h : Reps K O H [] vs) : vs = [] := by simpa only [Reps] using h
theorem Reps.length : ∀ {ds : List D} {vs : List V}, Reps K O H ds vs → ds.length = vs.length
  | [], vs, h => by rw [h.nil_inv]; rfl
  | d :: ds, vs, h => by
    obtain ⟨x, r, rfl, _, t⟩ := h.cons_inv
    simp [Reps.length t]
theorem Reps.get : ∀ {ds : List D} {vs : List V} {i : Nat} {d : D}, Reps K O H ds vs → ds[i]? = some d → ∃ v, vs[i]? = some v ∧ Rep K O H d v
  | [], _, _, _, _, e => by simp at e
  | d :: ds, vs, i, d', h, e => by
    obtain ⟨x, r, rfl, h1, t⟩ := h.cons_inv
    cases i with
    | zero => simp at e; subst e; exact ⟨x, rfl, h1⟩
    | succ i => simpa using Reps.get t (i := i) (by simpa using e)
theorem Reps.getV {ds : List D} {vs : List V} {i : Nat} {v : V} (h : Reps K O H ds vs) (e : vs[i]? = some v) : ∃ d, ds[i]? = some d ∧ Rep K O H d v := by
  have hl := h.length
  have hi : i < ds.length := by rw [hl]; exact (List.getElem?_eq_some_iff.mp e).1
  obtain ⟨v', e', r⟩ := h.get (i := i) (d := ds[i]) (by simp [hi])
  rw [e] at e'; cases e'
  exact ⟨_, by simp [hi], r⟩
theorem Reps.append : ∀ {ds es : List D} {vs ws : List V}, Reps K O H ds vs → Reps K O H es ws → Reps K O H (ds ++ es) (vs ++ ws)
  | [], _, vs, _, h, t => by rw [h.nil_inv]; exact t
  | d :: ds, es, vs, ws, h, t => by
    obtain ⟨x, r, rfl, h1, h2⟩ := h.cons_inv
    exact .cons h1 (Reps.append h2 t)
theorem Reps.reverse : ∀ {ds : List D} {vs : List V}, Reps K O H ds vs → Reps K O H ds.reverse vs.reverse
  | [], vs, h => by rw [h.nil_inv]; exact .nil
  | d :: ds, vs, h => by
    obtain ⟨x, r, rfl, h1, h2⟩ := h.cons_inv
    simp only [List.reverse_cons]
    exact h2.reverse.append (.cons h1 .nil)
theorem Reps.drop : ∀ {ds : List D} {vs : List V} (n : Nat), Reps K O H ds vs → Reps K O H (ds.drop n) (vs.drop n)
  | _, _, 0, h => h
  | [], vs, n + 1, h => by rw [h.nil_inv]; exact .nil
  | d :: ds, vs, n + 1, h => by
    obtain ⟨x, r, rfl, h1, h2⟩ := h.cons_inv
    exact h2.drop n
theorem Reps.take : ∀ {ds : List D} {vs : List V} (n : Nat), Reps K O H ds vs → Reps K O H (ds.take n) (vs.take n)
  | _, _, 0, _ => by simpa using Reps.nil
  | [], vs, n + 1, h => by rw [h.nil_inv]; exact .nil
  | d :: ds, vs, n + 1, h => by
    obtain ⟨x, r, rfl, h1, h2⟩ := h.cons_inv
    exact .cons h1 (h2.take n)
theorem Rep.int {i : Int} {v : V} (h : Rep K O H (.int i) v) : v = .int i := by simpa only [Rep] using h
theorem Rep.bl {b : Bool} {v : V} (h : Rep K O H (.bl b) v) : v = .bl b := by simpa only [Rep] using h
theorem Rep.non {v : V} (h : Rep K O H .non v) : v = .non := by simpa only [Rep] using h
theorem Rep.str {x : Str} {v : V} (h : Rep K O H (.str x) v) : v = .str x := by simpa only [Rep] using h
theorem Rep.tup {ds : List D} {v : V} (h : Rep K O H (.tup ds) v) : ∃ a xs, v = .ref a ∧ SqT K H a xs ∧ Reps K O H ds xs := by simpa only [Rep] using h
theorem Rep.lst {ds : List D} {v : V} (h : Rep K O H (.lst ds) v) : ∃ a xs, v = .ref a ∧ SqL K H a xs ∧ ¬ O a ∧ Reps K O H ds xs := by simpa only [Rep] using h
theorem rep_int (i : Int) : Rep K O H (.int i) (.int i) := by simp only [Rep]
theorem rep_bl (b : Bool) : Rep K O H (.bl b) (.bl b) := by simp only [Rep]
theorem rep_non : Rep K O H .non .non := by simp only [Rep]
theorem rep_str (x : Str) : Rep K O H (.str x) (.str x) := by simp only [Rep]
theorem rep_tup {ds : List D} {a : Addr} {xs : List V} (h : SqT K H a xs) (r : Reps K O H ds xs) : Rep K O H (.tup ds) (.ref a) := by simp only [Rep]; exact ⟨a, xs, rfl, h, r⟩
theorem rep_lst {ds : List D} {a : Addr} {xs : List V} (h : SqL K H a xs) (n : ¬ O a) (r : Reps K O H ds xs) : Rep K O H (.lst ds) (.ref a) := by simp only [Rep]; exact ⟨a, xs, rfl, h, n, r⟩
end
inductive Ob where
  | exc (c : Str) | fn (a : Addr)
inductive Ent where
  | val (d : D) | lst (ds : List D) | dic (kvs : List (Key × D)) | obj (t : Ob)
def Ent.own : Ent → Bool
  | .val _ => false
  | .obj _ => false
  | _ => true
def Ent.isV : Ent → Bool
  | .val _ => true
  | _ => false
theorem isV_own {e : Ent} (h : e.isV = true) : e.own = false := by cases e <;> first | rfl | cases h
abbrev Rho := List (Option Ent)
def KReps (K : PySem.W.Frag) (O : Addr → Prop) (H : Hp) (kvs : List (Key × D)) (ys : List (Key × V)) : Prop := kvs.map (·.1) = ys.map (·.1) ∧ Reps K O H (kvs.map (·.2)) (ys.map (·.2))
def RepO (K : PySem.W.Frag) (H : Hp) : Ob → V → Prop
  | .exc c, v => ∃ a o C, v = .ref a ∧ H a = some (.frz o (.own a)) ∧ o.cls = .ref C ∧ o.dict = none ∧ (∃ vs, o.data = .fields vs) ∧ PySem.W.nsIn K mainGlobals c = some (some (.ref C))
  | .fn a, v => v = .ref a ∧ ∃ o fd, H a = some (.frz o (.own a)) ∧ o.data = .func fd
def RepE (K : PySem.W.Frag) (O : Addr → Prop) (H : Hp) : Ent → V → Prop
  | .val d, v => Rep K O H d v
  | .lst ds, v => ∃ a xs, v = .ref a ∧ O a ∧ H a = some (.lst xs) ∧ Reps K O H ds xs
  | .dic kvs, v => ∃ a ys, v = .ref a ∧ O a ∧ H a = some (.dK ys) ∧ KReps K O H kvs ys
  | .obj t, v => RepO K H t v
structure Env (K : PySem.W.Frag) (O : Addr → Prop) (H : Hp) (ρ : Rho) (σ : St) : Prop where
  get : ∀ (i : Nat) e, ρ[i]? = some (some e) → ∃ v, σ[i]? = some (some v) ∧ RepE K O H e v
  sep : ∀ (i j : Nat) e e' v, i ≠ j → ρ[i]? = some (some e) → ρ[j]? = some (some e') → e.own = true → e'.own = true → σ[i]? = some (some v) → σ[j]? = some (some v) → False
structure In (X : Cx) (O : Addr → Prop) (H : Hp) (ρ : Rho) (σ : St) : Prop where
  env : Env X.K O H ρ σ
  al : ∀ a, O a → ∃ o, H a = some o
  len : σ.length = X.N.length
  lenR : ρ.length = X.N.length
section
variable {X : Cx} {O : Addr → Prop} {H H1 : Hp} {ρ : Rho} {σ : St} {K : PySem.W.Frag}
theorem RepO.fz (s : ∀ b o u, H b = some (.frz o u) → H1 b = some (.frz o u)) : ∀ {t : Ob} {v : V}, RepO K H t v → RepO K H1 t v
  | .exc _, _, ⟨a, o, C, e, h, q, n⟩ => ⟨a, o, C, e, s _ _ _ h, q, n⟩
  | .fn _, _, ⟨e, o, fd, h, q⟩ => ⟨e, o, fd, s _ _ _ h, q⟩
theorem RepO.same (s : Same H H1) {t : Ob} {v : V} (h : RepO K H t v) : RepO K H1 t v := h.fz fun _ _ _ q => s _ _ q
theorem RepE.same (s : Same H H1) : ∀ {e : Ent} {v : V}, RepE K O H e v → RepE K O H1 e v
  | .val d, v, h => Rep.same s h
  | .lst ds, v, ⟨a, xs, e, o, h, r⟩ => ⟨a, xs, e, o, s _ _ h, r.same s⟩
  | .dic kvs, v, ⟨a, xs, e, o, h, k, r⟩ => ⟨a, xs, e, o, s _ _ h, k, r.same s⟩
  | .obj t, v, h => RepO.same s h
theorem In.same (i : In X O H ρ σ) (s : Same H H1) : In X O H1 ρ σ :=
  ⟨⟨fun j e h => let ⟨v, h1, h2⟩ := i.env.get j e h; ⟨v, h1, h2.same s⟩, i.env.sep⟩, fun a h => let ⟨o, q⟩ := i.al a h; ⟨o, s _ _ q⟩, i.len, i.lenR⟩
end
def Exc (h : Heap) (e C : Addr) (T : Option Addr) : Prop := ∃ (oe : Obj) (vs : Array Value), h.get? e = some oe ∧ oe.cls = .ref C ∧ oe.dict = none ∧ oe.data = .fields vs ∧ match T with
  | none => vs[1]? = some Value.none
  | some t => vs[1]? = some (.ref t) ∧ t ≠ e ∧ ∃ (ot : Obj) (ts : Array Value), h.get? t = some ot ∧ ot.data = .fields ts ∧ ts[3]? = some Value.none
structure Rsd (P : Program) (w : World) (fs : List Addr) (H : Hp) (s : Shared) (a C : Addr) (T : Option Addr) (s' : Shared) (H' : Hp) : Prop where
  same : Same H H'
  un : Un fs [] H H' s.heap s'.heap
  hok : HOk P w H' s'.heap
  os : s'.os = s.os
  bare : AllBare s'.gens
  exc : Exc s'.heap a C T
  na : s.heap.get? a = none
  ha : H' a = none
  nt : ∀ t, T = some t → s.heap.get? t = none ∧ H' t = none
def XOk (X : Cx) (c : Str) (σ : St) (H : Hp) : Prop := ∀ (H1 : Hp) (pins : List (Addr × Obj)) (s : Shared) (a C : Addr) (T : Option Addr) (s' : Shared) (H' : Hp), Same H H1 → Inv X pins σ H1 s →
  PySem.W.nsIn X.K mainGlobals c = some (some (.ref C)) → Rsd X.prog X.w (frs X.stack) H1 s a C T s' H' → X.xe (.ref a) s'
theorem XOk.same {X : Cx} {c : Str} {σ : St} {H H1 : Hp} (h : XOk X c σ H) (s : Same H H1) : XOk X c σ H1 := fun H2 pins s0 a C T s' H' s2 => h H2 pins s0 a C T s' H' (s.trans s2)
def good {α β : Type} (X : Cx) (Rl : (Addr → Prop) → Hp → α → β → Prop) (O : Addr → Prop) (r : R α) (σ : St) (H : Hp) (Q : β → Hp → Prop) : Prop := match r with
  | .ok a => ∀ b H', Same H H' → Rl O H' a b → Q b H'
  | .err c => XOk X c σ H
  | .bad => False
theorem good.same {α β : Type} {X : Cx} {Rl : (Addr → Prop) → Hp → α → β → Prop} {O : Addr → Prop} {r : R α} {σ : St} {H H1 : Hp} {Q : β → Hp → Prop} (h : good X Rl O r σ H Q) (s : Same H H1) : good X Rl O r σ H1 Q := by
  cases r with
  | ok a => exact fun b H' s' q => h b H' (s.trans s') q
  | err c => exact XOk.same (show XOk X c σ H from h) s
  | bad => exact h
def tG {α β : Type} (X : Cx) (Rl : (Addr → Prop) → Hp → α → β → Prop) (f : Rho → R α) : St → Hp → (β → Hp → Prop) → Prop := fun σ H Q => ∃ ρ O, In X O H ρ σ ∧ good X Rl O (f ρ) σ H Q
abbrev rB : (Addr → Prop) → Hp → Bool → Bool → Prop := fun _ _ a b => a = b
abbrev rD (X : Cx) : (Addr → Prop) → Hp → D → V → Prop := fun O H d v => Rep X.K O H d v
abbrev rDs (X : Cx) : (Addr → Prop) → Hp → List D → List V → Prop := fun O H d v => Reps X.K O H d v
def DE (X : Cx) (e : Expr) (f : Rho → R D) : Prop := PE X e (tG X (rD X) f)
def DT (X : Cx) (e : Expr) (f : Rho → R Bool) : Prop := PT X e (tG X rB f)
def DW (X : Cx) (e : Expr) (f : Rho → R Bool) : Prop := PW X e (tG X rB f)
def DA (X : Cx) (es : List Expr) (f : Rho → R (List D)) : Prop := PA X es (tG X (rDs X) f)
theorem PE.imp {X : Cx} {e : Expr} {t t' : TE} (h : PE X e t) (w : ∀ σ H Q, t' σ H Q → t σ H Q) : PE X e t' := fun pins s σ H Q I q => h pins s σ H Q I (w σ H Q q)
theorem PT.imp {X : Cx} {e : Expr} {t t' : TT} (h : PT X e t) (w : ∀ σ H Q, t' σ H Q → t σ H Q) : PT X e t' := fun pins s σ H Q I q => h pins s σ H Q I (w σ H Q q)
theorem PW.imp {X : Cx} {e : Expr} {t t' : TT} (h : PW X e t) (w : ∀ σ H Q, t' σ H Q → t σ H Q) : PW X e t' := fun wh pins s σ H Q I q => h wh pins s σ H Q I (w σ H Q q)
theorem PA.imp {X : Cx} {e : List Expr} {t t' : TA} (h : PA X e t) (w : ∀ σ H Q, t' σ H Q → t σ H Q) : PA X e t' := fun pos pins s σ H Q I q => h pos pins s σ H Q I (w σ H Q q)
section
variable {X : Cx} {O : Addr → Prop} {H : Hp} {ρ : Rho} {σ : St}
theorem go {α β γ δ : Type} {Rl : (Addr → Prop) → Hp → α → β → Prop} {Rm : (Addr → Prop) → Hp → γ → δ → Prop} {f : Rho → R α} {g : α → R γ} {Q : δ → Hp → Prop} {Q' : β → Hp → Prop}
    (i : In X O H ρ σ) (h : good X Rm O ((f ρ).bind g) σ H Q)
    (k : ∀ a b H1, f ρ = .ok a → Same H H1 → Rl O H1 a b → In X O H1 ρ σ → good X Rm O (g a) σ H1 Q → Q' b H1) : tG X Rl f σ H Q' := by
  refine ⟨ρ, O, i, ?_⟩
  cases e : f ρ with
  | ok a => rw [e] at h; exact fun b H1 s r => k a b H1 e s r (i.same s) (good.same h s)
  | err c => rw [e] at h; exact h
  | bad => rw [e] at h; exact h
theorem fin {α β : Type} {Rl : (Addr → Prop) → Hp → α → β → Prop} {a : α} {b : β} {Q : β → Hp → Prop} (h : good X Rl O (.ok a) σ H Q) (r : Rl O H a b) : Q b H := h b H (Same.refl H) r
end
end Pu
namespace Pu
open PySem PySem.Spec L2
open PyProof.Rows hiding St
theorem Same.upd {H : Hp} {p : Addr} {o : HO} (h : H p = none) : Same H (L2.upd H p o) := fun b u e => by
  rw [upd_ne (ne_of_none e h)]; exact e
theorem Rep.new_tup {X : Cx} {O : Addr → Prop} {H : Hp} {p : Addr} {ds : List D} {xs : List V} (h : H p = none) (r : Reps X.K O H ds xs) : Rep X.K O (upd H p (.tup xs)) (.tup ds) (.ref p) :=
  rep_tup (SqT.of upd_same) (r.same (Same.upd h))
theorem In.notO {X : Cx} {O : Addr → Prop} {H : Hp} {ρ : Rho} {σ : St} (i : In X O H ρ σ) {p : Addr} (h : H p = none) : ¬ O p := fun z => by
  obtain ⟨o, e⟩ := i.al p z
  rw [h] at e; cases e
theorem Rep.new_lst {X : Cx} {O : Addr → Prop} {H : Hp} {p : Addr} {ds : List D} {xs : List V} (h : H p = none) (n : ¬ O p) (r : Reps X.K O H ds xs) : Rep X.K O (upd H p (.lst xs)) (.lst ds) (.ref p) :=
  rep_lst (SqL.of upd_same) n (r.same (Same.upd h))
section
variable {X : Cx} {a b c : Expr} {f g h : Rho → R D} {pos : Pos}
def getV (ρ : Rho) (i : Nat) : R D := match ρ[i]? with
  | some (some (.val d)) => .ok d
  | _ => .bad
theorem dv (i : Nat) {x : Str} {pos : Pos} (hN : X.N[i]? = some x := by rfl) (hv : Vis X.env.scope x := by first | exact Or.inl rfl | exact Or.inr (Or.inl rfl) | exact Or.inr (Or.inr rfl)) (hd : (x == ("__debug__" : Str)) = false := by decide) (hcd : (x == ("__classdict__" : Str)) = false := by decide) :
    DE X (.Name x pos) (fun ρ => getV ρ i) := by
  refine PE.imp (pe_var hN hv hd hcd) fun σ H Q h => ?_
  obtain ⟨ρ, O, j, h⟩ := h
  have h : good X (rD X) O (getV ρ i) σ H Q := h
  unfold getV at h
  split at h
  · rename_i d e
    obtain ⟨v, e1, r⟩ := j.env.get i _ e
    exact ⟨v, e1, fin h r⟩
  · exact h.elim
theorem de_c {e : Expr} {d : D} {v : V} (h : PE X e (tC v)) (r : ∀ O H, Rep X.K O H d v) : DE X e (fun _ => .ok d) := PE.imp h fun σ H Q h => by
  obtain ⟨ρ, O, j, h⟩ := h
  exact fin h (r O H)
theorem de_int {i : Int} {j pos} : DE X (.Constant (.int i) j pos) (fun _ => .ok (.int i)) := de_c pe_int fun _ _ => rep_int i
theorem de_bl {i : Bool} {j pos} : DE X (.Constant (.bool i) j pos) (fun _ => .ok (.bl i)) := de_c pe_bl fun _ _ => rep_bl i
theorem de_non {j pos} : DE X (.Constant .none j pos) (fun _ => .ok .non) := de_c pe_non fun _ _ => rep_non
theorem de_str {x : Str} {j pos} : DE X (.Constant (.str x) j pos) (fun _ => .ok (.str x)) := de_c pe_str fun _ _ => rep_str x
theorem de_gint {x : Str} {i : Int} {t : Tok} {pos : Pos} (hg : Gl X x) (hm : X.mg x = some (.int i t)) (hd : (x == ("__debug__" : Str)) = false := by decide) : DE X (.Name x pos) (fun _ => .ok (.int i)) :=
  de_c (pe_glob (v := .int i) hg hm ⟨t, rfl⟩ hd) fun _ _ => rep_int i
def OpD (X : Cx) (o : Value → Value → Sem Value) (k : D → D → R D) : Prop := ∃ r : R2, OpR X o r ∧
  ∀ (ρ : Rho) (O : Addr → Prop) (σ : St) (H : Hp) (Q : VK) (x y : V) (dx dy : D), In X O H ρ σ → Rep X.K O H dx x → Rep X.K O H dy y → good X (rD X) O (k dx dy) σ H Q → r x y H Q
def bin (f g : Rho → R D) (k : D → D → R D) : Rho → R D := fun ρ => (f ρ).bind fun x => (g ρ).bind fun y => k x y
theorem tOp_of {r : R2} {k : D → D → R D} {σ : St} {H : Hp} {Q : VK}
    (hr : ∀ (ρ : Rho) (O : Addr → Prop) (σ : St) (H : Hp) (Q : VK) (x y : V) (dx dy : D), In X O H ρ σ → Rep X.K O H dx x → Rep X.K O H dy y → good X (rD X) O (k dx dy) σ H Q → r x y H Q)
    (h : tG X (rD X) (bin f g k) σ H Q) : tOp r (tG X (rD X) f) (tG X (rD X) g) σ H Q := by
  obtain ⟨ρ, O, j, h⟩ := h
  refine go j h fun dx x H1 e1 s1 r1 j1 h1 => ?_
  exact go j1 h1 fun dy y H2 e2 s2 r2 j2 h2 => hr ρ O σ H2 Q x y dx dy j2 (r1.same s2) r2 h2
theorem de_bin {op : Operator} {k : D → D → R D} (ho : OpD X (binaryOp op) k) (ha : DE X a f) (hb : DE X b g) : DE X (.BinOp a op b pos) (bin f g k) := by
  obtain ⟨r, ho, hr⟩ := ho
  exact PE.imp (pe_op ho ha hb) fun σ H Q h => tOp_of hr h
theorem de_cmp {op : CmpOp} {k : D → D → R D} (ho : OpD X (compareOp op) k) (ha : DE X a f) (hb : DE X b g) (hm : behindInMarks op b = false := by exact nomark _) : DE X (.Compare a [op] [b] pos) (bin f g k) := by
  obtain ⟨r, ho, hr⟩ := ho
  exact PE.imp (pe_cmpR ho ha hb hm) fun σ H Q h => tOp_of hr h
def asB : D → R Bool
  | .bl b => .ok b
  | _ => .bad
def tst (f : Rho → R D) : Rho → R Bool := fun ρ => (f ρ).bind asB
theorem tTest_of {t : TE} {k : Rho → R D} {σ : St} {H : Hp} {Q : Bool → Hp → Prop} (w : ∀ Q, tG X (rD X) k σ H Q → t σ H Q) (h : tG X rB (tst k) σ H Q) : tTest t σ H Q := by
  refine w _ ?_
  obtain ⟨ρ, O, j, h⟩ := h
  refine go j h fun d x H1 e1 s1 r1 j1 h1 => ?_
  cases d with
  | bl b => exact ⟨b, r1.bl, fin h1 rfl⟩
  | _ => exact h1.elim
theorem dt_cmp {op : CmpOp} {k : D → D → R D} (ho : OpD X (compareOp op) k) (ha : DE X a f) (hb : DE X b g) (hm : behindInMarks op b = false := by exact nomark _) : DT X (.Compare a [op] [b] pos) (tst (bin f g k)) := by
  obtain ⟨r, ho, hr⟩ := ho
  exact PT.imp (pt_cmpR ho ha hb hm) fun σ H Q h => tTest_of (fun Q h => tOp_of hr h) h
theorem dt_val {e : Expr} (h : DE X e f) (he : ∀ whole, isTrue e X.env whole = (do let v ← whole; standAt e.pos; holding [v] (truthy v)) := by intro _; rfl) : DT X e (tst f) :=
  PT.imp (pt_val h he) fun σ H Q h => tTest_of (t := tG X (rD X) f) (fun Q h => h) h
def iD (k : Int → Int → R D) : D → D → R D
  | .int i, .int j => k i j
  | _, _ => .bad
theorem opD_int {o : Value → Value → Sem Value} {C : Int → Int → Prop} {g : Int → Int → V} {k : Int → Int → R D} (ho : OpR X o (rI C g)) (hk : ∀ i j, k i j = .bad ∨ ∃ d, k i j = .ok d ∧ C i j ∧ ∀ K O H, Rep K O H d (g i j)) : OpD X o (iD k) := by
  refine ⟨_, ho, fun ρ O σ H Q x y dx dy j0 rx ry h => ?_⟩
  cases dx <;> cases dy <;> first
    | exact h.elim
    | skip
  rename_i i j
  rcases hk i j with e | ⟨d, e, c, r⟩
  · have h' : good X (rD X) O (k i j) σ H Q := h
    rw [e] at h'; exact h'.elim
  · have h' : good X (rD X) O (k i j) σ H Q := h
    rw [e] at h'
    exact ⟨i, j, rx.int, ry.int, c, fin h' (r _ _ _)⟩
theorem opD_int0 {o : Value → Value → Sem Value} {g : Int → Int → V} {k : Int → Int → R D} (ho : OpR X o (rI0 g)) (hk : ∀ i j, ∃ d, k i j = .ok d ∧ ∀ K O H, Rep K O H d (g i j)) : OpD X o (iD k) := by
  refine ⟨_, ho, fun ρ O σ H Q x y dx dy j0 rx ry h => ?_⟩
  cases dx <;> cases dy <;> first
    | exact h.elim
    | skip
  rename_i i j
  obtain ⟨d, e, r⟩ := hk i j
  have h' : good X (rD X) O (k i j) σ H Q := h
  rw [e] at h'
  exact ⟨i, j, rx.int, ry.int, fin h' (r _ _ _)⟩
def subI : D → D → R D := iD fun i j => .ok (.int (i - j))
def mulI : D → D → R D := iD fun i j => if (-(2 ^ 64) < i ∧ i < 2 ^ 64) ∨ (-(2 ^ 64) < j ∧ j < 2 ^ 64) then .ok (.int (i * j)) else .bad
def divI : D → D → R D := iD fun i j => if 0 < j ∧ j < 2 ^ 64 then .ok (.int (i / j)) else .bad
def modI : D → D → R D := iD fun i j => if 0 < j then .ok (.int (i % j)) else .bad
def powI : D → D → R D := iD fun i j => if 0 ≤ j ∧ j ≤ 1000000 ∧ i.natAbs < 2 ^ 64 then .ok (.int (i ^ j.toNat)) else .bad
def ltI : D → D → R D := iD fun i j => .ok (.bl (decide (i < j)))
def leI : D → D → R D := iD fun i j => .ok (.bl (decide (i ≤ j)))
def gtI : D → D → R D := iD fun i j => .ok (.bl (decide (j < i)))
def geI : D → D → R D := iD fun i j => .ok (.bl (decide (j ≤ i)))
theorem od_sub : OpD X (binaryOp .Sub) subI := opD_int0 op_sub fun i j => ⟨_, rfl, fun _ _ _ => rep_int _⟩
theorem od_lt : OpD X (compareOp .Lt) ltI := opD_int0 op_lt fun i j => ⟨_, rfl, fun _ _ _ => rep_bl _⟩
theorem od_le : OpD X (compareOp .LtE) leI := opD_int0 op_le fun i j => ⟨_, rfl, fun _ _ _ => rep_bl _⟩
theorem od_gt : OpD X (compareOp .Gt) gtI := opD_int0 op_gt fun i j => ⟨_, rfl, fun _ _ _ => rep_bl _⟩
theorem od_ge : OpD X (compareOp .GtE) geI := opD_int0 op_ge fun i j => ⟨_, rfl, fun _ _ _ => rep_bl _⟩
theorem ite_bad {c : Prop} [Decidable c] (d : D) {P : D → Prop} (hP : c → P d) : (if c then R.ok d else R.bad) = R.bad ∨ ∃ d', (if c then R.ok d else R.bad) = R.ok d' ∧ c ∧ P d' := by
  by_cases h : c
  · exact .inr ⟨d, by rw [if_pos h], h, hP h⟩
  · exact .inl (by rw [if_neg h])
theorem od_mul : OpD X (binaryOp .Mult) mulI := opD_int op_mul fun i j => ite_bad (.int (i * j)) (P := fun d => ∀ K O H, Rep K O H d (.int (i * j))) fun _ _ _ _ => rep_int _
theorem log_small {j : Int} (h0 : 0 < j) (h : j < 2 ^ 64) : j.natAbs.log2 < 9000 := by
  have h1 : j.natAbs ≠ 0 := by omega
  have h2 : j.natAbs < 2 ^ 64 := by omega
  have h3 : j.natAbs.log2 < 64 := (Nat.log2_lt h1).mpr h2
  omega
theorem op_fdivL : OpR X (binaryOp .FloorDiv) (rI (fun _ j => 0 < j ∧ j < 2 ^ 64) fun i j => .int (i / j)) := opI fun i j _ _ _ _ _ hc q => by
  refine floordiv_int (by have := hc.1; omega) ?_ (.inl (PyProof.noPylong_of_log2 (log_small hc.1 hc.2)))
  rw [Int.fdiv_eq_ediv_of_nonneg _ (by have := hc.1; omega)]
  exact q
theorem od_div : OpD X (binaryOp .FloorDiv) divI := opD_int op_fdivL fun i j => ite_bad (.int (i / j)) (P := fun d => ∀ K O H, Rep K O H d (.int (i / j))) fun _ _ _ _ => rep_int _
theorem od_mod : OpD X (binaryOp .Mod) modI := opD_int op_mod fun i j => ite_bad (.int (i % j)) (P := fun d => ∀ K O H, Rep K O H d (.int (i % j))) fun _ _ _ _ => rep_int _
theorem od_pow : OpD X (binaryOp .Pow) powI := opD_int op_pow fun i j => ite_bad (.int (i ^ j.toNat)) (P := fun d => ∀ K O H, Rep K O H d (.int (i ^ j.toNat))) fun _ _ _ _ => rep_int _
def chn (f g h : Rho → R D) (k l : D → D → R D) : Rho → R D := fun ρ => (f ρ).bind fun x => (g ρ).bind fun y => (k x y).bind fun z => match z with
  | .bl true => (h ρ).bind fun w => l y w
  | .bl false => .ok (.bl false)
  | _ => .bad
def andV (f g : Rho → R D) : Rho → R D := fun ρ => (f ρ).bind fun x => match x with
  | .bl true => g ρ
  | .bl false => .ok (.bl false)
  | _ => .bad
def notV (f : Rho → R D) : Rho → R D := fun ρ => (f ρ).bind fun x => match x with
  | .bl b => .ok (.bl (!b))
  | _ => .bad
variable {rest : List Expr}
theorem de_one {op} (h : DE X a f) : DE X (.BoolOp op [a] pos) f := pe_one h
theorem de_and (ha : DE X a f) (hb : DE X (.BoolOp .And (b :: rest) pos) g) : DE X (.BoolOp .And (a :: b :: rest) pos) (andV f g) := by
  refine PE.imp (pe_and ha hb) fun σ H Q h => ?_
  obtain ⟨ρ, O, j, h⟩ := h
  refine go j h fun d x H1 e1 s1 r1 j1 h1 => ?_
  cases d with
  | bl k =>
    cases k with
    | true => exact ⟨true, r1.bl, by rw [if_pos rfl]; exact ⟨ρ, O, j1, h1⟩⟩
    | false => exact ⟨false, r1.bl, by rw [if_neg Bool.false_ne_true]; exact fin h1 (rep_bl _)⟩
  | _ => exact h1.elim
theorem de_not (ha : DE X a f) : DE X (.UnaryOp .Not a pos) (notV f) := by
  refine PE.imp (pe_not ha) fun σ H Q h => ?_
  obtain ⟨ρ, O, j, h⟩ := h
  refine go j h fun d x H1 e1 s1 r1 j1 h1 => ?_
  cases d with
  | bl k => exact ⟨k, r1.bl, fin h1 (rep_bl _)⟩
  | _ => exact h1.elim
def andT (f g : Rho → R Bool) : Rho → R Bool := fun ρ => (f ρ).bind fun x => if x = true then g ρ else .ok false
def orT (f g : Rho → R Bool) : Rho → R Bool := fun ρ => (f ρ).bind fun x => if x = true then .ok true else g ρ
def notT (f : Rho → R Bool) : Rho → R Bool := fun ρ => (f ρ).bind fun x => .ok (!x)
variable {p q : Rho → R Bool}
theorem dw_and1 (ha : DT X a p) : DW X (.BoolOp .And [a] pos) p := pw_and1 ha
theorem dw_or1 (ha : DT X a p) : DW X (.BoolOp .Or [a] pos) p := pw_or1 ha
theorem dw_and (ha : DT X a p) (hb : DW X (.BoolOp .And (b :: rest) pos) q) : DW X (.BoolOp .And (a :: b :: rest) pos) (andT p q) := by
  refine PW.imp (pw_and ha hb) fun σ H Q h => ?_
  obtain ⟨ρ, O, j, h⟩ := h
  refine go j h fun d x H1 e1 s1 r1 j1 h1 => ?_
  subst r1
  cases d with
  | true => rw [if_pos rfl] at h1 ⊢; exact ⟨ρ, O, j1, h1⟩
  | false => rw [if_neg Bool.false_ne_true] at h1 ⊢; exact fin h1 rfl
theorem dw_or (ha : DT X a p) (hb : DW X (.BoolOp .Or (b :: rest) pos) q) : DW X (.BoolOp .Or (a :: b :: rest) pos) (orT p q) := by
  refine PW.imp (pw_or ha hb) fun σ H Q h => ?_
  obtain ⟨ρ, O, j, h⟩ := h
  refine go j h fun d x H1 e1 s1 r1 j1 h1 => ?_
  subst r1
  cases d with
  | true => rw [if_pos rfl] at h1 ⊢; exact fin h1 rfl
  | false => rw [if_neg Bool.false_ne_true] at h1 ⊢; exact ⟨ρ, O, j1, h1⟩
theorem DW.dt {e : Expr} (h : DW X e p) : DT X e p := h _
theorem dt_not (ha : DT X a p) : DT X (.UnaryOp .Not a pos) (notT p) := by
  refine PT.imp (pt_not ha) fun σ H Q h => ?_
  obtain ⟨ρ, O, j, h⟩ := h
  refine go j h fun d x H1 e1 s1 r1 j1 h1 => ?_
  subst r1
  exact fin h1 rfl
def consA (f : Rho → R D) (g : Rho → R (List D)) : Rho → R (List D) := fun ρ => (f ρ).bind fun x => (g ρ).bind fun xs => .ok (x :: xs)
variable {es : List Expr} {fa : Rho → R (List D)}
theorem da_nil : DA X [] (fun _ => .ok []) := PA.imp pa_nil fun σ H Q h => by
  obtain ⟨ρ, O, j, h⟩ := h
  exact fin h .nil
theorem da_cons (ha : DE X a f) (hr : DA X es fa) (hs : starEach (a :: es) X.env = (false, eval a X.env) :: starEach es X.env := by rfl) : DA X (a :: es) (consA f fa) := by
  refine PA.imp (pa_cons ha hr hs) fun σ H Q h => ?_
  obtain ⟨ρ, O, j, h⟩ := h
  refine go j h fun d x H1 e1 s1 r1 j1 h1 => ?_
  exact go j1 h1 fun ds xs H2 e2 s2 r2 j2 h2 => fin h2 (.cons (r1.same s2) r2)
def cap (k : List D → D) (ds : List D) : R D := if ds.length ≤ 1000000 then .ok (k ds) else .bad
theorem sizeLine_ge : 1000000 ≤ sizeLine := by rw [sizeLine_eq]; decide
def tupV (fa : Rho → R (List D)) : Rho → R D := fun ρ => (fa ρ).bind (cap .tup)
def lstV (fa : Rho → R (List D)) : Rho → R D := fun ρ => (fa ρ).bind (cap .lst)
theorem de_tup {x1} (h : DA X es fa) : DE X (.Tuple es x1 pos) (tupV fa) := by
  refine PE.imp (pe_tup h) fun σ H Q h => ?_
  obtain ⟨ρ, O, j, h⟩ := h
  refine go j h fun ds xs H1 e1 s1 r1 j1 h1 => ?_
  unfold cap at h1
  split at h1
  · rename_i hl
    exact ⟨by rw [← r1.length]; exact Nat.le_trans hl sizeLine_ge, fun p hp => h1 _ _ (Same.upd hp) (Rep.new_tup hp r1)⟩
  · exact h1.elim
theorem de_lst (h : DA X es fa) : DE X (.List es pos) (lstV fa) := by
  refine PE.imp (pe_lst h) fun σ H Q h => ?_
  obtain ⟨ρ, O, j, h⟩ := h
  refine go j h fun ds xs H1 e1 s1 r1 j1 h1 => ?_
  unfold cap at h1
  split at h1
  · rename_i hl
    exact ⟨by rw [← r1.length]; exact Nat.le_trans hl sizeLine_ge, fun p hp => h1 _ _ (Same.upd hp) (Rep.new_lst hp (j1.notO hp) r1)⟩
  · exact h1.elim
def ixD : D → D → R D
  | .tup ds, .int i => match atI ds i with | some d => .ok d | none => .bad
  | .lst ds, .int i => match atI ds i with | some d => .ok d | none => .bad
  | _, _ => .bad
theorem Reps.atI {K : PySem.W.Frag} {O : Addr → Prop} {H : Hp} {ds : List D} {vs : List V} {i : Int} {d : D} (r : Reps K O H ds vs) (e : atI ds i = some d) : ∃ v, atI vs i = some v ∧ Rep K O H d v := by
  unfold L2.atI at e ⊢
  rw [r.length] at e
  cases q : ixN vs.length i with
  | none => rw [q] at e; cases e
  | some k =>
    rw [q] at e
    obtain ⟨v, h1, h2⟩ := r.get (i := k) (d := d) e
    exact ⟨v, h1, h2⟩
theorem de_ix (ha : DE X a f) (hb : DE X b g) (hs : PlainIx b := by exact fun _ _ => rfl) : DE X (.Subscript a b pos) (bin f g ixD) := by
  refine PE.imp (pe_ix ix_seq ha hb hs) fun σ H Q h => tOp_of (fun ρ O σ H Q x y dx dy j0 rx ry h => ?_) h
  cases dx <;> cases dy <;> first
    | exact h.elim
    | skip
  · rename_i ds i
    obtain ⟨p, xs, rfl, hq, r⟩ := rx.tup
    have h' : good X (rD X) O (match L2.atI ds i with | some d => R.ok d | none => R.bad) σ H Q := h
    cases e : L2.atI ds i with
    | none => rw [e] at h'; exact h'.elim
    | some d =>
      rw [e] at h'
      obtain ⟨v, e1, rv⟩ := r.atI e
      exact .inr (.inl ⟨p, xs, i, v, rfl, ry.int, hq, e1, fin h' rv⟩)
  · rename_i ds i
    obtain ⟨p, xs, rfl, hq, _, r⟩ := rx.lst
    have h' : good X (rD X) O (match L2.atI ds i with | some d => R.ok d | none => R.bad) σ H Q := h
    cases e : L2.atI ds i with
    | none => rw [e] at h'; exact h'.elim
    | some d =>
      rw [e] at h'
      obtain ⟨v, e1, rv⟩ := r.atI e
      exact .inl ⟨p, xs, i, v, rfl, ry.int, hq, e1, fin h' rv⟩
def CallD (X : Cx) (u : Value) (k : List D → R D) : Prop := ∃ r : List V → Hp → VK → Prop, CallR X u r ∧
  ∀ (ρ : Rho) (O : Addr → Prop) (σ : St) (H : Hp) (Q : VK) (xs : List V) (ds : List D), In X O H ρ σ → Reps X.K O H ds xs → good X (rD X) O (k ds) σ H Q → r xs H Q
def callV (k : List D → R D) (fa : Rho → R (List D)) : Rho → R D := fun ρ => (fa ρ).bind k
variable {x : Str} {pp : Pos} {k : List D → R D} {id T : String}
theorem de_callB (hc : CallD X (.builtin id) k) (hg : Gl X x) (hm : X.mg x = none) (hv : bootBuiltins x = some (.builtin id)) (ha : DA X (a :: es) fa) (hn : x ≠ "__name__" := by decide) (hdb : (x == ("__debug__" : Str)) = false := by decide)
    (he : starEach (a :: es) X.env = (false, eval a X.env) :: starEach es X.env := by rfl) (hpl : (backTo pos (starEach es X.env)).any (·.1) = false := by rfl) : DE X (.Call (.Name x pp) (a :: es) [] pos) (callV k fa) := by
  obtain ⟨r, hc, hr⟩ := hc
  refine PE.imp (pe_callB hc hg hm hv ha hn hdb he hpl) fun σ H Q h => ?_
  obtain ⟨ρ, O, j, h⟩ := h
  exact go j h fun ds xs H1 e1 s1 r1 j1 h1 => hr ρ O σ H1 Q xs ds j1 r1 h1
theorem de_callT (hc : CallD X (.type T) k) (hg : Gl X x) (hm : X.mg x = none) (hv : bootBuiltins x = some (.type T)) (ha : DA X (a :: es) fa) (hn : x ≠ "__name__" := by decide) (hdb : (x == ("__debug__" : Str)) = false := by decide)
    (he : starEach (a :: es) X.env = (false, eval a X.env) :: starEach es X.env := by rfl) (hpl : (backTo pos (starEach es X.env)).any (·.1) = false := by rfl) : DE X (.Call (.Name x pp) (a :: es) [] pos) (callV k fa) := by
  obtain ⟨r, hc, hr⟩ := hc
  refine PE.imp (pe_callTy hc hg hm hv ha hn hdb he hpl) fun σ H Q h => ?_
  obtain ⟨ρ, O, j, h⟩ := h
  exact go j h fun ds xs H1 e1 s1 r1 j1 h1 => hr ρ O σ H1 Q xs ds j1 r1 h1
end
end Pu
namespace Pu
open PySem PySem.Spec L2
open PyProof.Rows hiding St
section
variable {X : Cx} {a b c : Expr} {f g h : Rho → R D} {pos : Pos}
theorem tChain_of {r r' : R2} {k l : D → D → R D} {σ : St} {H : Hp} {Q : VK}
    (hr : ∀ (ρ : Rho) (O : Addr → Prop) (σ : St) (H : Hp) (Q : VK) (x y : V) (dx dy : D), In X O H ρ σ → Rep X.K O H dx x → Rep X.K O H dy y → good X (rD X) O (k dx dy) σ H Q → r x y H Q)
    (hl : ∀ (ρ : Rho) (O : Addr → Prop) (σ : St) (H : Hp) (Q : VK) (x y : V) (dx dy : D), In X O H ρ σ → Rep X.K O H dx x → Rep X.K O H dy y → good X (rD X) O (l dx dy) σ H Q → r' x y H Q)
    (q : tG X (rD X) (chn f g h k l) σ H Q) : tChain r r' (tG X (rD X) f) (tG X (rD X) g) (tG X (rD X) h) σ H Q := by
  obtain ⟨ρ, O, j, q⟩ := q
  refine go j q fun dx x H1 e1 s1 r1 j1 h1 => ?_
  refine go j1 h1 fun dy y H2 e2 s2 r2 j2 h2 => ?_
  have r1' := r1.same s2
  cases e3 : k dx dy with
  | bad => rw [e3] at h2; exact h2.elim
  | err n => rw [e3] at h2; exact hr ρ O σ H2 _ x y dx dy j2 r1' r2 (by rw [e3]; exact h2)
  | ok z =>
    rw [e3] at h2
    refine hr ρ O σ H2 _ x y dx dy j2 r1' r2 ?_
    rw [e3]
    intro v H3 s3 r3
    have j3 := j2.same s3
    cases z with
    | bl t =>
      refine ⟨t, r3.bl, ?_⟩
      cases t with
      | true =>
        rw [if_pos rfl]
        exact go j3 (good.same h2 s3) fun dw w H4 e4 s4 r4 j4 h4 => hl ρ O σ H4 Q y w dy dw j4 (r2.same (s3.trans s4)) r4 h4
      | false =>
        rw [if_neg Bool.false_ne_true]
        exact fin (good.same h2 s3) (rep_bl _)
    | _ => exact h2.elim
theorem de_chain {op op' : CmpOp} {k l : D → D → R D} (ho : OpD X (compareOp op) k) (ho' : OpD X (compareOp op') l) (ha : DE X a f) (hb : DE X b g) (hc : DE X c h)
    (hm : lastMarks [op, op'] [b, c] = false := by with_unfolding_all rfl) : DE X (.Compare a [op, op'] [b, c] pos) (chn f g h k l) := by
  obtain ⟨r, ho, hr⟩ := ho
  obtain ⟨r', ho', hr'⟩ := ho'
  exact PE.imp (pe_chain ho ho' ha hb hc hm) fun σ H Q q => tChain_of hr hr' q
end
def YAt (K : PySem.W.Frag) (O : Addr → Prop) (J : It) (xs : List D) (H : Hp) : Prop :=
  ∀ i : Nat, (∀ d, xs[i]? = some d → J.go i H ∧ ∀ x H', J.yld i H x H' → Same H H' ∧ Rep K O H' d x) ∧ (xs.length ≤ i → J.stop i H)
def YR (K : PySem.W.Frag) (O : Addr → Prop) (H : Hp) (J : It) (xs : List D) : Prop := ∀ O' H', Rch K O H O' H' → YAt K O' J xs H'
abbrev rIt (X : Cx) : (Addr → Prop) → Hp → List D → It → Prop := fun O H xs J => YR X.K O H J xs
def DI (X : Cx) (tg iter : Expr) (fi : Rho → R (List D)) : Prop := PI X tg iter (tG X (rIt X) fi)
theorem PI.imp {X : Cx} {tg e : Expr} {t t' : TI} (h : PI X tg e t) (w : ∀ σ H Q, t' σ H Q → t σ H Q) : PI X tg e t' := fun pins s σ H Q I q => h pins s σ H Q I (w σ H Q q)
section
variable {X : Cx} {tg : Expr}
def iSeq (K : PySem.W.Frag) (tl : TE) : TI := fun σ H R => tl σ H fun x H1 => ∃ a, x = .ref a ∧ (((∃ xs, SqL K H1 a xs) ∧ R (Itl K a) H1) ∨ ((∃ xs, SqT K H1 a xs) ∧ R (Itt K a) H1))
theorem pi_seq {l : Expr} {tl : TE} (hl : PE X l tl) : PI X tg l (iSeq X.K tl) := by
  intro pins s σ H R I h
  refine thn (hl pins s σ H _ I h) fun v s1 ⟨x, H1, I1, r1, q1⟩ => ?_
  obtain ⟨a, e, q⟩ := q1
  subst e
  cases r1
  have fp : ∀ b ∈ [s1.heap.objs.size], FpOk X pins H1 b := fun b hb => by
    have e : b = s1.heap.objs.size := by simpa using hb
    subst e
    exact I1.fpOk (Nat.le_refl _) (I1.hok.fresh (Nat.le_refl _))
  rcases q with ⟨⟨xs, hq⟩, q⟩ | ⟨⟨xs, hq⟩, q⟩
  · obtain ⟨its, rv, p, hz⟩ := I1.list hq
    refine wpAny_pyIter_list p.isList ?_
    exact ⟨s1.heap.objs.size, [s1.heap.objs.size], _, _, H1, rfl, I1.kept (t' := s1.toks) fun b o e => Heap.get?_push_of_some _ e, turn_list a _, ⟨_, Heap.get?_push_size _ rfl, rfl, rfl⟩, fp, q⟩
  · obtain ⟨its, rv, p, hz⟩ := I1.tuple hq
    refine wpAny_pyIter_tuple (show s1.heap.IsTuple a its.toArray from p) ?_
    exact ⟨s1.heap.objs.size, [s1.heap.objs.size], _, _, H1, rfl, I1.kept (t' := s1.toks) fun b o e => Heap.get?_push_of_some _ e, turn_tuple a _, ⟨_, Heap.get?_push_size _ rfl, rfl, rfl⟩, fp, q⟩
def itemsD : D → R (List D)
  | .tup ds => .ok ds
  | .lst ds => .ok ds
  | _ => .bad
theorem YR.lst {K : PySem.W.Frag} {O : Addr → Prop} {H : Hp} {a : Addr} {ds : List D} {xs : List V} (h : SqL K H a xs) (n : ¬ O a) (r : Reps K O H ds xs) : YR K O H (Itl K a) ds := by
  intro O' H' q
  have h' : SqL K H' a xs := SqL.ext q.ext n h
  have r' := r.go q
  intro i
  refine ⟨fun d e => ?_, fun e => ⟨xs, h', by rw [← r.length]; exact e⟩⟩
  obtain ⟨v, e1, rv⟩ := r'.get e
  refine ⟨⟨xs, v, h', e1⟩, fun x H2 y => ?_⟩
  obtain ⟨eH, y⟩ := y
  subst eH
  have := y xs h'
  rw [e1] at this; cases this
  exact ⟨Same.refl _, rv⟩
theorem YR.tup {K : PySem.W.Frag} {O : Addr → Prop} {H : Hp} {a : Addr} {ds : List D} {xs : List V} (h : SqT K H a xs) (r : Reps K O H ds xs) : YR K O H (Itt K a) ds := by
  intro O' H' q
  have h' : SqT K H' a xs := SqT.ext q.ext h
  have r' := r.go q
  intro i
  refine ⟨fun d e => ?_, fun e => ⟨xs, h', by rw [← r.length]; exact e⟩⟩
  obtain ⟨v, e1, rv⟩ := r'.get e
  refine ⟨⟨xs, v, h', e1⟩, fun x H2 y => ?_⟩
  obtain ⟨eH, y⟩ := y
  subst eH
  have := y xs h'
  rw [e1] at this; cases this
  exact ⟨Same.refl _, rv⟩
def seqI (f : Rho → R D) : Rho → R (List D) := fun ρ => (f ρ).bind itemsD
theorem di_seq {l : Expr} {f : Rho → R D} (h : DE X l f) : DI X tg l (seqI f) := by
  refine PI.imp (pi_seq h) fun σ H Q q => ?_
  obtain ⟨ρ, O, j, q⟩ := q
  refine go j q fun d x H1 e1 s1 r1 j1 h1 => ?_
  cases d with
  | tup ds =>
    obtain ⟨a, xs, rfl, hq, r⟩ := r1.tup
    exact ⟨a, rfl, .inr ⟨⟨xs, hq⟩, fin h1 (YR.tup hq r)⟩⟩
  | lst ds =>
    obtain ⟨a, xs, rfl, hq, n, r⟩ := r1.lst
    exact ⟨a, rfl, .inl ⟨⟨xs, hq⟩, fin h1 (YR.lst hq n r)⟩⟩
  | _ => exact h1.elim
def upto (lo : Int) (n : Nat) : List D := (List.range n).map fun (i : Nat) => D.int (lo + (i : Int))
theorem YR.rng {K : PySem.W.Frag} {O : Addr → Prop} {H : Hp} (lo : Int) (n : Nat) : YR K O H (Itr lo n) (upto lo n) := by
  intro O' H' q i
  have hl : (upto lo n).length = n := by simp [upto]
  refine ⟨fun d e => ?_, fun e => by rw [hl] at e; exact e⟩
  have hi : i < n := by rw [← hl]; exact (List.getElem?_eq_some_iff.mp e).1
  have e2 : d = D.int (lo + (i : Int)) := by
    simp only [upto, List.getElem?_map, List.getElem?_range hi] at e
    exact (Option.some.inj e).symm
  subst e2
  refine ⟨hi, fun x H2 y => ?_⟩
  obtain ⟨eH, y⟩ := y
  subst eH; subst y
  exact ⟨Same.refl _, rep_int _⟩
def rng1 : List D → R (List D)
  | [.int j] => if -(2 ^ 62) ≤ j ∧ j < 2 ^ 62 then .ok (upto 0 j.toNat) else .bad
  | _ => .bad
theorem Reps.one {K : PySem.W.Frag} {O : Addr → Prop} {H : Hp} {d : D} {xs : List V} (r : Reps K O H [d] xs) : ∃ x, xs = [x] ∧ Rep K O H d x := by
  obtain ⟨x, t, rfl, h1, h2⟩ := r.cons_inv
  rw [h2.nil_inv]; exact ⟨x, rfl, h1⟩
theorem Reps.two {K : PySem.W.Frag} {O : Addr → Prop} {H : Hp} {d e : D} {xs : List V} (r : Reps K O H [d, e] xs) : ∃ x y, xs = [x, y] ∧ Rep K O H d x ∧ Rep K O H e y := by
  obtain ⟨x, t, rfl, h1, h2⟩ := r.cons_inv
  obtain ⟨y, rfl, h3⟩ := h2.one
  exact ⟨x, y, rfl, h1, h3⟩
variable {a b : Expr} {fa : Rho → R (List D)} {p pos : Pos}
theorem di_range1 (hg : Gl X "range") (hm : X.mg "range" = none) (ha : DA X [a] fa) (hs : starEach [a] X.env = [(false, eval a X.env)] := by rfl) : DI X tg (.Call (.Name "range" p) [a] [] pos) (fun ρ => (fa ρ).bind rng1) := by
  refine PI.imp (pi_range1 hg hm ha hs) fun σ H Q q => ?_
  obtain ⟨ρ, O, j, q⟩ := q
  refine go j q fun ds xs H1 e1 s1 r1 j1 h1 => ?_
  unfold rng1 at h1
  split at h1
  · obtain ⟨x, rfl, rx⟩ := r1.one
    split at h1
    · rename_i i hi
      exact ⟨i, by rw [rx.int], hi.1, hi.2, fin h1 (YR.rng 0 i.toNat)⟩
    · exact h1.elim
  · exact h1.elim
end
def DG (X : Cx) (tg : Expr) (gt : D → Rho → R Rho) : Prop := PG X tg fun v σ H Q => ∃ ρ O d ρ', In X O H ρ σ ∧ Rep X.K O H d v ∧ gt d ρ = .ok ρ' ∧ ∀ σ', In X O H ρ' σ' → Q σ' H
section
variable {X : Cx} {pos : Pos}
theorem In.set {O : Addr → Prop} {H : Hp} {ρ : Rho} {σ : St} (j : In X O H ρ σ) {i : Nat} (hi : i < X.N.length) {d : D} {v : V} (r : Rep X.K O H d v) : In X O H (ρ.set i (some (.val d))) (σ.set i (some v)) := by
  have h1 : i < ρ.length := by rw [j.lenR]; exact hi
  have h2 : i < σ.length := by rw [j.len]; exact hi
  refine ⟨⟨fun k e q => ?_, fun k l e e' u hkl qk ql ok ol sk sl => ?_⟩, j.al, by rw [List.length_set]; exact j.len, by rw [List.length_set]; exact j.lenR⟩
  · by_cases hk : k = i
    · subst hk
      rw [List.getElem?_set_self h1] at q
      cases q
      exact ⟨v, List.getElem?_set_self h2, r⟩
    · rw [List.getElem?_set_ne (Ne.symm hk)] at q
      obtain ⟨u, q1, q2⟩ := j.env.get k e q
      exact ⟨u, by rw [List.getElem?_set_ne (Ne.symm hk)]; exact q1, q2⟩
  · have hk : k ≠ i := fun z => by subst z; rw [List.getElem?_set_self h1] at qk; cases qk; cases ok
    have hl : l ≠ i := fun z => by subst z; rw [List.getElem?_set_self h1] at ql; cases ql; cases ol
    rw [List.getElem?_set_ne (Ne.symm hk)] at qk sk
    rw [List.getElem?_set_ne (Ne.symm hl)] at ql sl
    exact j.env.sep k l e e' u hkl qk ql ok ol sk sl
def setV (i : Nat) (d : D) (ρ : Rho) : R Rho := .ok (ρ.set i (some (.val d)))
theorem dg_name (i : Nat) {x : Str} (hN : X.N.Nodup) (hi : X.N[i]? = some x := by rfl) (hx : Loc X.env.scope x := by first | exact Or.inl rfl | exact Or.inr rfl) (hf : X.fn x = true ∨ X.env.scope.names.lookup x = some .local := by first | exact .inl rfl | exact .inr rfl) : DG X (.Name x pos) (setV i) := by
  intro pins s σ H v u Q I r h
  obtain ⟨ρ, O, d, ρ', j, rd, e, q⟩ := h
  cases e
  exact pg_name hN hi hx hf pins s σ H v u Q I r (q _ (j.set (List.getElem?_eq_some_iff.mp hi).1 rd))
def nilG : List D → Rho → R Rho
  | [], ρ => .ok ρ
  | _, _ => .bad
def consG (t : D → Rho → R Rho) (u : List D → Rho → R Rho) : List D → Rho → R Rho
  | d :: ds, ρ => (t d ρ).bind fun ρ' => u ds ρ'
  | _, _ => .bad
def tupG (u : List D → Rho → R Rho) : D → Rho → R Rho
  | .tup ds, ρ => u ds ρ
  | _, _ => .bad
def lenG (n : Nat) (u : List D → Rho → R Rho) : List D → Rho → R Rho := fun ds ρ => if ds.length = n then u ds ρ else .bad
end
end Pu
namespace Pu
open PySem PySem.Spec L2
open PyProof.Rows hiding St
def ixOf (x : Str) : List Str → Nat
  | [] => 0
  | y :: r => if x = y then 0 else ixOf x r + 1
theorem ixOf_get {x : Str} : ∀ {N : List Str}, x ∈ N → N[ixOf x N]? = some x
  | [], h => by simp at h
  | y :: r, h => by
    unfold ixOf
    by_cases e : x = y
    · rw [if_pos e, e]; rfl
    · rw [if_neg e]
      rcases List.mem_cons.mp h with z | z
      · exact absurd z e
      · simpa using ixOf_get z
def pull {α : Type} (N caps : List Str) (n : Nat) (l : List (Option α)) : List (Option α) := List.replicate n none ++ caps.map fun x => (l[ixOf x N]?).join
theorem pull_len {α : Type} (N caps : List Str) (n : Nat) (l : List (Option α)) : (pull N caps n l).length = n + caps.length := by simp [pull]
theorem join_some {α : Type} {o : Option (Option α)} {a : α} (h : o.join = some a) : o = some (some a) := by
  cases o with
  | none => cases h
  | some o => exact congrArg some h
theorem pull_get {α : Type} {N caps : List Str} {n : Nat} {l : List (Option α)} {i : Nat} {a : α} (h : (pull N caps n l)[i]? = some (some a)) : ∃ j x, i = n + j ∧ caps[j]? = some x ∧ l[ixOf x N]? = some (some a) := by
  unfold pull at h
  by_cases hi : i < n
  · rw [List.getElem?_append_left (by simpa using hi), List.getElem?_replicate, if_pos hi] at h
    cases h
  · rw [List.getElem?_append_right (by simpa using hi), List.length_replicate, List.getElem?_map] at h
    cases e : caps[i - n]? with
    | none => rw [e] at h; cases h
    | some x =>
      rw [e] at h
      exact ⟨i - n, x, by omega, e, join_some (Option.some.inj h)⟩
theorem pull_at {α : Type} {N caps : List Str} {n : Nat} {l : List (Option α)} {j : Nat} {x : Str} (h : caps[j]? = some x) : (pull N caps n l)[n + j]? = some (l[ixOf x N]?).join := by
  unfold pull
  rw [List.getElem?_append_right (by simp), List.length_replicate, List.getElem?_map, show n + j - n = j by omega, h]
  rfl
def capt (sc : Scope) : List Str := (sc.names.filter fun x => decide (x.2 = .free)).map (·.1)
def blkB (outer sc : Scope) (ts N : List Str) : Bool :=
  decide (sc.kind = .function) && sc.names.all (fun x => (!decide (x.2 = .local)) || decide (sc.names.lookup x.1 = some .local)) && sc.names.all (fun x => (!decide (x.2 = .cell)) || decide (sc.names.lookup x.1 = some .cell)) &&
    (capt sc).all (fun x => (decide (outer.names.lookup x = some .cell) || decide (outer.names.lookup x = some .free)) && decide (x ∈ N) && decide (sc.names.lookup x = some .free)) && decide (ts ++ capt sc).Nodup
structure BlkOk (outer sc : Scope) (ts N : List Str) : Prop where
  kind : sc.kind = .function
  loc : ∀ x ∈ sc.names, x.2 = .local → sc.names.lookup x.1 = some .local
  cel : ∀ x ∈ sc.names, x.2 = .cell → sc.names.lookup x.1 = some .cell
  out : ∀ x ∈ capt sc, outer.names.lookup x = some .cell ∨ outer.names.lookup x = some .free
  mem : ∀ x ∈ capt sc, x ∈ N
  fre : ∀ x ∈ capt sc, sc.names.lookup x = some .free
  nd : (ts ++ capt sc).Nodup
theorem blkOk {outer sc : Scope} {ts N : List Str} (h : blkB outer sc ts N = true) : BlkOk outer sc ts N := by
  unfold blkB at h
  simp only [Bool.and_eq_true, List.all_eq_true, decide_eq_true_eq, Bool.or_eq_true, Bool.not_eq_true', decide_eq_false_iff_not] at h
  obtain ⟨⟨⟨⟨h1, h2⟩, h3⟩, h4⟩, h5⟩ := h
  exact ⟨h1, fun x hx e => (h2 x hx).resolve_left fun n => n e, fun x hx e => (h3 x hx).resolve_left fun n => n e, fun x hx => (h4 x hx).1.1, fun x hx => (h4 x hx).1.2, fun x hx => (h4 x hx).2, h5⟩
def clOf (cs : List (Str × Addr)) : List (Str × NameKind) → List (Str × Addr) → List (Str × Addr)
  | [], acc => acc
  | (n, k) :: r, acc => if k = .free then clOf cs r ((n, (cs.lookup n).getD 0) :: acc) else clOf cs r acc
theorem closure_of {scope : Scope} {env : PySem.Env} (h : ∀ x ∈ scope.names, x.2 = .free → ∃ c, env.cells.lookup x.1 = some c) : closureFor scope env = pure (clOf env.cells scope.names []) := by
  unfold closureFor
  have all : ∀ (l : List (Str × NameKind)) (acc : List (Str × Addr)), (∀ x ∈ l, x.2 = .free → ∃ c, env.cells.lookup x.1 = some c) →
      (forIn l acc fun x r => match x with | (name, kind) => if (kind == NameKind.free) = true then do let a ← cellOf env name; pure (ForInStep.yield ((name, a) :: r)) else pure (ForInStep.yield r) : Sem (List (Str × Addr))) = pure (clOf env.cells l acc) := by
    intro l
    induction l with
    | nil => intro acc _; rfl
    | cons x r ih =>
      intro acc hx
      obtain ⟨n, k⟩ := x
      rw [List.forIn_cons]
      unfold clOf
      by_cases hk : k = .free
      · obtain ⟨c, hc⟩ := hx (n, k) List.mem_cons_self hk
        have hc : env.cells.lookup n = some c := hc
        have e1 : cellOf env n = pure c := by unfold cellOf; rw [hc]
        subst hk
        simp only [e1, hc, Option.getD_some, beq_self_eq_true, if_true, pure_bind]
        exact ih _ fun y hy => hx y (List.mem_cons_of_mem _ hy)
      · have e2 : (k == NameKind.free) = false := by simpa using hk
        simp only [e2, Bool.false_eq_true, if_false, pure_bind, hk]
        exact ih _ fun y hy => hx y (List.mem_cons_of_mem _ hy)
  simpa using all scope.names [] h
theorem clOf_append (cs : List (Str × Addr)) : ∀ (l : List (Str × NameKind)) (acc : List (Str × Addr)), clOf cs l acc = clOf cs l [] ++ acc
  | [], acc => rfl
  | (n, k) :: r, acc => by
    unfold clOf
    split
    · rw [clOf_append cs r (_ :: acc), clOf_append cs r [_]]; simp
    · exact clOf_append cs r acc
theorem clOf_mem (cs : List (Str × Addr)) : ∀ (l : List (Str × NameKind)) {n : Str} {c : Addr}, (n, c) ∈ clOf cs l [] → (n, NameKind.free) ∈ l ∧ c = (cs.lookup n).getD 0
  | [], _, _, h => by simp [clOf] at h
  | (m, k) :: r, n, c, h => by
    unfold clOf at h
    split at h
    · rename_i hk
      rw [clOf_append] at h
      rcases List.mem_append.mp h with h | h
      · obtain ⟨h1, h2⟩ := clOf_mem cs r h
        exact ⟨List.mem_cons_of_mem _ h1, h2⟩
      · have e := List.mem_singleton.mp h
        cases e
        subst hk
        exact ⟨List.mem_cons_self, rfl⟩
    · obtain ⟨h1, h2⟩ := clOf_mem cs r h
      exact ⟨List.mem_cons_of_mem _ h1, h2⟩
theorem clOf_has (cs : List (Str × Addr)) : ∀ (l : List (Str × NameKind)) {n : Str}, (n, NameKind.free) ∈ l → ((clOf cs l []).lookup n).isSome = true
  | [], _, h => by simp at h
  | (m, k) :: r, n, h => by
    unfold clOf
    split
    · rename_i hk
      rw [clOf_append, List.lookup_append]
      rcases List.mem_cons.mp h with e | h
      · cases e
        simp [List.lookup_cons]
      · simp [clOf_has cs r h]
    · rename_i hk
      rcases List.mem_cons.mp h with e | h
      · cases e; exact absurd rfl hk
      · exact clOf_has cs r h
theorem cellsFrom_app : ∀ (l : List (Str × NameKind)) (n : Nat) (acc : List (Str × Addr)), cellsFrom n l acc = cellsFrom n l [] ++ acc
  | [], _, _ => rfl
  | (m, k) :: r, n, acc => by
    unfold cellsFrom
    split
    · rw [cellsFrom_app r _ (_ :: acc), cellsFrom_app r _ [_]]; simp
    · exact cellsFrom_app r n acc
theorem cellsFrom_mem : ∀ (l : List (Str × NameKind)) (n : Nat) {x : Str} {c : Addr}, (x, c) ∈ cellsFrom n l [] → (x, NameKind.cell) ∈ l ∧ n ≤ c
  | [], _, _, _, h => by simp [cellsFrom] at h
  | (m, k) :: r, n, x, c, h => by
    unfold cellsFrom at h
    split at h
    · rename_i hk
      rw [cellsFrom_app] at h
      rcases List.mem_append.mp h with h | h
      · obtain ⟨h1, h2⟩ := cellsFrom_mem r _ h
        exact ⟨List.mem_cons_of_mem _ h1, by omega⟩
      · have e := List.mem_singleton.mp h
        cases e
        have : k = .cell := by simpa using hk
        subst this
        exact ⟨List.mem_cons_self, Nat.le_refl _⟩
    · obtain ⟨h1, h2⟩ := cellsFrom_mem r _ h
      exact ⟨List.mem_cons_of_mem _ h1, h2⟩
section
variable {M : Model} {A : Around} {E : Value → Shared → Prop} {s : Shared}
theorem new_block {scope : Scope} {globals : Addr} {cl : List (Str × Addr)} {qual : Str} {env : PySem.Env} {Q : PySem.Env → Shared → Prop}
    (hQ : Q (newEnv scope s.heap.objs.size globals (cellsFrom (s.heap.objs.size + 1) scope.names cl) qual none .none (some env) builtinsNs) { s with heap := pushCells (s.heap.push { cls := .type "dict", data := .dict #[] }) scope.names }) :
    wpAny M A (newFunctionEnv scope globals cl [] qual none .none (some env)) Q E s := by
  simp only [newFunctionEnv, Option.isSome_some, if_true]
  refine wpAny_bind (wpAny_alloc ?_)
  refine wpAny_bind (wpAny_layCells _ (fun name kind cells => by cases hkc : kind == NameKind.cell <;> simp [hkc]) _ _ _ _ ?_)
  rw [show ({ s with heap := s.heap.push { cls := .type "dict", data := .dict #[] } } : Shared).heap.objs.size = s.heap.objs.size + 1 from Heap.size_push ..]
  exact wpAny_bind (wpAny_pure (wpAny_pure hQ))
end
def blkEnv (scope : Scope) (env : PySem.Env) (C : Addr) : PySem.Env :=
  { scope := relabel scope env, locals := C, globals := env.globals, cells := cellsFrom (C + 1) scope.names (clOf env.cells scope.names []), qual := env.qual, func := none, code := env.code, frame := env.frame, builtins := env.builtins }
def blkCx (X : Cx) (scope : Scope) (ts : List Str) (C : Addr) (s : Shared) (H : Hp) (ex : List Addr) : Cx where
  prog := X.prog
  w := X.w
  K := X.K
  mg := X.mg
  base := X.base
  A := X.A
  N := ts ++ capt scope
  s₀ := s
  H₀ := H
  env := blkEnv scope X.env C
  outer := X.stack
  stack := X.stack
  ex := ex
  fn := fun x => decide (scope.names.lookup x = some .cell)
  calm := X.calm
  pn := []
  xe := fun _ _ => False
theorem relabel_lookup {scope : Scope} {env : PySem.Env} {x : Str} : ∀ {names : List (Str × NameKind)},
    (names.map fun (n, k) => if (k == NameKind.free && env.scope.kind == .function && env.kindOf n == some .cell) then (n, NameKind.cell) else (n, k)).lookup x =
      (names.lookup x).map fun k => if (k == NameKind.free && env.scope.kind == .function && env.kindOf x == some .cell) then .cell else k
  | [] => rfl
  | (n, k) :: r => by
    have ih := @relabel_lookup scope env x r
    rw [List.map_cons]
    show List.lookup x ((if (k == NameKind.free && env.scope.kind == .function && env.kindOf n == some .cell) = true then (n, NameKind.cell) else (n, k)) :: _) = _
    cases hx : x == n with
    | true =>
      have e : x = n := by simpa using hx
      subst e
      by_cases hc : (k == NameKind.free && env.scope.kind == .function && env.kindOf x == some .cell) = true
      · rw [if_pos hc]
        simp only [List.lookup_cons, beq_self_eq_true, Option.map_some, hc, if_true]
      · rw [if_neg hc]
        simp only [List.lookup_cons, beq_self_eq_true, Option.map_some, hc, if_false] <;> rfl
    | false =>
      by_cases hc : (k == NameKind.free && env.scope.kind == .function && env.kindOf n == some .cell) = true
      · rw [if_pos hc]
        simp only [List.lookup_cons, hx]
        exact ih
      · rw [if_neg hc]
        simp only [List.lookup_cons, hx]
        exact ih
theorem mem_capt {sc : Scope} {x : Str} (h : (x, NameKind.free) ∈ sc.names) : x ∈ capt sc := List.mem_map.mpr ⟨(x, .free), List.mem_filter.mpr ⟨h, by simp⟩, rfl⟩
theorem of_capt {sc : Scope} {x : Str} (h : x ∈ capt sc) : (x, NameKind.free) ∈ sc.names := by
  obtain ⟨⟨n, k⟩, h1, h2⟩ := List.mem_map.mp h
  obtain ⟨h3, h4⟩ := List.mem_filter.mp h1
  have h4 : k = NameKind.free := by simpa using h4
  subst h4
  have h2 : n = x := h2
  subst h2
  exact h3
section
variable {X : Cx} {scope : Scope} {ts : List Str} {C : Addr}
theorem blk_cell (B : BlkOk X.env.scope scope ts X.N) (has : ∀ x, (X.env.kindOf x = some .cell ∨ X.env.kindOf x = some .free) → ∃ c, X.env.cells.lookup x = some c) {x : Str} {c : Addr} (h : (blkEnv scope X.env C).cells.lookup x = some c) :
    (scope.names.lookup x = some .cell ∧ @LE.le Nat _ (C + 1) c) ∨ (x ∈ capt scope ∧ X.env.cells.lookup x = some c) := by
  have h : (cellsFrom (C + 1) scope.names (clOf X.env.cells scope.names [])).lookup x = some c := h
  rw [cellsFrom_app, List.lookup_append] at h
  cases e : (cellsFrom (C + 1) scope.names []).lookup x with
  | some c' =>
    rw [e] at h
    have e2 : c' = c := by simpa using h
    subst e2
    obtain ⟨h1, h2⟩ := cellsFrom_mem _ _ (PySem.mem_of_lookup e)
    exact .inl ⟨B.cel _ h1 rfl, h2⟩
  | none =>
    rw [e] at h
    have h : (clOf X.env.cells scope.names []).lookup x = some c := by simpa using h
    obtain ⟨h1, h2⟩ := clOf_mem _ _ (PySem.mem_of_lookup h)
    have hx := mem_capt h1
    obtain ⟨c', hc'⟩ := has x (B.out x hx)
    rw [hc'] at h2
    have h2 : c = c' := h2
    subst h2
    exact .inr ⟨hx, hc'⟩
theorem blk_capt (B : BlkOk X.env.scope scope ts X.N) {x : Str} {c : Addr} (hx : x ∈ capt scope) (hc : X.env.cells.lookup x = some c) (has : ∀ x, (X.env.kindOf x = some .cell ∨ X.env.kindOf x = some .free) → ∃ c, X.env.cells.lookup x = some c) : (blkEnv scope X.env C).cells.lookup x = some c := by
  have hs := clOf_has X.env.cells scope.names (of_capt hx)
  obtain ⟨c', e⟩ := Option.isSome_iff_exists.mp hs
  have hl : ∃ d, (blkEnv scope X.env C).cells.lookup x = some d := by
    show ∃ d, (cellsFrom (C + 1) scope.names (clOf X.env.cells scope.names [])).lookup x = some d
    rw [cellsFrom_app, List.lookup_append, e]
    cases (cellsFrom (C + 1) scope.names []).lookup x with
    | none => exact ⟨c', rfl⟩
    | some d => exact ⟨d, rfl⟩
  obtain ⟨d, hd⟩ := hl
  rcases blk_cell B has hd with ⟨h1, _⟩ | ⟨_, h2⟩
  · rw [B.fre x hx] at h1; cases h1
  · rw [hc] at h2; cases h2; exact hd
theorem blk_kind (B : BlkOk X.env.scope scope ts X.N) {x : Str} (hx : x ∈ capt scope) : (blkEnv scope X.env C).kindOf x = some .cell ∨ (blkEnv scope X.env C).kindOf x = some .free := by
  show (relabel scope X.env).names.lookup x = some .cell ∨ (relabel scope X.env).names.lookup x = some .free
  have e : (relabel scope X.env).names.lookup x = (scope.names.lookup x).map fun k => if (k == NameKind.free && X.env.scope.kind == .function && X.env.kindOf x == some .cell) then .cell else k := relabel_lookup (scope := scope)
  rw [e, B.fre x hx]
  simp only [Option.map_some]
  split
  · exact .inl rfl
  · exact .inr rfl
end
end Pu
namespace Pu
open PySem PySem.Spec L2
open PyProof.Rows hiding St
def noE {α : Type} : R α → R α
  | .err _ => .bad
  | .ok a => .ok a
  | .bad => .bad
@[simp] theorem noE_ok {α : Type} (a : α) : noE (R.ok a) = .ok a := rfl
def mapO (k : D → R (Option D)) : List D → R (List D)
  | [] => .ok []
  | x :: xs => (noE (k x)).bind fun o => (mapO k xs).bind fun ds => .ok (o.toList ++ ds)
def eltV (gt : D → Rho → R Rho) (ft : Rho → R Bool) (fe : Rho → R D) (ρ : Rho) (x : D) : R (Option D) :=
  (gt x ρ).bind fun ρ1 => (ft ρ1).bind fun b => if b = true then (fe ρ1).bind fun d => .ok (some d) else .ok none
def vOnly : Option Ent → Option Ent
  | some (.val d) => some (.val d)
  | _ => none
def pullN (n : Nat) (caps : List Nat) (ρ : Rho) : Rho := List.replicate n none ++ caps.map fun k => ((ρ.map vOnly)[k]?).join
def compV (n : Nat) (caps : List Nat) (fi : Rho → R (List D)) (gt : D → Rho → R Rho) (ft : Rho → R Bool) (fe : Rho → R D) : Rho → R D :=
  fun ρ => (fi ρ).bind fun xs => (mapO (eltV gt ft fe (pullN n caps ρ)) xs).bind (cap .lst)
def KeepsG (n : Nat) (gt : D → Rho → R Rho) : Prop := ∀ d ρ ρ', gt d ρ = .ok ρ' → ∀ i, n ≤ i → ρ'[i]? = ρ[i]?
theorem keeps_set {n i : Nat} (h : i < n) : KeepsG n (setV i) := fun d ρ ρ' e j hj => by
  cases e
  rw [List.getElem?_set_ne (by omega)]
def DTs (Y : Cx) (ifs : List Expr) (ft : Rho → R Bool) : Prop := ∀ (pins : List (Addr × Obj)) (s : Shared) (σ : St) (H : Hp) (Q : Bool → Hp → Prop), Inv Y pins σ H s → tG Y rB ft σ H Q →
  wpAny (model Y.prog Y.w) Y.A (forIn ifs true fun c r => if r = true then do let ok ← isTrue c Y.env (eval c Y.env); pure (ForInStep.yield ok) else pure (ForInStep.yield r)) (TP Y pins σ Q) Y.xe s
theorem dts_nil {Y : Cx} : DTs Y [] (fun _ => .ok true) := fun pins s σ H Q I h => by
  obtain ⟨ρ, O, j, h⟩ := h
  exact wpAny_tests_nil ⟨H, I, fin h rfl⟩
theorem dts_one {Y : Cx} {c : Expr} {p : Rho → R Bool} (hc : DT Y c p) : DTs Y [c] p := fun pins s σ H Q I h => wpAny_tests_one (hc pins s σ H Q I h)
theorem mapO_cons {k : D → R (Option D)} {x : D} {xs : List D} {all : List D} (h : mapO k (x :: xs) = .ok all) : ∃ o rest, k x = .ok o ∧ mapO k xs = .ok rest ∧ all = o.toList ++ rest := by
  have h : (noE (k x)).bind (fun o => (mapO k xs).bind fun ds => .ok (o.toList ++ ds)) = .ok all := h
  cases e : k x with
  | bad => rw [e] at h; cases h
  | err c => rw [e] at h; cases h
  | ok o =>
    rw [e] at h
    cases e2 : mapO k xs with
    | bad => rw [e2] at h; cases h
    | err c => rw [e2] at h; cases h
    | ok rest =>
      rw [e2] at h
      cases h
      exact ⟨o, rest, rfl, rfl, rfl⟩
theorem mapO_noerr {k : D → R (Option D)} : ∀ {xs : List D} {c : Str}, mapO k xs ≠ .err c
  | [], c => fun h => by cases h
  | x :: xs, c => fun h => by
    have h : (noE (k x)).bind (fun o => (mapO k xs).bind fun ds => .ok (o.toList ++ ds)) = .err c := h
    cases e : k x with
    | bad => rw [e] at h; cases h
    | err c => rw [e] at h; cases h
    | ok o =>
      rw [e] at h
      cases e2 : mapO k xs with
      | bad => rw [e2] at h; cases h
      | err c' => exact mapO_noerr e2
      | ok rest => rw [e2] at h; cases h
section
variable {X : Cx}
theorem vOnly_some {o : Option Ent} {e : Ent} (h : vOnly o = some e) : o = some e ∧ e.isV = true := by
  cases o with
  | none => cases h
  | some e' =>
    cases e' with
    | val d => cases h; exact ⟨rfl, rfl⟩
    | lst _ => cases h
    | dic _ => cases h
    | obj _ => cases h
theorem vals_get {ρ : Rho} {i : Nat} {e : Ent} (h : (ρ.map vOnly)[i]? = some (some e)) : ρ[i]? = some (some e) ∧ e.isV = true := by
  rw [List.getElem?_map] at h
  cases q : ρ[i]? with
  | none => rw [q] at h; cases h
  | some o =>
    rw [q] at h
    obtain ⟨h1, h2⟩ := vOnly_some (Option.some.inj h)
    rw [h1]; exact ⟨rfl, h2⟩
theorem In.vals {O : Addr → Prop} {H : Hp} {ρ : Rho} {σ : St} (j : In X O H ρ σ) : In X O H (ρ.map vOnly) σ :=
  ⟨⟨fun i e h => j.env.get i e (vals_get h).1, fun i k e e' v hik hi hk => j.env.sep i k e e' v hik (vals_get hi).1 (vals_get hk).1⟩, j.al, j.len, by rw [List.length_map]; exact j.lenR⟩
theorem pull_pullN {N caps : List Str} {ks : List Nat} {n : Nat} {ρ : Rho} (h : caps.map (fun x => ixOf x N) = ks) : pull N caps n (ρ.map vOnly) = pullN n ks ρ := by
  unfold pull pullN
  rw [← h, List.map_map]
  rfl
theorem blk_inv {scope : Scope} {ts : List Str} {pins : List (Addr × Obj)} {σ : St} {H : Hp} {s : Shared} {fp : List Addr} (I : Inv X pins σ H s) (B : BlkOk X.env.scope scope ts X.N)
    (hf : ∀ b ∈ fp, FpOk X pins H b) (ho : ∀ b ∈ fp, b < s.heap.objs.size) {h4 : Heap} {C : Nat} (hC : C = s.heap.objs.size + 1)
    (e4 : h4 = pushCells ((s.heap.push { cls := .type "list", dict := none, data := .seq ([] : List Value).toArray }).push { cls := .type "dict", data := .dict #[] }) scope.names) :
    Inv (blkCx X scope ts C s H fp) [] (pull X.N (capt scope) ts.length σ) (upd H s.heap.objs.size (.lst [])) { s with heap := h4 } := by
  have hD : H s.heap.objs.size = none := I.hok.fresh (Nat.le_refl _)
  have keep3 : ∀ b o, (s.heap.push { cls := .type "list", dict := none, data := .seq ([] : List Value).toArray }).get? b = some o → h4.get? b = some o := fun b o e => by
    rw [e4]; exact pushCells_keeps _ _ b o (Heap.get?_push_of_some _ e)
  have keep : ∀ b o, s.heap.get? b = some o → h4.get? b = some o := fun b o e => keep3 b o (Heap.get?_push_of_some _ e)
  have sz3 : (s.heap.push { cls := .type "list", dict := none, data := .seq ([] : List Value).toArray }).objs.size = s.heap.objs.size + 1 := Heap.size_push ..
  have hns : h4.Ns C fun _ => none := by
    rw [e4, hC, ← sz3]
    exact (Heap.Ns.new _ (.type "dict")).keeps (pushCells_keeps _ _)
  have ok := cellsFrom_ok scope.names ((s.heap.push { cls := .type "list", dict := none, data := .seq ([] : List Value).toArray }).push { cls := .type "dict", data := .dict #[] }) (C + 1) [] ⟨fun _ _ hm => (nomatch hm), List.Pairwise.nil⟩ (by rw [Heap.size_push, sz3, hC]; exact Nat.le_refl _)
  rw [Heap.size_push, sz3, ← hC, ← e4] at ok
  have newcell : ∀ x c, (blkEnv scope X.env C).cells.lookup x = some c → scope.names.lookup x = some .cell → h4.IsCell c none := fun x c h hk => by
    have h : (cellsFrom (C + 1) scope.names (clOf X.env.cells scope.names [])).lookup x = some c := h
    rw [cellsFrom_app, List.lookup_append] at h
    cases e : (cellsFrom (C + 1) scope.names []).lookup x with
    | some c' =>
      rw [e] at h
      have e2 : c' = c := by simpa using h
      subst e2
      exact (ok.empty x c' (PySem.mem_of_lookup e)).1
    | none =>
      rw [e] at h
      have h : (clOf X.env.cells scope.names []).lookup x = some c := by simpa using h
      have := B.fre x (mem_capt (clOf_mem _ _ (PySem.mem_of_lookup h)).1)
      rw [hk] at this; cases this
  have oldlt : ∀ x (c : Nat), X.env.cells.lookup x = some c → c < s.heap.objs.size := fun x c e => by
    obtain ⟨v, q⟩ := I.cell x c e
    exact q.lt
  have iscell : ∀ x c, (blkEnv scope X.env C).cells.lookup x = some c → ∃ v, h4.IsCell c v := fun x c h => by
    rcases blk_cell B I.ok.has h with ⟨h1, _⟩ | ⟨_, h2⟩
    · exact ⟨_, newcell x c h h1⟩
    · obtain ⟨v, q⟩ := I.cell x c h2
      exact ⟨v, q.keeps keep⟩
  refine ⟨⟨I.ok.mod, B.kind, I.ok.glob, I.ok.blt, by show @LE.le Nat _ s.heap.objs.size C; omega, ?inj, ?has, ?cab, I.ok.hd, I.ok.frames, .inl rfl, ?exf, I.bs, Nat.le_trans I.ok.bsz I.sz, ?noex, ?exfs, I.stack, I.stkFree⟩,
    rfl, I.bare, Un.laid keep (Nat.le_refl _) hD, ⟨_, hns, ?loc⟩, iscell, ?free, ?freeC, fun p hp => absurd (show p ∈ ([] : List (Addr × Obj)) from hp) (by simp), I.hok.laid keep (Nat.le_refl _) ?new, ?len⟩
  case inj =>
    intro x y c h1 h2
    have h1 : (blkEnv scope X.env C).cells.lookup x = some c := h1
    have h2 : (blkEnv scope X.env C).cells.lookup y = some c := h2
    rcases blk_cell B I.ok.has h1 with ⟨a1, a2⟩ | ⟨a1, a2⟩ <;> rcases blk_cell B I.ok.has h2 with ⟨b1, b2⟩ | ⟨b1, b2⟩
    · -- both its own
      have look : ∀ z, (blkEnv scope X.env C).cells.lookup z = some c → scope.names.lookup z = some .cell → (z, c) ∈ cellsFrom (C + 1) scope.names [] := fun z h hk => by
        have h : (cellsFrom (C + 1) scope.names (clOf X.env.cells scope.names [])).lookup z = some c := h
        rw [cellsFrom_app, List.lookup_append] at h
        cases e : (cellsFrom (C + 1) scope.names []).lookup z with
        | some c' =>
          rw [e] at h
          have e2 : c' = c := by simpa using h
          subst e2
          exact PySem.mem_of_lookup e
        | none =>
          rw [e] at h
          have h : (clOf X.env.cells scope.names []).lookup z = some c := by simpa using h
          have := B.fre z (mem_capt (clOf_mem _ _ (PySem.mem_of_lookup h)).1)
          rw [hk] at this; cases this
      exact name_of_addr ok.apart (look x h1 a1) (look y h2 b1)
    · have := oldlt y c b2; omega
    · have := oldlt x c a2; omega
    · exact I.ok.inj x y c a2 b2
  case has =>
    intro x hx
    have hx : (relabel scope X.env).names.lookup x = some .cell ∨ (relabel scope X.env).names.lookup x = some .free := hx
    have hx : (scope.names.map fun (n, k) => if (k == NameKind.free && X.env.scope.kind == .function && X.env.kindOf n == some .cell) then (n, NameKind.cell) else (n, k)).lookup x = some .cell ∨ (scope.names.map fun (n, k) => if (k == NameKind.free && X.env.scope.kind == .function && X.env.kindOf n == some .cell) then (n, NameKind.cell) else (n, k)).lookup x = some .free := hx
    rw [relabel_lookup (scope := scope)] at hx
    cases e : scope.names.lookup x with
    | none => rw [e] at hx; rcases hx with z | z <;> cases z
    | some k =>
      rw [e] at hx
      by_cases hk : k = .free
      · subst hk
        have hm := mem_capt (PySem.mem_of_lookup e)
        obtain ⟨c, hc⟩ := I.ok.has x (B.out x hm)
        exact ⟨c, blk_capt B hm hc I.ok.has⟩
      · have hk' : (k == NameKind.free) = false := by simpa using hk
        simp only [Option.map_some, hk', Bool.false_and, Bool.false_eq_true, if_false] at hx
        have hc : k = .cell := by
          rcases hx with z | z
          · exact Option.some.inj z
          · exact absurd (Option.some.inj z) hk
        subst hc
        have q := PySem.W.cellsFrom_some scope.names (C + 1) (clOf X.env.cells scope.names []) (.inl e)
        exact Option.isSome_iff_exists.mp q
  case cab =>
    intro x c hfn h
    have h : (blkEnv scope X.env C).cells.lookup x = some c := h
    have hfn : scope.names.lookup x = some .cell := of_decide_eq_true hfn
    rcases blk_cell B I.ok.has h with ⟨_, a2⟩ | ⟨a1, _⟩
    · show @LE.le Nat _ s.heap.objs.size c; omega
    · rw [B.fre x a1] at hfn; cases hfn
  case exf =>
    intro b hb
    have hb : b ∈ fp := hb
    have hl : @LT.lt Nat _ b s.heap.objs.size := ho b hb
    refine ⟨by show @Ne Nat b C; omega, fun x c h => ?_⟩
    rcases blk_cell B I.ok.has h with ⟨_, a2⟩ | ⟨_, a2⟩
    · show @Ne Nat c b; omega
    · exact (hf b hb).2.2.2.2.1 x c a2
  case noex =>
    intro b o e hb
    have hb : b ∈ fp := hb
    rcases (hf b hb).2.2.2.1 with z | z
    · exact I.ok.noex b o e z
    · exact absurd (Nat.lt_of_lt_of_le (Heap.lt_size e) (Nat.le_trans I.ok.bsz z)) (Nat.lt_irrefl _)
  case exfs =>
    intro b hb hz
    have hb : b ∈ fp := hb
    have hz : b ∈ frs X.stack := hz
    rcases List.mem_cons.mp (I.stkSub b hz) with z | z
    · exact (hf b hb).2.1 z
    · exact (hf b hb).2.2.1 z
  case loc =>
    intro i x v h1 h2 h3
    have h1 : (ts ++ capt scope)[i]? = some x := h1
    obtain ⟨k, y, e1, e2, e3⟩ := pull_get h2
    have hy : x = y := by
      rw [e1, List.getElem?_append_right (by omega), show ts.length + k - ts.length = k by omega, e2] at h1
      exact (Option.some.inj h1).symm
    subst hy
    have hm : x ∈ capt scope := List.mem_of_getElem? e2
    obtain ⟨m, _, hl⟩ := I.loc
    have vis : Vis X.env.scope x := by
      rcases B.out x hm with z | z
      · exact .inr (.inl z)
      · exact .inr (.inr z)
    obtain ⟨u, ru, lk⟩ := hl (ixOf x X.N) x v (ixOf_get (B.mem x hm)) e3 vis
    refine ⟨u, ru, .inr ⟨blk_kind B hm, ?_⟩⟩
    rcases lk with ⟨z, _⟩ | ⟨_, c, hc, q⟩
    · have z : X.env.scope.names.lookup x = some .local := z
      rcases B.out x hm with z' | z' <;> rw [z] at z' <;> cases z'
    · exact ⟨c, blk_capt B hm hc I.ok.has, q.keeps keep⟩
  case free =>
    show upd H s.heap.objs.size (.lst []) C = none
    rw [upd_ne (show @Ne Nat C s.heap.objs.size by omega)]
    exact I.hok.fresh (show @LE.le Nat _ s.heap.objs.size C by omega)
  case freeC =>
    intro x c h
    rcases blk_cell B I.ok.has h with ⟨_, a2⟩ | ⟨_, a2⟩
    · rw [upd_ne (show @Ne Nat c s.heap.objs.size by omega)]
      exact I.hok.fresh (show @LE.le Nat _ s.heap.objs.size c by omega)
    · have := oldlt x c a2
      rw [upd_ne (show @Ne Nat c s.heap.objs.size by omega)]
      exact I.freeC x c a2
  case new =>
    exact ⟨Nat.zero_le _, [], 0, .nil, keep3 _ _ (Heap.get?_push_size _ rfl)⟩
  case len =>
    show (pull X.N (capt scope) ts.length σ).length = (ts ++ capt scope).length
    rw [pull_len, List.length_append]
theorem blk_in {scope : Scope} {ts : List Str} {σ : St} {ρ : Rho} {H : Hp} {s : Shared} {fp : List Addr} {O : Addr → Prop} {C : Addr} (B : BlkOk X.env.scope scope ts X.N) (j : In X O H ρ σ) : In (blkCx X scope ts C s H fp) O H (pull X.N (capt scope) ts.length ρ) (pull X.N (capt scope) ts.length σ) := by
  refine ⟨⟨fun i e h => ?_, fun i k e e' v hik hi hk oi ok si sk => ?_⟩, j.al, ?_, ?_⟩
  · obtain ⟨m, x, rfl, e1, e2⟩ := pull_get h
    obtain ⟨v, e3, r⟩ := j.env.get _ e e2
    exact ⟨v, by rw [pull_at e1, e3]; rfl, r⟩
  · obtain ⟨m, x, rfl, e1, e2⟩ := pull_get hi
    obtain ⟨m', x', rfl, e1', e2'⟩ := pull_get hk
    have hx : x ≠ x' := fun z => by
      subst z
      have nd := (List.nodup_append.mp B.nd).2.1
      exact hik (by rw [nodup_ix nd e1 e1'])
    have hm := B.mem x (List.mem_of_getElem? e1)
    have hm' := B.mem x' (List.mem_of_getElem? e1')
    have hne : ixOf x X.N ≠ ixOf x' X.N := fun z => by
      have q1 := ixOf_get hm
      have q2 := ixOf_get hm'
      rw [z, q2] at q1
      exact hx (Option.some.inj q1).symm
    rw [pull_at e1] at si
    rw [pull_at e1'] at sk
    exact j.env.sep _ _ e e' v hne e2 e2' oi ok (join_some (Option.some.inj si)) (join_some (Option.some.inj sk))
  · show (pull X.N (capt scope) ts.length σ).length = (ts ++ capt scope).length
    rw [pull_len, List.length_append]
  · show (pull X.N (capt scope) ts.length ρ).length = (ts ++ capt scope).length
    rw [pull_len, List.length_append]
end
end Pu
namespace Pu
open PySem PySem.Spec L2
open PyProof.Rows hiding St
theorem sizeLine_gt : 1000000 < sizeLine := by rw [sizeLine_eq]; decide
section
variable {X : Cx}
theorem In.back {Y : Cx} {O : Addr → Prop} {H : Hp} {ρ ρ1 : Rho} {σ : St} {n : Nat} (j : In Y O H ρ1 σ) (h0 : ∀ i, i < n → ρ[i]? = some none) (h1 : ∀ i, n ≤ i → ρ1[i]? = ρ[i]?) (hl : ρ.length = Y.N.length) : In Y O H ρ σ := by
  have sub : ∀ (i : Nat) e, ρ[i]? = some (some e) → ρ1[i]? = some (some e) := fun i e h => by
    by_cases hi : i < n
    · rw [h0 i hi] at h; cases h
    · rw [h1 i (by omega)]; exact h
  exact ⟨⟨fun i e h => j.env.get i e (sub i e h), fun i k e e' v hik hi hk => j.env.sep i k e e' v hik (sub i e hi) (sub k e' hk)⟩, j.al, j.len, hl⟩
theorem pull_none {α : Type} {N caps : List Str} {n : Nat} {l : List (Option α)} {i : Nat} (h : i < n) : (pull N caps n l)[i]? = some none := by
  unfold pull
  rw [List.getElem?_append_left (by simpa using h), List.getElem?_replicate, if_pos h]
theorem In.go {Y : Cx} {O O' : Addr → Prop} {H H' : Hp} {ρ : Rho} {σ : St} (j : In Y O H ρ σ) (hv : ∀ (i : Nat) e, ρ[i]? = some (some e) → e.isV = true) (r : Rch Y.K O H O' H') (al : ∀ a, O' a → ∃ o, H' a = some o) : In Y O' H' ρ σ := by
  refine ⟨⟨fun i e h => ?_, fun i k e e' v _ hi _ oi => ?_⟩, al, j.len, j.lenR⟩
  · obtain ⟨v, h1, h2⟩ := j.env.get i e h
    refine ⟨v, h1, ?_⟩
    cases e with
    | val d => exact Rep.go r h2
    | lst _ => cases hv i _ h
    | dic _ => cases hv i _ h
    | obj _ => cases hv i _ h
  · rw [isV_own (hv i e hi)] at oi; cases oi
theorem pull_vals {N caps : List Str} {n : Nat} {ρ : Rho} : ∀ (i : Nat) e, (pull N caps n (ρ.map vOnly))[i]? = some (some e) → e.isV = true := fun i e h => by
  obtain ⟨_, _, _, _, q⟩ := pull_get h
  exact (vals_get q).2
theorem de_comp {tg iter elt : Expr} {ifs : List Expr} {scope : Scope} {pos : Pos} {fi : Rho → R (List D)} {gt : D → Rho → R Rho} {ft : Rho → R Bool} {fe : Rho → R D} (ts : List Str) (caps : List Nat)
    (hc : X.calm = true) (hb : blkB X.env.scope scope ts X.N = true) (hcap : (capt scope).map (fun x => ixOf x X.N) = caps)
    (hi : DI X tg iter fi) (hk : KeepsG ts.length gt) (hg : ∀ C s H ex, (blkCx X scope ts C s H ex).N.Nodup → DG (blkCx X scope ts C s H ex) tg gt) (ht : ∀ C s H ex, DTs (blkCx X scope ts C s H ex) ifs ft) (he : ∀ C s H ex, DE (blkCx X scope ts C s H ex) elt fe)
    (hs : ∀ x, foldedSetIterable iter X.env x = pure x := by intro _; rfl) :
    DE X (.ListComp elt [⟨tg, iter, ifs, 0⟩] scope pos) (compV ts.length caps fi gt ft fe) := by
  intro pins s σ H Q I h
  obtain ⟨ρ, O, j, h⟩ := h
  have B := blkOk hb
  rw [eval_ListComp]
  refine wpAny_comprehension_free (cl := clOf X.env.cells scope.names []) (use := none) rfl hs (closure_of fun x hx e => ?_) B.kind B.loc ?_
  · obtain ⟨n, k⟩ := x
    have e : k = .free := e
    subst e
    exact I.ok.has n (B.out n (mem_capt hx))
  refine thn (hi pins s σ H (fun J H1 => ∃ xs, YR X.K O H1 J xs ∧ In X O H1 ρ σ ∧ good X (rD X) O ((mapO (eltV gt ft fe (pullN ts.length caps ρ)) xs).bind (cap .lst)) σ H1 Q) I (Pu.go j h fun xs J H1 e1 s1 y1 j1 h1 => ⟨xs, y1, j1, h1⟩)) fun xv s1 h1 => thn h1 fun itv s2 h2 => ?_
  obtain ⟨it, fp, tn, J, H2, e, I2, T, st2, f2, xs, yr, j2, g2⟩ := h2
  subst e
  rw [← pull_pullN hcap] at g2
  generalize eρ : pull X.N (capt scope) ts.length (ρ.map vOnly) = ρ0 at g2
  obtain ⟨all, hall, hlen, g3⟩ : ∃ all, mapO (eltV gt ft fe ρ0) xs = .ok all ∧ all.length ≤ 1000000 ∧ good X (rD X) O (.ok (.lst all)) σ H2 Q := by
    cases e : mapO (eltV gt ft fe ρ0) xs with
    | bad => rw [e] at g2; exact g2.elim
    | err c => exact absurd e mapO_noerr
    | ok all =>
      rw [e] at g2
      have g2 : good X (rD X) O (if all.length ≤ 1000000 then .ok (.lst all) else .bad) σ H2 Q := g2
      by_cases hl : all.length ≤ 1000000
      · rw [if_pos hl] at g2; exact ⟨all, rfl, hl, g2⟩
      · rw [if_neg hl] at g2; exact g2.elim
  have hlt : ∀ b ∈ fp, b < s2.heap.objs.size := fun b hb => by
    obtain ⟨o, e, _⟩ := T.obj 0 _ st2 b hb
    exact Heap.lt_size e
  refine wpAny_newObj_type (new_block ?_)
  generalize hC : (s2.heap.push { cls := .type "list", dict := none, data := .seq ([] : List Value).toArray }).objs.size = C
  have hC' : C = s2.heap.objs.size + 1 := by rw [← hC]; exact Heap.size_push ..
  generalize e4 : pushCells ((s2.heap.push { cls := .type "list", dict := none, data := .seq ([] : List Value).toArray }).push { cls := .type "dict", data := .dict #[] }) scope.names = h4
  show codeAny (model X.prog X.w) X.A (.compStart (.ListComp elt [⟨tg, iter, ifs, 0⟩] scope pos) 0 (.ref it) (.ref s2.heap.objs.size) (blkEnv scope X.env C)) (compPost (model X.prog X.w) X.A X.xe none (EP X pins σ Q) (.ref s2.heap.objs.size) C) { s2 with heap := h4 }
  have hDn : H2 s2.heap.objs.size = none := I2.hok.fresh (Nat.le_refl _)
  have hOn : ¬ O s2.heap.objs.size := j2.notO hDn
  have hDk : X.K.lookup s2.heap.objs.size = none := by
    cases q : X.K.lookup s2.heap.objs.size with
    | none => rfl
    | some o => exact absurd (Heap.lt_size (I2.kIn _ _ q)) (Nat.lt_irrefl _)
  have I4 := blk_inv (ts := ts) I2 B f2 hlt hC' e4.symm
  have sD : Same H2 (upd H2 s2.heap.objs.size (.lst [])) := Same.upd hDn
  have lρ0 : ρ0.length = (ts ++ capt scope).length := by rw [← eρ, pull_len, List.length_append]
  generalize eD : s2.heap.objs.size = Dd at *
  have rchO : ∀ {H' : Hp}, Same H2 H' → Rch X.K O H2 (fun a => O a ∨ a = Dd) H' := fun sm => ⟨(Same.rch (K := X.K) (O := O) sm).ext, fun a z => z.elim .inl fun e => .inr (by rw [e]; exact ⟨hDn, hDk⟩), (Same.rch (K := X.K) (O := O) sm).dom⟩
  have alO : ∀ {H' : Hp} {ys : List V}, Same H2 H' → H' Dd = some (.lst ys) → ∀ a, (O a ∨ a = Dd) → ∃ o, H' a = some o := fun sm e a z => z.elim (fun q => let ⟨o, h⟩ := j2.al a q; ⟨o, sm _ _ h⟩) fun q => by rw [q]; exact ⟨_, e⟩
  have j4 : In (blkCx X scope ts C s2 H2 fp) (fun a => O a ∨ a = Dd) (upd H2 Dd (.lst [])) ρ0 (pull X.N (capt scope) ts.length σ) := by
    rw [← eρ]
    exact In.go (blk_in B j2.vals) pull_vals (rchO sD) (alO sD upd_same)
  have hv0 : ∀ (i : Nat) e, ρ0[i]? = some (some e) → e.isV = true := by rw [← eρ]; exact pull_vals
  have hn0 : ∀ i, i < ts.length → ρ0[i]? = some none := by rw [← eρ]; exact fun i h => pull_none h
  have keep4 : ∀ b o, s2.heap.get? b = some o → h4.get? b = some o := fun b o e => by
    rw [← e4]; exact pushCells_keeps _ _ b o (Heap.get?_push_of_some _ (Heap.get?_push_of_some _ e))
  have st4 : tn 0 h4 := T.keep _ _ _ st2 fun b _ o e => keep4 b o e
  have stat : ∀ {H' : Hp}, (∀ b ∈ fp, H' b = none) → ∀ b ∈ fp, FpOk (blkCx X scope ts C s2 H2 fp) [] H' b := fun {H'} hn b hb => by
    have hl : @LT.lt Nat _ b Dd := hlt b hb
    obtain ⟨_, a1, a2, a3, a4, _⟩ := f2 b hb
    refine ⟨hn b hb, by show @Ne Nat b C; omega, fun z => ?_, .inl hb, fun x c h => ?_, fun p hp => absurd (show p ∈ ([] : List (Addr × Obj)) from hp) (by simp)⟩
    · rcases List.mem_cons.mp (I2.stkSub b z) with z | z
      · exact a1 z
      · exact a2 z
    · rcases blk_cell B I2.ok.has h with ⟨_, q⟩ | ⟨_, q⟩
      · show @Ne Nat c b; omega
      · exact a4 x c q
  have fr4 : ∀ b ∈ fp, (upd H2 Dd (.lst [])) b = none := fun b hb => by
    have hl : @LT.lt Nat _ b Dd := hlt b hb
    rw [upd_ne (show @Ne Nat b Dd by omega)]; exact (f2 b hb).1
  have loop : ∀ s0 : Shared, s0 = { s2 with heap := h4 } → codeAny (model X.prog X.w) X.A (.compLoop (.ListComp elt [⟨tg, iter, ifs, 0⟩] scope pos) 0 (.ref it) (.ref Dd) (blkEnv scope X.env C)) (compPost (model X.prog X.w) X.A X.xe none (EP X pins σ Q) (.ref Dd) C) s0 := by
    intro s0 e0
    refine codeAny_loop rfl (fun n s' => ∃ i σ' H' ys ds rest, n = xs.length + 1 - i ∧ i ≤ xs.length ∧ Inv (blkCx X scope ts C s2 H2 fp) [] σ' H' s' ∧ tn i s'.heap ∧ (∀ b ∈ fp, H' b = none) ∧
      In (blkCx X scope ts C s2 H2 fp) (fun a => O a ∨ a = Dd) H' ρ0 σ' ∧ Same H2 H' ∧ H' Dd = some (.lst ys) ∧ Reps X.K (fun a => O a ∨ a = Dd) H' ds ys ∧ mapO (eltV gt ft fe ρ0) (xs.drop i) = .ok rest ∧ ds ++ rest = all) (fun n s' hI => ?_) (xs.length + 1)
      ⟨0, _, _, [], [], all, rfl, Nat.zero_le _, e0 ▸ I4, e0 ▸ st4, fr4, j4, sD, upd_same, .nil, by simpa using hall, rfl⟩
    obtain ⟨i, σ', H', ys, ds, rest, rfl, hil, I', st', fr', j', sm', hD', rp', hm', hr'⟩ := hI
    show wpAny (model X.prog X.w) X.A ((compTurn (.ListComp elt [⟨tg, iter, ifs, 0⟩] scope pos) 0 (.ref it) (.ref Dd) (blkEnv scope X.env C)).onRaise (fun x => do noteFrame x (blkEnv scope X.env C); theTreesLotGoes x)) _ _ s'
    refine wpAny_noted ?_
    rw [compTurn_list]
    have yat := yr _ H' (rchO sm') i
    refine wpAny_bind (wpAny_standAt (wpAny_bind ?_))
    by_cases hlt' : i < xs.length
    · -- a turn
      have ex : xs[i]? = some xs[i] := by simp [hlt']
      have ed : xs.drop i = xs[i] :: xs.drop (i + 1) := List.drop_eq_getElem_cons hlt'
      rw [ed] at hm'
      obtain ⟨o, rest', k1, k2, k3⟩ := mapO_cons hm'
      obtain ⟨jgo, jy⟩ := yat.1 _ ex
      refine wpAny_mono (T.item (blkCx X scope ts C s2 H2 fp) rfl rfl rfl hc i [] s' σ' H' (fun _ _ => False) I' (stat fr') st' jgo) (fun r s4 ⟨u, hr, h4'⟩ => ?_) fun _ _ z => z.elim
      subst hr
      refine wpAny_bind (wpAny_mono h4' (fun _ s5 ⟨x, H5, I5, r5, y5, st5, fr5⟩ => ?_) fun _ _ z => z.elim)
      obtain ⟨sm5, rep5⟩ := jy x H5 y5
      have I5' := I5.pinned (stat fr5) (T.obj _ _ st5)
      have k1 : (gt xs[i] ρ0).bind (fun ρ1 => (ft ρ1).bind fun b => if b = true then (fe ρ1).bind fun d => .ok (some d) else .ok none) = .ok o := k1
      cases q1 : gt xs[i] ρ0 with
      | bad => rw [q1] at k1; cases k1
      | err c => rw [q1] at k1; cases k1
      | ok ρ1 =>
        rw [q1] at k1
        have k1 : (ft ρ1).bind (fun b => if b = true then (fe ρ1).bind fun d => .ok (some d) else .ok none) = .ok o := k1
        refine wpAny_bind (wpAny_mono (hg C s2 H2 fp B.nd _ s5 σ' H5 x u (fun σ6 H6 => H6 = H5 ∧ In (blkCx X scope ts C s2 H2 fp) (fun a => O a ∨ a = Dd) H5 ρ1 σ6) I5' r5 ⟨ρ0, _, xs[i], ρ1, j'.same sm5, rep5, q1, fun σ6 j6 => ⟨rfl, j6⟩⟩) (fun _ s6 ⟨σ6, H6, I6, eH, j6⟩ => ?_) fun _ _ z => (show False from z).elim)
        subst eH
        cases q2 : ft ρ1 with
        | bad => rw [q2] at k1; cases k1
        | err c => rw [q2] at k1; cases k1
        | ok bb =>
          rw [q2] at k1
          have k1 : (if bb = true then (fe ρ1).bind fun d => R.ok (some d) else .ok none) = .ok o := k1
          have gtest : tG (blkCx X scope ts C s2 H2 fp) rB ft σ6 H6 (fun b H7 => b = bb ∧ Same H6 H7) := ⟨ρ1, _, j6, by rw [q2]; exact fun b H7 s7 e7 => ⟨e7.symm, s7⟩⟩
          refine wpAny_bind (wpAny_mono (ht C s2 H2 fp _ s6 σ6 H6 _ I6 gtest) (fun ok s7 ⟨H7, I7, ok7, sm7⟩ => ?_) fun _ _ z => (show False from z).elim)
          subst ok7
          have back : ∀ {H8 : Hp} {s8 : Shared} {ys' : List V} {ds' : List D}, Inv (blkCx X scope ts C s2 H2 fp) ([] ++ pinsAt fp s5.heap) σ6 H8 s8 → Same H2 H8 → In (blkCx X scope ts C s2 H2 fp) (fun a => O a ∨ a = Dd) H8 ρ0 σ6 → H8 Dd = some (.lst ys') → Reps X.K (fun a => O a ∨ a = Dd) H8 ds' ys' → ds' ++ rest' = all →
              ∃ m, m < xs.length + 1 - i ∧ ∃ i σ' H' ys ds rest, m = xs.length + 1 - i ∧ i ≤ xs.length ∧ Inv (blkCx X scope ts C s2 H2 fp) [] σ' H' s8 ∧ tn i s8.heap ∧ (∀ b ∈ fp, H' b = none) ∧
                In (blkCx X scope ts C s2 H2 fp) (fun a => O a ∨ a = Dd) H' ρ0 σ' ∧ Same H2 H' ∧ H' Dd = some (.lst ys) ∧ Reps X.K (fun a => O a ∨ a = Dd) H' ds ys ∧ mapO (eltV gt ft fe ρ0) (xs.drop i) = .ok rest ∧ ds ++ rest = all := by
            intro H8 s8 ys' ds' I8 sm8 j8 hD8 rp8 hr8
            refine ⟨xs.length + 1 - (i + 1), by omega, i + 1, σ6, H8, ys', ds', rest', rfl, by omega, I8.unpinned, T.keep _ _ _ st5 fun b hb o e => (I8.pin (b, o) (List.mem_append_right _ (List.mem_append_right _ (mem_pinsAt hb e)))).1, fun b hb => ?_, j8, sm8, hD8, rp8, k2, hr8⟩
            obtain ⟨o, e, d⟩ := T.obj _ _ st5 b hb
            exact (I8.pin (b, o) (List.mem_append_right _ (List.mem_append_right _ (mem_pinsAt hb e)))).2.1
          have j60 : In (blkCx X scope ts C s2 H2 fp) (fun a => O a ∨ a = Dd) H6 ρ0 σ6 := In.back (n := ts.length) j6 hn0 (fun k hk' => hk _ _ _ q1 k hk') lρ0
          cases ok with
          | false =>
            have k1 : R.ok none = R.ok o := k1
            cases k1
            refine wpAny_pure ⟨rfl, ?_⟩
            refine back I7 (sm'.trans (sm5.trans sm7)) (j60.same sm7) (sm7 _ _ (sm5 _ _ hD')) (rp'.same (sm5.trans sm7)) ?_
            rw [← hr', k3]; rfl
          | true =>
            have k1 : (fe ρ1).bind (fun d => R.ok (some d)) = .ok o := k1
            cases q3 : fe ρ1 with
            | bad => rw [q3] at k1; cases k1
            | err c => rw [q3] at k1; cases k1
            | ok d =>
              rw [q3] at k1
              have k1 : R.ok (some d) = R.ok o := k1
              cases k1
              have gelt : tG (blkCx X scope ts C s2 H2 fp) (rD (blkCx X scope ts C s2 H2 fp)) fe σ6 H7 (fun v H8 => Same H7 H8 ∧ Rep X.K (fun a => O a ∨ a = Dd) H8 d v) := ⟨ρ1, _, j6.same sm7, by rw [q3]; exact fun v H8 s8 r8 => ⟨s8, r8⟩⟩
              refine wpAny_bind (wpAny_bind (wpAny_mono (he C s2 H2 fp _ s7 σ6 H7 _ I7 gelt) (fun xv s8 ⟨v8, H8, I8, r8, sm8, rep8⟩ => ?_) fun _ _ z => (show False from z).elim))
              have hD8 : H8 Dd = some (.lst ys) := sm8 _ _ (sm7 _ _ (sm5 _ _ hD'))
              have rp8 : Reps X.K (fun a => O a ∨ a = Dd) H8 ds ys := rp'.same (sm5.trans (sm7.trans sm8))
              have hds : ds ++ d :: rest' = all := by rw [← hr', k3]; rfl
              have hyl : ys.length < sizeLine := by
                have := sizeLine_gt
                have e1 := rp8.length
                have e2 := congrArg List.length hds
                rw [List.length_append, List.length_cons] at e2
                omega
              refine wpAny_bind (wpAny_mono (mt_append (X := blkCx X scope ts C s2 H2 fp) _ s8 σ6 H8 (.ref Dd) [v8] (.ref Dd) [xv] (fun _ H9 => H9 = upd H8 Dd (.lst (ys ++ [v8]))) I8 rfl (.cons r8 .nil) ⟨_, ys, v8, rfl, rfl, hD8, hyl, rfl⟩) (fun _ s9 ⟨_, H9, I9, _, eH9⟩ => ?_) fun _ _ z => (show False from z).elim)
              subst eH9
              have sm8' : Same H2 H8 := sm'.trans (sm5.trans (sm7.trans sm8))
              have rch9 : Rch X.K (fun a => O a ∨ a = Dd) H8 (fun a => O a ∨ a = Dd) (upd H8 Dd (.lst (ys ++ [v8]))) := by
                refine ⟨⟨fun b zs h => ?_, fun b zs n h => ?_⟩, fun a z => .inl z, fun a z => ?_⟩
                · have nb : b ≠ Dd := fun e => by
                    rw [e] at h
                    rcases h with h | ⟨o, h⟩ <;> rw [hD8] at h <;> cases h
                  rcases h with h | ⟨o, h⟩
                  · exact .inl (by rw [upd_ne nb]; exact h)
                  · exact .inr ⟨o, by rw [upd_ne nb]; exact h⟩
                · have nb : b ≠ Dd := fun e => n (.inr e)
                  rcases h with h | ⟨o, h⟩
                  · exact .inl (by rw [upd_ne nb]; exact h)
                  · exact .inr ⟨o, by rw [upd_ne nb]; exact h⟩
                · by_cases ea : a = Dd
                  · rw [ea, upd_same] at z; cases z
                  · rw [upd_ne ea] at z; exact z
              have sm9 : Same H2 (upd H8 Dd (.lst (ys ++ [v8]))) := fun b o e => by
                rw [upd_ne (ne_of_none e hDn)]; exact sm8' _ _ e
              refine wpAny_pure (wpAny_pure ⟨rfl, ?_⟩)
              refine back I9 sm9 (In.go (j60.same (sm7.trans sm8)) hv0 rch9 (alO sm9 upd_same)) upd_same ((rp8.append (.cons rep8 .nil)).go rch9) ?_
              rw [List.append_assoc]; exact hds
    · -- the end
      have ei : i = xs.length := by omega
      subst ei
      have hrest : rest = [] := by
        have hm' : mapO (eltV gt ft fe ρ0) (xs.drop xs.length) = .ok rest := hm'
        rw [List.drop_length] at hm'
        cases hm'; rfl
      subst hrest
      rw [List.append_nil] at hr'
      subst hr'
      refine wpAny_mono (T.done (blkCx X scope ts C s2 H2 fp) rfl rfl rfl hc _ [] s' σ' H' (fun _ _ => False) I' (stat fr') st' (yat.2 (Nat.le_refl _))) (fun r s5 ⟨hr, I5⟩ => ?_) fun _ _ z => z.elim
      subst hr
      refine wpAny_pure ?_
      obtain ⟨m, hns, _⟩ := I5.loc
      refine ⟨m, hns, fun h' sb => ?_⟩
      have hCn : H' C = none := I5.free
      have hDC : Dd ≠ C := by omega
      refine ⟨.ref Dd, H', ?_, rfl, g3 _ _ sm' (rep_lst (SqL.of hD') hOn (rp'.fewer fun a z => .inl z))⟩
      have nC : ∀ b o, s2.heap.get? b = some o → b ≠ C := fun b o e => by have hl : @LT.lt Nat _ b s2.heap.objs.size := Heap.lt_size e; show @Ne Nat b C; omega
      refine I2.call' (s' := { s5 with heap := h' }) (ch := fp) I5.os ⟨fun b o e n hb hx => ?_, fun b o e n hb hx => ?_, I5.base.free, fun b o e hx => ?_, I5.base.tups, I5.base.frzs, I5.base.tbls⟩ (fun b u e => ?_) I5.bare fun b hb => ⟨(f2 b hb).2.2.2.1, (f2 b hb).2.1, (f2 b hb).2.2.2.2.1, (f2 b hb).2.2.2.2.2⟩
      · exact (sb.2 b (nC b o e)).trans (I5.base.keep b o e n hb hx)
      · obtain ⟨sl, q⟩ := I5.base.slot b o e n hb hx
        exact ⟨sl, (sb.2 b (nC b o e)).trans q⟩
      · obtain ⟨o', q⟩ := I5.base.there b o e hx
        exact ⟨o', (sb.2 b (nC b o e)).trans q⟩
      · refine (I5.hok b u e).stay (fun c v hcc q => (sb.2 c ?_).trans q) (fun _ q => q) (fun _ _ q => q) fun _ _ _ _ q => q
        rintro rfl
        rcases hcc with z | z
        · rw [← z, hCn] at e; cases e
        · rw [hCn] at z; cases z
  exact codeAny_compStart_list (loop _ rfl) (T.self _ 0 _ _ _ st4 (loop _ rfl))
end
end Pu
namespace Pu
open PySem PySem.Spec L2
open PyProof.Rows hiding St
inductive So where
  | bad | nx (ρ : Rho) | rt (d : D) | bk (ρ : Rho) | ct (ρ : Rho) | ex (c : Str) (ρ : Rho)
structure At (X : Cx) (H0 : Hp) (O0 O : Addr → Prop) (H : Hp) (ρ : Rho) (σ : St) : Prop where
  same : Same H0 H
  rch : Rch X.K O0 H0 O H
  sub : ∀ a, O0 a → O a
  inn : In X O H ρ σ
  mine : ∀ (i : Nat) e a, ρ[i]? = some (some e) → e.own = true → σ[i]? = some (some (.ref a)) → H0 a = none ∧ ¬ O0 a
def fol (X : Cx) (H0 : Hp) (O0 O : Addr → Prop) (H : Hp) (E : Ends) (o : So) : Prop := match o with
  | .nx ρ' => ∀ σ' H' O', At X H0 O0 O' H' ρ' σ' → Rch X.K O H O' H' → E.nx σ' H'
  | .bk ρ' => ∀ σ' H' O', At X H0 O0 O' H' ρ' σ' → Rch X.K O H O' H' → E.bk σ' H'
  | .ct ρ' => ∀ σ' H' O', At X H0 O0 O' H' ρ' σ' → Rch X.K O H O' H' → E.ct σ' H'
  | .rt d => ∀ v H', Same H0 H' → Rep X.K O0 H' d v → E.rt v H'
  | .ex c ρ' => ∀ σ' H' O', At X H0 O0 O' H' ρ' σ' → XOk X c σ' H'
  | .bad => False
theorem fol.go {X : Cx} {H0 H H1 : Hp} {O0 O O1 : Addr → Prop} {E : Ends} {o : So} (h : fol X H0 O0 O H E o) (r : Rch X.K O H O1 H1) : fol X H0 O0 O1 H1 E o := by
  cases o with
  | bad => exact h
  | rt d => exact h
  | bk ρ2 => exact fun σ2 H2 O2 j2 r2 => h σ2 H2 O2 j2 (r.trans r2)
  | ct ρ2 => exact fun σ2 H2 O2 j2 r2 => h σ2 H2 O2 j2 (r.trans r2)
  | nx ρ2 => exact fun σ2 H2 O2 j2 r2 => h σ2 H2 O2 j2 (r.trans r2)
  | ex c ρ2 => exact h
def tS (X : Cx) (g : Rho → So) : TS := fun E σ H => ∃ H0 O0 O ρ, At X H0 O0 O H ρ σ ∧ fol X H0 O0 O H E (g ρ)
def DS (X : Cx) (st : Stmt) (g : Rho → So) : Prop := PS X st (tS X g)
def DSs (X : Cx) (st : List Stmt) (g : Rho → So) : Prop := PSs X st (tS X g)
theorem PS.imp {X : Cx} {e : Stmt} {t t' : TS} (h : PS X e t) (w : ∀ σ H Q, t' Q σ H → t Q σ H) : PS X e t' := fun pins s σ H Q I q => h pins s σ H Q I (w σ H Q q)
theorem PSs.imp {X : Cx} {e : List Stmt} {t t' : TS} (h : PSs X e t) (w : ∀ σ H Q, t' Q σ H → t Q σ H) : PSs X e t' := fun pins s σ H Q I q => h pins s σ H Q I (w σ H Q q)
section
variable {X : Cx} {H0 H H1 : Hp} {O0 O : Addr → Prop} {ρ : Rho} {σ : St}
theorem At.grow (j : At X H0 O0 O H ρ σ) (s : Same H H1) : At X H0 O0 O H1 ρ σ := ⟨j.same.trans s, j.rch.trans (Same.rch s), j.sub, j.inn.same s, j.mine⟩
theorem At.set (j : At X H0 O0 O H ρ σ) {i : Nat} (hi : i < X.N.length) {d : D} {v : V} (r : Rep X.K O H d v) : At X H0 O0 O H (ρ.set i (some (.val d))) (σ.set i (some v)) := by
  refine ⟨j.same, j.rch, j.sub, j.inn.set hi r, fun k e a h ho hs => ?_⟩
  have h1 : i < ρ.length := by rw [j.inn.lenR]; exact hi
  by_cases hk : k = i
  · subst hk
    rw [List.getElem?_set_self h1] at h
    cases h; cases ho
  · rw [List.getElem?_set_ne (Ne.symm hk)] at h hs
    exact j.mine k e a h ho hs
def thawE : Option Ent → Option Ent
  | some (.lst ds) => some (.val (.lst ds))
  | o => o
def thaw (ρ : Rho) : Rho := ρ.map thawE
def thO (ρ : Rho) (σ : St) (O : Addr → Prop) : Addr → Prop := fun a => O a ∧ ∀ (i : Nat) ds, ρ[i]? = some (some (.lst ds)) → σ[i]? ≠ some (some (.ref a))
theorem thaw_get {i : Nat} {e : Ent} (h : (thaw ρ)[i]? = some (some e)) : (ρ[i]? = some (some e) ∧ ∀ ds, e ≠ .lst ds) ∨ ∃ ds, ρ[i]? = some (some (.lst ds)) ∧ e = .val (.lst ds) := by
  unfold thaw at h
  rw [List.getElem?_map] at h
  cases q : ρ[i]? with
  | none => rw [q] at h; cases h
  | some o =>
    rw [q] at h
    have h : thawE o = some e := Option.some.inj h
    cases o with
    | none => cases h
    | some e' =>
      cases e' with
      | val d => cases h; exact .inl ⟨rfl, fun _ z => by cases z⟩
      | lst ds => cases h; exact .inr ⟨ds, rfl, rfl⟩
      | dic kvs => cases h; exact .inl ⟨rfl, fun _ z => by cases z⟩
      | obj t => cases h; exact .inl ⟨rfl, fun _ z => by cases z⟩
theorem In.thaw (j : In X O H ρ σ) : In X (thO ρ σ O) H (Pu.thaw ρ) σ := by
  refine ⟨⟨fun i e h => ?_, fun i k e e' v hik hi hk oi ok si sk => ?_⟩, fun a z => j.al a z.1, j.len, by unfold Pu.thaw; rw [List.length_map]; exact j.lenR⟩
  · rcases thaw_get h with ⟨h1, h2⟩ | ⟨ds, h1, rfl⟩
    · obtain ⟨v, h3, h4⟩ := j.env.get i e h1
      refine ⟨v, h3, ?_⟩
      cases e with
      | val d => exact Rep.fewer (fun a z => z.1) h4
      | lst ds => exact absurd rfl (h2 ds)
      | obj t => exact h4
      | dic kvs =>
        obtain ⟨a, ys, e1, o1, e2, k1, r1⟩ := h4
        refine ⟨a, ys, e1, ⟨o1, fun k ds hk hs => ?_⟩, e2, k1, r1.fewer fun a z => z.1⟩
        by_cases hik : i = k
        · subst hik; rw [h1] at hk; cases hk
        · exact j.env.sep i k _ _ v hik h1 hk rfl rfl h3 (by rw [e1]; exact hs)
    · obtain ⟨v, h3, a, xs, e1, o1, e2, r1⟩ := j.env.get i _ h1
      exact ⟨v, h3, by rw [e1]; exact rep_lst (SqL.of e2) (fun z => z.2 i ds h1 (by rw [← e1]; exact h3)) (r1.fewer fun a z => z.1)⟩
  · have un : ∀ {m : Nat} {e : Ent}, (Pu.thaw ρ)[m]? = some (some e) → e.own = true → ρ[m]? = some (some e) := fun {m e} h ho => by
      rcases thaw_get h with ⟨h1, _⟩ | ⟨ds, _, rfl⟩
      · exact h1
      · cases ho
    exact j.env.sep i k e e' v hik (un hi oi) (un hk ok) oi ok si sk
theorem At.thO0 (j : At X H0 O0 O H ρ σ) : ∀ a, O0 a → thO ρ σ O a := fun a z => ⟨j.sub a z, fun i ds h hs => (j.mine i _ a h rfl hs).2 z⟩
end
section
variable {X : Cx} {st : Stmt} {rest : List Stmt} {g k : Rho → So} {f : Rho → R D} {p : Rho → R Bool} {e : Expr} {pos : Pos}
def seqS (g k : Rho → So) : Rho → So := fun ρ => match g ρ with
  | .nx ρ' => k ρ'
  | o => o
theorem dss_nil : DSs X [] .nx := PSs.imp pss_nil fun σ H E h => by
  obtain ⟨H0, O0, O, ρ, j, h⟩ := h
  exact h σ H O j .refl
theorem dss_one (h : DS X st g) : DSs X [st] g := pss_one h
theorem dss_cons (h1 : DS X st g) (h2 : DSs X rest k) : DSs X (st :: rest) (seqS g k) := by
  refine PSs.imp (pss_cons h1 h2) fun σ H E h => ?_
  obtain ⟨H0, O0, O, ρ, j, h⟩ := h
  unfold seqS at h
  refine ⟨H0, O0, O, ρ, j, ?_⟩
  cases e1 : g ρ with
  | bad => rw [e1] at h; exact h
  | rt d => rw [e1] at h; exact h
  | bk ρ' => rw [e1] at h; exact h
  | ct ρ' => rw [e1] at h; exact h
  | ex c ρ' => rw [e1] at h; exact h
  | nx ρ' =>
    rw [e1] at h
    have h : fol X H0 O0 O H E (k ρ') := h
    exact fun σ' H' O' j' r' => ⟨H0, O0, O', ρ', j', h.go r'⟩
def ofR (r : R D) (ρ : Rho) (k : D → So) : So := match r with
  | .ok d => k d
  | .err c => .ex c ρ
  | .bad => .bad
def retS (f : Rho → R D) : Rho → So := fun ρ => ofR (f (thaw ρ)) ρ .rt
theorem ds_ret (he : DE X e f) : DS X (.Return (some e) pos) (retS f) := by
  refine PS.imp (ps_ret he) fun σ H E h => ?_
  obtain ⟨H0, O0, O, ρ, j, h⟩ := h
  refine ⟨thaw ρ, thO ρ σ O, j.inn.thaw, ?_⟩
  unfold retS ofR at h
  cases e1 : f (thaw ρ) with
  | bad => rw [e1] at h; exact h
  | err c => rw [e1] at h; exact h σ H O j
  | ok d => rw [e1] at h; exact fun v H' s r => h v H' (j.same.trans s) (Rep.fewer j.thO0 r)
def exprS (f : Rho → R D) : Rho → So := fun ρ => ofR (f (thaw ρ)) ρ fun _ => .nx ρ
theorem ds_expr (he : DE X e f) (hs : swapsWith e none pos.line X.env = pure false := by rfl) : DS X (.Expr e pos) (exprS f) := by
  refine PS.imp (ps_expr he hs) fun σ H E h => ?_
  obtain ⟨H0, O0, O, ρ, j, h⟩ := h
  refine ⟨thaw ρ, thO ρ σ O, j.inn.thaw, ?_⟩
  unfold exprS ofR at h
  cases e1 : f (thaw ρ) with
  | bad => rw [e1] at h; exact h
  | err c => rw [e1] at h; exact h σ H O j
  | ok d => rw [e1] at h; exact fun v H' s r => h σ H' O (j.grow s) (Same.rch s)
def asgS (f : Rho → R D) (gt : D → Rho → R Rho) : Rho → So := fun ρ => ofR (f ρ) ρ fun d => match gt d ρ with
  | .ok ρ' => .nx ρ'
  | _ => .bad
theorem ds_set (i : Nat) {x : Str} {pos' : Pos} (hN : X.N.Nodup) (he : DE X e f) (hi : X.N[i]? = some x := by rfl) (hx : Loc X.env.scope x := by first | exact Or.inl rfl | exact Or.inr rfl) (hs : swapsWith e (some (.Name x pos')) pos.line X.env = pure false := by rfl)
    (hf : X.fn x = true ∨ X.env.scope.names.lookup x = some .local := by first | exact .inl rfl | exact .inr rfl) : DS X (.Assign [.Name x pos'] e pos) (asgS f (setV i)) := by
  refine PS.imp (ps_set hN hi hx he hs hf) fun σ H E h => ?_
  obtain ⟨H0, O0, O, ρ, j, h⟩ := h
  refine ⟨ρ, O, j.inn, ?_⟩
  unfold asgS ofR at h
  cases e1 : f ρ with
  | bad => rw [e1] at h; exact h
  | err c => rw [e1] at h; exact h σ H O j
  | ok d => rw [e1] at h; exact fun v H' s r => h _ H' O ((j.grow s).set (List.getElem?_eq_some_iff.mp hi).1 r) (Same.rch s)
theorem ds_asg2 (i k : Nat) {x y : Str} {px py pt : Pos} {kt} (hc : X.calm = true) (hN : X.N.Nodup) (he : DE X e f) (hi : X.N[i]? = some x := by rfl) (hk : X.N[k]? = some y := by rfl)
    (hx : Loc X.env.scope x := by first | exact Or.inl rfl | exact Or.inr rfl) (hy : Loc X.env.scope y := by first | exact Or.inl rfl | exact Or.inr rfl)
    (hfx : X.fn x = true ∨ X.env.scope.names.lookup x = some .local := by first | exact .inl rfl | exact .inr rfl) (hfy : X.fn y = true ∨ X.env.scope.names.lookup y = some .local := by first | exact .inl rfl | exact .inr rfl)
    (hs : swapsWithSole [.Tuple [.Name x px, .Name y py] kt pt] e pos.line X.env = pure false := by rfl) (hw : swappedStores [.Tuple [.Name x px, .Name y py] kt pt] e X.env = pure none := by rfl) :
    DS X (.Assign [.Tuple [.Name x px, .Name y py] kt pt] e pos) (asgS f (tupG (lenG 2 (consG (setV i) (consG (setV k) nilG))))) := by
  refine PS.imp (ps_asg he (pg_tup hc (pgs_cons (pg_name hN hi hx hfx) (pgs_cons (pg_name hN hk hy hfy) pgs_nil))) hs hw) fun σ H E h => ?_
  obtain ⟨H0, O0, O, ρ, j, h⟩ := h
  refine ⟨ρ, O, j.inn, ?_⟩
  unfold asgS ofR at h
  cases e1 : f ρ with
  | bad => rw [e1] at h; exact h
  | err c => rw [e1] at h; exact h σ H O j
  | ok d =>
    rw [e1] at h
    intro v H' s r
    cases d with
    | tup ds =>
      match ds, h, r with
      | [], h, _ => exact h.elim
      | [_], h, _ => exact h.elim
      | _ :: _ :: _ :: _, h, _ => exact (show False by simpa [tupG, lenG, fol] using h).elim
      | [d1, d2], h, r =>
        obtain ⟨a, xs, rfl, hq, rs⟩ := r.tup
        obtain ⟨v1, v2, rfl, r1, r2⟩ := rs.two
        refine ⟨a, [v1, v2], rfl, hq, rfl, v1, [v2], rfl, v2, [], rfl, rfl, ?_⟩
        exact h _ H' O (((j.grow s).set (List.getElem?_eq_some_iff.mp hi).1 r1).set (List.getElem?_eq_some_iff.mp hk).1 r2) (Same.rch s)
    | _ => exact h.elim
def ifS (p : Rho → R Bool) (g k : Rho → So) : Rho → So := fun ρ => match p (thaw ρ) with
  | .ok true => g ρ
  | .ok false => k ρ
  | .err c => .ex c ρ
  | .bad => .bad
theorem tS_grow {g : Rho → So} {E : Ends} {H0 H H1 : Hp} {O0 O : Addr → Prop} {ρ : Rho} {σ : St} (j : At X H0 O0 O H ρ σ) (s : Same H H1) (h : fol X H0 O0 O H E (g ρ)) : tS X g E σ H1 :=
  ⟨H0, O0, O, ρ, j.grow s, h.go (Same.rch s)⟩
theorem ds_if {c : Expr} {a b : List Stmt} (hc : DT X c p) (ha : DSs X a g) (hb : DSs X b k) : DS X (.If c a b pos) (ifS p g k) := by
  refine PS.imp (ps_if hc ha hb) fun σ H E h => ?_
  obtain ⟨H0, O0, O, ρ, j, h⟩ := h
  refine ⟨thaw ρ, thO ρ σ O, j.inn.thaw, ?_⟩
  unfold ifS at h
  cases e1 : p (thaw ρ) with
  | bad => rw [e1] at h; exact h
  | err c => rw [e1] at h; exact h σ H O j
  | ok t =>
    rw [e1] at h
    intro b' H' s e
    subst e
    cases t with
    | true => rw [if_pos rfl]; exact tS_grow j s h
    | false => rw [if_neg Bool.false_ne_true]; exact tS_grow j s h
def forL (gt : D → Rho → R Rho) (b : Rho → So) : List D → Rho → So
  | [], ρ => .nx ρ
  | x :: xs, ρ => match gt x ρ with
    | .ok ρ1 => match b ρ1 with
      | .nx ρ2 => forL gt b xs ρ2
      | .ct ρ2 => forL gt b xs ρ2
      | .bk ρ2 => .nx ρ2
      | o => o
    | _ => .bad
def forS (fi : Rho → R (List D)) (gt : D → Rho → R Rho) (b : Rho → So) : Rho → So := fun ρ => match fi ρ with
  | .ok xs => forL gt b xs ρ
  | .err c => .ex c ρ
  | .bad => .bad
def DGA (X : Cx) (tg : Expr) (gt : D → Rho → R Rho) : Prop := PG X tg fun v σ H Q => ∃ H0 O0 O ρ d ρ', At X H0 O0 O H ρ σ ∧ Rep X.K O H d v ∧ gt d ρ = .ok ρ' ∧ ∀ σ', At X H0 O0 O H ρ' σ' → Q σ' H
theorem dga_name (i : Nat) {x : Str} (hN : X.N.Nodup) (hi : X.N[i]? = some x := by rfl) (hx : Loc X.env.scope x := by first | exact Or.inl rfl | exact Or.inr rfl) (hf : X.fn x = true ∨ X.env.scope.names.lookup x = some .local := by first | exact .inl rfl | exact .inr rfl) : DGA X (.Name x pos) (setV i) := by
  intro pins s σ H v u Q I r h
  obtain ⟨H0, O0, O, ρ, d, ρ', j, rd, e, q⟩ := h
  cases e
  exact pg_name hN hi hx hf pins s σ H v u Q I r (q _ (j.set (List.getElem?_eq_some_iff.mp hi).1 rd))
theorem ds_for {tg iter : Expr} {body : List Stmt} {fi : Rho → R (List D)} {gt : D → Rho → R Rho} {b : Rho → So} (hp : PassesOwn (model X.prog X.w) X.A X.env X.xe) (hc : X.calm = true) (hi : DI X tg iter fi) (hg : DGA X tg gt) (hb : DSs X body b)
    (hs : ∀ x, foldedSetIterable iter X.env x = pure x := by intro _; rfl) : DS X (.For tg iter body [] pos) (forS fi gt b) := by
  refine PS.imp (ps_for hp hc hi hg hb hs) fun σ H E h => ?_
  obtain ⟨H0, O0, O, ρ, j, h⟩ := h
  refine ⟨ρ, O, j.inn, ?_⟩
  unfold forS at h
  cases e1 : fi ρ with
  | bad => rw [e1] at h; exact h
  | err c => rw [e1] at h; exact h σ H O j
  | ok xs =>
    rw [e1] at h
    have h : fol X H0 O0 O H E (forL gt b xs ρ) := h
    intro J H1 s1 yr
    have j1 := j.grow s1
    have q1 : Rch X.K O H O H1 := Same.rch s1
    refine ⟨fun i m σ' H' => ∃ O' ρ', At X H0 O0 O' H' ρ' σ' ∧ Rch X.K O H1 O' H' ∧ i ≤ xs.length ∧ m = xs.length - i ∧ forL gt b (xs.drop i) ρ' = forL gt b xs ρ, ⟨_, O, ρ, j1, .refl, Nat.zero_le _, rfl, by simp⟩, ?_⟩
    rintro i m σ' H' ⟨O', ρ', j', r', hil, rfl, hf⟩
    have yat := yr O' H' r' i
    by_cases hlt : i < xs.length
    · have ed : xs.drop i = xs[i] :: xs.drop (i + 1) := List.drop_eq_getElem_cons hlt
      obtain ⟨jgo, jy⟩ := yat.1 xs[i] (by simp [hlt])
      refine .inr ⟨jgo, fun σ2 H2 => ∃ O2 ρ2, At X H0 O0 O2 H2 ρ2 σ2 ∧ Rch X.K O H1 O2 H2 ∧ forL gt b (xs.drop (i + 1)) ρ2 = forL gt b xs ρ, ?_, fun x H2 y => ?_⟩
      · rintro σ2 H2 ⟨O2, ρ2, j2, r2, hf2⟩
        exact ⟨xs.length - (i + 1), by omega, O2, ρ2, j2, r2, by omega, rfl, hf2⟩
      · obtain ⟨sm, rep⟩ := jy x H2 y
        rw [ed] at hf
        have hf : (match gt xs[i] ρ' with
          | .ok ρ1 => match b ρ1 with
            | .nx ρ2 => forL gt b (xs.drop (i + 1)) ρ2
            | .ct ρ2 => forL gt b (xs.drop (i + 1)) ρ2
            | .bk ρ2 => .nx ρ2
            | o => o
          | _ => .bad) = forL gt b xs ρ := hf
        cases e2 : gt xs[i] ρ' with
        | bad => rw [e2] at hf; rw [← hf] at h; exact h.elim
        | err c => rw [e2] at hf; rw [← hf] at h; exact h.elim
        | ok ρ1 =>
          rw [e2] at hf
          refine ⟨H0, O0, O', ρ', xs[i], ρ1, j'.grow sm, rep, e2, fun σ3 j3 => ?_⟩
          refine ⟨H0, O0, O', ρ1, j3, ?_⟩
          have r3 : Rch X.K O H1 O' H2 := r'.trans (Same.rch sm)
          have hf : (match b ρ1 with
            | .nx ρ2 => forL gt b (xs.drop (i + 1)) ρ2
            | .ct ρ2 => forL gt b (xs.drop (i + 1)) ρ2
            | .bk ρ2 => .nx ρ2
            | o => o) = forL gt b xs ρ := hf
          cases e3 : b ρ1 with
          | bad => rw [e3] at hf; rw [← hf] at h; exact h
          | rt d => rw [e3] at hf; rw [← hf] at h; exact h
          | ex c ρ2 => rw [e3] at hf; rw [← hf] at h; exact h
          | bk ρ2 => rw [e3] at hf; rw [← hf] at h; exact fun σ4 H4 O4 j4 r4 => h σ4 H4 O4 j4 (q1.trans (r3.trans r4))
          | nx ρ2 => rw [e3] at hf; exact fun σ4 H4 O4 j4 r4 => ⟨O4, ρ2, j4, r3.trans r4, hf⟩
          | ct ρ2 => rw [e3] at hf; exact fun σ4 H4 O4 j4 r4 => ⟨O4, ρ2, j4, r3.trans r4, hf⟩
    · have ei : i = xs.length := by omega
      subst ei
      have hf : forL gt b (xs.drop xs.length) ρ' = forL gt b xs ρ := hf
      rw [List.drop_length] at hf
      rw [← hf] at h
      exact .inl ⟨yat.2 (Nat.le_refl _), h σ' H' O' j' (q1.trans r')⟩
def whS (p : Rho → R Bool) (b : Rho → So) : Nat → Rho → So
  | 0, _ => .bad
  | n + 1, ρ => match p (thaw ρ) with
    | .ok true => match b ρ with
      | .nx ρ' => whS p b n ρ'
      | .ct ρ' => whS p b n ρ'
      | .bk ρ' => .nx ρ'
      | o => o
    | .ok false => .nx ρ
    | .err c => .ex c ρ
    | .bad => .bad
theorem ds_while (n : Nat) {c : Expr} {body : List Stmt} {b : Rho → So} (hp : PassesOwn (model X.prog X.w) X.A X.env X.xe) (hc : DT X c p) (hb : DSs X body b) : DS X (.While c body [] pos) (whS p b n) := by
  refine PS.imp (ps_while hp hc hb) fun σ H E h => ?_
  obtain ⟨H0, O0, O, ρ, j, h⟩ := h
  have h : fol X H0 O0 O H E (whS p b n ρ) := h
  refine ⟨fun m σ' H' => ∃ O' ρ', At X H0 O0 O' H' ρ' σ' ∧ Rch X.K O H O' H' ∧ whS p b m ρ' = whS p b n ρ, ⟨n, O, ρ, j, .refl, rfl⟩, ?_⟩
  rintro m σ' H' ⟨O', ρ', j', r', hf⟩
  refine ⟨thaw ρ', thO ρ' σ' O', j'.inn.thaw, ?_⟩
  cases m with
  | zero => rw [← hf] at h; exact h.elim
  | succ m =>
    have hf : (match p (thaw ρ') with
      | .ok true => match b ρ' with
        | .nx ρ' => whS p b m ρ'
        | .ct ρ' => whS p b m ρ'
        | .bk ρ' => .nx ρ'
        | o => o
      | .ok false => .nx ρ'
      | .err c => .ex c ρ'
      | .bad => .bad) = whS p b n ρ := hf
    cases e1 : p (thaw ρ') with
    | bad => rw [e1] at hf; rw [← hf] at h; exact h
    | err c => rw [e1] at hf; rw [← hf] at h; exact h σ' H' O' j'
    | ok t =>
      rw [e1] at hf
      intro t' H1 s1 e
      subst e
      have j1 := j'.grow s1
      have r1 : Rch X.K O H O' H1 := r'.trans (Same.rch s1)
      cases t with
      | false =>
        rw [if_neg Bool.false_ne_true]
        rw [← hf] at h
        exact h σ' H1 O' j1 r1
      | true =>
        rw [if_pos rfl]
        refine ⟨fun σ2 H2 => ∃ O2 ρ2, At X H0 O0 O2 H2 ρ2 σ2 ∧ Rch X.K O H O2 H2 ∧ whS p b m ρ2 = whS p b n ρ, ?_, H0, O0, O', ρ', j1, ?_⟩
        · rintro σ2 H2 ⟨O2, ρ2, j2, r2, hf2⟩
          exact ⟨m, by omega, O2, ρ2, j2, r2, hf2⟩
        · have hf : (match b ρ' with
            | .nx ρ' => whS p b m ρ'
            | .ct ρ' => whS p b m ρ'
            | .bk ρ' => .nx ρ'
            | o => o) = whS p b n ρ := hf
          cases e3 : b ρ' with
          | bad => rw [e3] at hf; rw [← hf] at h; exact h
          | rt d => rw [e3] at hf; rw [← hf] at h; exact h
          | ex c ρ2 => rw [e3] at hf; rw [← hf] at h; exact h
          | bk ρ2 => rw [e3] at hf; rw [← hf] at h; exact fun σ4 H4 O4 j4 r4 => h σ4 H4 O4 j4 (r1.trans r4)
          | nx ρ2 => rw [e3] at hf; exact fun σ4 H4 O4 j4 r4 => ⟨O4, ρ2, j4, r1.trans r4, hf⟩
          | ct ρ2 => rw [e3] at hf; exact fun σ4 H4 O4 j4 r4 => ⟨O4, ρ2, j4, r1.trans r4, hf⟩
end
end Pu
namespace Pu
open PySem PySem.Spec L2
open PyProof.Rows hiding St
section
variable {X : Cx} {a b e : Expr} {es : List Expr} {f g : Rho → R D} {fa : Rho → R (List D)} {pos : Pos}
def tLstK (K : PySem.W.Frag) (t : TA) : TE := fun σ H Q => t σ H fun xs H1 => xs.length ≤ sizeLine ∧ ∀ p, H1 p = none → K.lookup p = none → Q (.ref p) (upd H1 p (.lst xs))
theorem Inv.newK {pins : List (Addr × Obj)} {σ : St} {H : Hp} {s : Shared} (I : Inv X pins σ H s) : X.K.lookup s.heap.objs.size = none := by
  cases q : X.K.lookup s.heap.objs.size with
  | none => rfl
  | some o => exact absurd (Heap.lt_size (I.kIn _ _ q)) (Nat.lt_irrefl _)
theorem pe_lstK {t : TA} (h : PA X es t) : PE X (.List es pos) (tLstK X.K t) := by
  intro pins s σ H Q I hq
  refine wpAny_List_spliced (thn (h pos pins s σ H _ I hq) fun us s1 ⟨xs, H1, I1, r, z, q⟩ => ⟨by rw [← r.length]; exact z, ?_⟩)
  have hf : H1 s1.heap.objs.size = none := I1.hok.fresh (Nat.le_refl _)
  refine ⟨.ref s1.heap.objs.size, upd H1 s1.heap.objs.size (.lst xs), I1.laid (t' := s1.toks) (fun b u e => Heap.get?_push_of_some _ e) (Nat.le_refl _) ?_, rfl, q _ hf (Inv.newK I1)⟩
  exact ⟨z, us, 0, r, Heap.get?_push_size _ rfl⟩
theorem At.own {H0 H : Hp} {O0 O : Addr → Prop} {ρ : Rho} {σ : St} (j : At X H0 O0 O H ρ σ) {i : Nat} (hi : i < X.N.length) {p : Addr} {o : HO} {en : Ent} (hp : H p = none) (hk : X.K.lookup p = none) (ho : en.own = true)
    (hr : RepE X.K (fun a => O a ∨ a = p) (upd H p o) en (.ref p)) :
    At X H0 O0 (fun a => O a ∨ a = p) (upd H p o) (ρ.set i (some en)) (σ.set i (some (.ref p))) ∧ Rch X.K O H (fun a => O a ∨ a = p) (upd H p o) := by
  have s1 : Same H (upd H p o) := Same.upd hp
  have r1 : Rch X.K O H (fun a => O a ∨ a = p) (upd H p o) := ⟨(Same.rch (K := X.K) (O := O) s1).ext, fun a z => z.elim .inl fun e => .inr (by rw [e]; exact ⟨hp, hk⟩), (Same.rch (K := X.K) (O := O) s1).dom⟩
  have h1 : i < ρ.length := by rw [j.inn.lenR]; exact hi
  have h2 : i < σ.length := by rw [j.inn.len]; exact hi
  have nOp : ¬ O p := j.inn.notO hp
  have old : ∀ {e : Ent} {v : V}, RepE X.K O H e v → RepE X.K (fun a => O a ∨ a = p) (upd H p o) e v ∧ (e.own = true → v ≠ .ref p) := fun {e v} h => by
    cases e with
    | val d => exact ⟨Rep.go r1 h, fun z => by cases z⟩
    | lst ds =>
      obtain ⟨a, xs, e1, o1, e2, r⟩ := h
      exact ⟨⟨a, xs, e1, .inl o1, s1 _ _ e2, r.go r1⟩, fun _ z => by rw [e1] at z; cases z; exact nOp o1⟩
    | obj t => exact ⟨RepO.same s1 h, fun z => by cases z⟩
    | dic kvs =>
      obtain ⟨a, xs, e1, o1, e2, k, r⟩ := h
      exact ⟨⟨a, xs, e1, .inl o1, s1 _ _ e2, k, r.go r1⟩, fun _ z => by rw [e1] at z; cases z; exact nOp o1⟩
  refine ⟨⟨j.same.trans s1, j.rch.trans r1, fun a z => .inl (j.sub a z), ⟨⟨fun k e h => ?_, fun k l e e' v hkl hk' hl ok ol sk sl => ?_⟩, fun a z => ?_, by rw [List.length_set]; exact j.inn.len, by rw [List.length_set]; exact j.inn.lenR⟩, fun k e a h hoo hs => ?_⟩, r1⟩
  · by_cases hki : k = i
    · subst hki
      rw [List.getElem?_set_self h1] at h
      cases h
      exact ⟨.ref p, List.getElem?_set_self h2, hr⟩
    · rw [List.getElem?_set_ne (Ne.symm hki)] at h
      obtain ⟨v, q1, q2⟩ := j.inn.env.get k e h
      exact ⟨v, by rw [List.getElem?_set_ne (Ne.symm hki)]; exact q1, (old q2).1⟩
  · by_cases hki : k = i
    · subst hki
      rw [List.getElem?_set_self h2] at sk
      cases sk
      rw [List.getElem?_set_ne hkl] at hl sl
      obtain ⟨v, q1, q2⟩ := j.inn.env.get l e' hl
      rw [q1] at sl
      cases sl
      exact (old q2).2 ol rfl
    · rw [List.getElem?_set_ne (Ne.symm hki)] at hk' sk
      by_cases hli : l = i
      · subst hli
        rw [List.getElem?_set_self h2] at sl
        cases sl
        obtain ⟨v, q1, q2⟩ := j.inn.env.get k e hk'
        rw [q1] at sk
        cases sk
        exact (old q2).2 ok rfl
      · rw [List.getElem?_set_ne (Ne.symm hli)] at hl sl
        exact j.inn.env.sep k l e e' v hkl hk' hl ok ol sk sl
  · rcases z with z | z
    · obtain ⟨u, q⟩ := j.inn.al a z
      exact ⟨u, s1 _ _ q⟩
    · rw [z]; exact ⟨o, upd_same⟩
  · by_cases hki : k = i
    · subst hki
      rw [List.getElem?_set_self h2] at hs
      cases hs
      exact ⟨j.same.free hp, fun z => nOp (j.sub _ z)⟩
    · rw [List.getElem?_set_ne (Ne.symm hki)] at h hs
      exact j.mine k e a h hoo hs
theorem At.chg {H0 H : Hp} {O0 O : Addr → Prop} {ρ : Rho} {σ : St} (j : At X H0 O0 O H ρ σ) {i : Nat} {e0 en : Ent} {p : Addr} {u o : HO} (hi : ρ[i]? = some (some e0)) (h0 : e0.own = true) (hp : σ[i]? = some (some (.ref p))) (hO : O p) (hu : H p = some u) (hm : Mut (some u)) (ho : en.own = true)
    (hr : Rch X.K O H O (upd H p o) → RepE X.K O (upd H p o) en (.ref p)) : At X H0 O0 O (upd H p o) (ρ.set i (some en)) σ ∧ Rch X.K O H O (upd H p o) := by
  have nt : ∀ b xs, Rd H b (.tup xs) → b ≠ p := fun b xs h z => by
    subst z
    rcases h with h | ⟨_, h⟩ <;> rw [hu] at h <;> cases h <;> exact hm
  have r1 : Rch X.K O H O (upd H p o) := by
    refine ⟨⟨fun b xs h => ?_, fun b xs n h => ?_⟩, fun a z => .inl z, fun a z => ?_⟩
    · have nb := nt b xs h
      rcases h with h | ⟨q, h⟩
      · exact .inl (by rw [upd_ne nb]; exact h)
      · exact .inr ⟨q, by rw [upd_ne nb]; exact h⟩
    · have nb : b ≠ p := fun z => n (by rw [z]; exact hO)
      rcases h with h | ⟨q, h⟩
      · exact .inl (by rw [upd_ne nb]; exact h)
      · exact .inr ⟨q, by rw [upd_ne nb]; exact h⟩
    · by_cases ea : a = p
      · rw [ea, upd_same] at z; cases z
      · rw [upd_ne ea] at z; exact z
  have h1 : i < ρ.length := (List.getElem?_eq_some_iff.mp hi).1
  obtain ⟨hH0, hO0⟩ := j.mine i e0 p hi h0 hp
  refine ⟨⟨fun b q z => ?_, j.rch.trans r1, j.sub, ⟨⟨fun k e h => ?_, fun k l e e' v hkl hk' hl ok ol sk sl => ?_⟩, fun a z => ?_, j.inn.len, by rw [List.length_set]; exact j.inn.lenR⟩, fun k e a h hoo hs => ?_⟩, r1⟩
  · rw [upd_ne (ne_of_none z hH0)]; exact j.same _ _ z
  · by_cases hki : k = i
    · subst hki
      rw [List.getElem?_set_self h1] at h
      cases h
      exact ⟨_, hp, hr r1⟩
    · rw [List.getElem?_set_ne (Ne.symm hki)] at h
      obtain ⟨v, q1, q2⟩ := j.inn.env.get k e h
      refine ⟨v, q1, ?_⟩
      have nv : e.own = true → v ≠ .ref p := fun z w => by
        subst w
        exact j.inn.env.sep k i e e0 _ hki h hi z h0 q1 hp
      cases e with
      | val d => exact Rep.go r1 q2
      | obj t => exact RepO.fz (fun b o' u hb => by
          have nb : b ≠ p := fun z => by rw [z, hu] at hb; cases hb; exact hm
          rw [upd_ne nb]; exact hb) q2
      | lst ds =>
        obtain ⟨a, xs, e1, o1, e2, r⟩ := q2
        have na : a ≠ p := fun z => nv rfl (by rw [e1, z])
        exact ⟨a, xs, e1, o1, by rw [upd_ne na]; exact e2, r.go r1⟩
      | dic kvs =>
        obtain ⟨a, xs, e1, o1, e2, kk, r⟩ := q2
        have na : a ≠ p := fun z => nv rfl (by rw [e1, z])
        exact ⟨a, xs, e1, o1, by rw [upd_ne na]; exact e2, kk, r.go r1⟩
  · have un : ∀ {m : Nat} {x : Ent}, (ρ.set i (some en))[m]? = some (some x) → x.own = true → ∃ y, ρ[m]? = some (some y) ∧ y.own = true := fun {m x} h ho' => by
      by_cases hmi : m = i
      · rw [hmi]; exact ⟨e0, hi, h0⟩
      · rw [List.getElem?_set_ne (Ne.symm hmi)] at h; exact ⟨x, h, ho'⟩
    obtain ⟨y, hy, oy⟩ := un hk' ok
    obtain ⟨y', hy', oy'⟩ := un hl ol
    exact j.inn.env.sep k l y y' v hkl hy hy' oy oy' sk sl
  · by_cases ea : a = p
    · rw [ea]; exact ⟨o, upd_same⟩
    · obtain ⟨w, q⟩ := j.inn.al a z
      exact ⟨w, by rw [upd_ne ea]; exact q⟩
  · by_cases hki : k = i
    · subst hki
      rw [hp] at hs; cases hs
      exact ⟨hH0, hO0⟩
    · rw [List.getElem?_set_ne (Ne.symm hki)] at h
      exact j.mine k e a h hoo hs
def appS (i : Nat) (f : Rho → R D) : Rho → So := fun ρ => ofR (noE (f ρ)) ρ fun d => match ρ[i]? with
  | some (some (.lst ds)) => if ds.length < 1000000 then .nx (ρ.set i (some (.lst (ds ++ [d])))) else .bad
  | _ => .bad
theorem ds_app (i : Nat) {x : Str} {px apos cpos : Pos} (he : DE X e f) (hN : X.N[i]? = some x := by rfl) (hv : Vis X.env.scope x := by first | exact Or.inl rfl | exact Or.inr (Or.inl rfl) | exact Or.inr (Or.inr rfl))
    (hd : (x == ("__debug__" : Str)) = false := by decide) (hcd : (x == ("__classdict__" : Str)) = false := by decide)
    (hbase : attributeBase (.Name x px) "append" X.env (eval (.Name x px) X.env) = eval (.Name x px) X.env := by rfl)
    (hfew : ((backTo cpos (starEach [e] X.env)).all (fun x => !x.1) && (backToKw cpos (keywordEach [] X.env)).all (fun x => x.1.isSome)
      && decide ([e].length + ([] : List Keyword).length + (if ([] : List Keyword).isEmpty then 0 else 1) < 30)) = true := by rfl)
    (hline : (apos.endLine == cpos.line) = true := by rfl) (hs1 : starEach [e] X.env = (false, eval e X.env) :: starEach [] X.env := by rfl) (hplain : (backTo cpos (starEach [] X.env)).any (·.1) = false := by rfl)
    (hs : swapsWith (.Call (.Attribute (.Name x px) "append" apos) [e] [] cpos) none pos.line X.env = pure false := by rfl) :
    DS X (.Expr (.Call (.Attribute (.Name x px) "append" apos) [e] [] cpos) pos) (appS i f) := by
  refine PS.imp (ps_expr (pe_bm PySem.F.plainAttrs_list PySem.F.slot_list_append PySem.F.type_list_append mt_append (pe_var hN hv hd hcd) (pa_cons he pa_nil hs1) hbase hfew hline hs1 hplain) hs) fun σ H E h => ?_
  obtain ⟨H0, O0, O, ρ, j, h⟩ := h
  unfold appS ofR at h
  cases e1 : f ρ with
  | bad => rw [e1] at h; exact h.elim
  | err c => rw [e1] at h; exact h.elim
  | ok d =>
    rw [e1] at h
    cases e2 : ρ[i]? with
    | none => simp only [e2] at h; exact h.elim
    | some oe =>
      cases oe with
      | none => simp only [e2] at h; exact h.elim
      | some en =>
        cases en with
        | val _ => simp only [e2] at h; exact h.elim
        | dic _ => simp only [e2] at h; exact h.elim
        | obj _ => simp only [e2] at h; exact h.elim
        | lst ds =>
          simp only [e2] at h
          by_cases hl : ds.length < 1000000
          · simp only [if_pos hl] at h
            obtain ⟨v, hv1, a, xs, rfl, hO, hH, rs⟩ := j.inn.env.get i _ e2
            refine ⟨.ref a, hv1, .inl ⟨rfl, xs, SqL.of hH⟩, ?_⟩
            refine ⟨ρ, O, j.inn, ?_⟩
            rw [e1]
            intro w H1 s1 rw1
            have j1 := j.grow s1
            obtain ⟨_, hv2, a2, xs2, e3, hO2, hH2, rs2⟩ := j1.inn.env.get i _ e2
            rw [hv1] at hv2
            cases hv2
            cases e3
            have hlen := rs2.length
            refine ⟨a, xs2, w, rfl, rfl, hH2, by have := sizeLine_gt; omega, ?_⟩
            obtain ⟨j2, r2⟩ := j1.chg (o := .lst (xs2 ++ [w])) (en := .lst (ds ++ [d])) e2 rfl hv1 hO2 hH2 trivial rfl fun r => ⟨a, xs2 ++ [w], rfl, hO2, upd_same, (rs2.append (.cons rw1 .nil)).go r⟩
            exact h _ _ _ j2 ((Same.rch s1).trans r2)
          · simp only [if_neg hl] at h; exact h.elim
end
def spD (K : PySem.W.Frag) (n : Nat) (F : List D → R D) : Sp := fun vs H Q _ => ∃ O ds, Reps K O H ds vs ∧ ds.length = n ∧ (∀ a, O a → ∃ o, H a = some o) ∧ match F ds with
  | .ok d => ∀ v H', Same H H' → Rep K O H' d v → Q v H'
  | _ => False
def runB (n : Nat) (g : Rho → So) (ds : List D) : R D := match g (ds.map (fun d => some (.val d)) ++ List.replicate n none) with
  | .rt d => .ok d
  | .nx _ => .ok .non
  | .ex c _ => .err c
  | _ => .bad
section
variable {P : Program} {w : World} {K : PySem.W.Frag} {mg : Str → Option Value} {base : Heap}
theorem map_rep {K : PySem.W.Frag} {O : Addr → Prop} {H : Hp} {ds : List D} {vs : List V} (r : Reps K O H ds vs) (m : Nat) (i : Nat) (e : Ent) (h : (ds.map (fun d => some (Ent.val d)) ++ List.replicate m none)[i]? = some (some e)) : ∃ v, (vs.map some ++ List.replicate m none)[i]? = some (some v) ∧ RepE K O H e v ∧ e.own = false := by
  by_cases hi : i < ds.length
  · rw [List.getElem?_append_left (by simpa using hi), List.getElem?_map] at h
    cases q : ds[i]? with
    | none => rw [q] at h; cases h
    | some d =>
      rw [q] at h
      cases h
      obtain ⟨v, e1, rv⟩ := r.get q
      exact ⟨v, by rw [List.getElem?_append_left (by rw [List.length_map, ← r.length]; exact hi), List.getElem?_map, e1]; rfl, rv, rfl⟩
  · rw [List.getElem?_append_right (by simpa using hi), List.getElem?_replicate] at h
    split at h <;> cases h
theorem fnD {x qual : Str} {st : Stmt} {f : Addr} {fd : FuncData} {N ps : List Str} {k n m : Nat} {g : Rho → So} {F : List D → R D} (Fn : Fun K x qual st f fd) (S : FnScope N ps (defScope st)) (hn : ps.length = n) (hm : N.length = n + m)
    (hb : ∀ (cdv : Value) (A : Around) (outer : List PySem.Env) (s : Shared) (H : Hp) (E : XK), Room k (A.deeper (envOfC qual (defScope st) s.heap.objs.size f cdv)) → DSs (cxOf CX0 P w K mg base N qual (defScope st) f cdv A outer s H E).nox (defBody st) g)
    (hF : ∀ ds d, ds.length = n → F ds = .ok d → runB m g ds = .ok d) : FnOk P w K mg base CX0 (k + 1) f fd ps (spD K n F) := by
  refine Fn.ok S (fun vs H Q E h => ?_) (fun cdv A outer s H vs Q E hr h => ?_)
  · obtain ⟨O, ds, r, hl, _⟩ := h
    rw [hn, ← hl, r.length]
  · obtain ⟨O, ds, r, hl, al, h⟩ := h
    refine ⟨_, hb cdv A outer s H E hr, H, O, O, ds.map (fun d => some (.val d)) ++ List.replicate m none, ?_, ?_⟩
    · have hst : L2.start N vs = vs.map some ++ List.replicate m none := by
        unfold L2.start
        rw [show N.length - vs.length = m by rw [← r.length]; omega]
      refine ⟨Same.refl _, .refl, fun _ z => z, ⟨⟨fun i e q => ?_, fun i k e e' v _ hi _ oi => ?_⟩, al, ?_, ?_⟩, fun i e a q ho => ?_⟩
      · obtain ⟨v, h1, h2, _⟩ := map_rep r m i e q
        exact ⟨v, by rw [hst]; exact h1, h2⟩
      · obtain ⟨_, _, _, h3⟩ := map_rep r m i e hi
        rw [h3] at oi; cases oi
      · show (L2.start N vs).length = N.length
        rw [hst, List.length_append, List.length_map, List.length_replicate, ← r.length]; omega
      · show (ds.map (fun d => some (Ent.val d)) ++ List.replicate m none).length = N.length
        rw [List.length_append, List.length_map, List.length_replicate]; omega
      · obtain ⟨_, _, _, h3⟩ := map_rep r m i e q
        rw [h3] at ho; cases ho
    · cases e : F ds with
      | bad => rw [e] at h; exact h.elim
      | err c => rw [e] at h; exact h.elim
      | ok d =>
        rw [e] at h
        have q := hF ds d hl e
        unfold runB at q
        cases e2 : g (ds.map (fun d => some (.val d)) ++ List.replicate m none) with
        | rt d' =>
          rw [e2] at q
          cases q
          exact fun v H' s' r' => h v H' s' r'
        | nx ρ' =>
          rw [e2] at q
          cases q
          exact fun σ' H' O' j' _ => h .non H' j'.same rep_non
        | bk _ => rw [e2] at q; cases q
        | ct _ => rw [e2] at q; cases q
        | ex _ _ => rw [e2] at q; cases q
        | bad => rw [e2] at q; cases q
end
section
variable {X : Cx} {k n : Nat} {f : Addr} {fd : FuncData} {ps : List Str} {F : List D → R D} {x : Str} {p pos : Pos} {e : Expr} {es : List Expr} {fa : Rho → R (List D)}
def noErr (F : List D → R D) (n : Nat) (ds : List D) : R D := if ds.length = n then noE (F ds) else .bad
theorem de_call (G : FnOk X.prog X.w X.K X.mg X.base CX0 k f fd ps (spD X.K n F)) (hr : Room k X.A) (hg : Gl X x) (hm : X.mg x = some (.ref f)) (hk : PySem.W.keepIn X.K (.ref f) = true) (hb : Binds X.K fd ps [])
    (ha : DA X (e :: es) fa) (hdb : (x == ("__debug__" : Str)) = false := by decide) (he : starEach (e :: es) X.env = (false, eval e X.env) :: starEach es X.env := by rfl) (hpl : (backTo pos (starEach es X.env)).any (·.1) = false := by rfl) :
    DE X (.Call (.Name x p) (e :: es) [] pos) (callV (noErr F n) fa) := by
  refine PE.imp (pe_call (dvs := []) G hr hg hm hk hb .nil pass0 ha hdb he hpl) fun σ H Q h => ?_
  obtain ⟨ρ, O, j, h⟩ := h
  refine go j h fun ds vs H1 e1 s1 r1 j1 h1 => ?_
  unfold noErr at h1
  by_cases hl : ds.length = n
  · rw [if_pos hl] at h1
    rw [List.append_nil]
    refine ⟨O, ds, r1, hl, j1.al, ?_⟩
    cases q : F ds with
    | ok d => rw [q] at h1; exact h1
    | err c => rw [q] at h1; exact h1
    | bad => rw [q] at h1; exact h1
  · rw [if_neg hl] at h1; exact h1.elim
end
end Pu
namespace Pu
open PySem PySem.Spec L2
open PyProof.Rows hiding St
section
variable {X : Cx}
def lenD : List D → R D
  | [.tup ds] => .ok (.int ds.length)
  | [.lst ds] => .ok (.int ds.length)
  | _ => .bad
theorem cd_len : CallD X (.builtin "len") lenD := by
  refine ⟨_, call_len_seq, fun ρ O σ H Q xs ds j r h => ?_⟩
  unfold lenD at h
  split at h
  · obtain ⟨x, rfl, rx⟩ := r.one
    obtain ⟨a, ys, rfl, hq, rs⟩ := rx.tup
    exact ⟨a, ys, rfl, .inr hq, by rw [← rs.length]; exact fin h (rep_int _)⟩
  · obtain ⟨x, rfl, rx⟩ := r.one
    obtain ⟨a, ys, rfl, hq, _, rs⟩ := rx.lst
    exact ⟨a, ys, rfl, .inl hq, by rw [← rs.length]; exact fin h (rep_int _)⟩
  · exact h.elim
def tupD : List D → R D
  | [.tup ds] => .ok (.tup ds)
  | [.lst ds] => .ok (.tup ds)
  | _ => .bad
theorem cd_tuple : CallD X (.type "tuple") tupD := by
  refine ⟨_, call_tuple_of, fun ρ O σ H Q xs ds j r h => ?_⟩
  unfold tupD at h
  split at h
  · obtain ⟨x, rfl, rx⟩ := r.one
    obtain ⟨a, ys, rfl, hq, rs⟩ := rx.tup
    exact ⟨a, ys, rfl, .inr ⟨hq, fin h (rep_tup hq rs)⟩⟩
  · obtain ⟨x, rfl, rx⟩ := r.one
    obtain ⟨a, ys, rfl, hq, _, rs⟩ := rx.lst
    exact ⟨a, ys, rfl, .inl ⟨hq, fun l hl => h _ _ (Same.upd hl) (Rep.new_tup hl rs)⟩⟩
  · exact h.elim
def lstD : List D → R D
  | [.tup ds] => .ok (.lst ds)
  | [.lst ds] => .ok (.lst ds)
  | _ => .bad
theorem cd_list : CallD X (.type "list") lstD := by
  refine ⟨_, call_list_of, fun ρ O σ H Q xs ds j r h => ?_⟩
  unfold lstD at h
  split at h
  · obtain ⟨x, rfl, rx⟩ := r.one
    obtain ⟨a, ys, rfl, hq, rs⟩ := rx.tup
    exact ⟨a, ys, rfl, .inr hq, fun l hl => h _ _ (Same.upd hl) (Rep.new_lst hl (j.notO hl) rs)⟩
  · obtain ⟨x, rfl, rx⟩ := r.one
    obtain ⟨a, ys, rfl, hq, _, rs⟩ := rx.lst
    exact ⟨a, ys, rfl, .inl hq, fun l hl => h _ _ (Same.upd hl) (Rep.new_lst hl (j.notO hl) rs)⟩
  · exact h.elim
def boolsOf : List D → Option (List Bool)
  | [] => some []
  | .bl b :: r => (boolsOf r).map (b :: ·)
  | _ => none
def intsOf : List D → Option (List Int)
  | [] => some []
  | .int i :: r => (intsOf r).map (i :: ·)
  | _ => none
theorem bools_V {K : PySem.W.Frag} {O : Addr → Prop} {H : Hp} : ∀ {ds : List D} {bs : List Bool} {vs : List V}, boolsOf ds = some bs → Reps K O H ds vs → vs = bs.map V.bl
  | [], bs, vs, e, r => by cases e; exact r.nil_inv
  | d :: ds, bs, vs, e, r => by
    cases d with
    | bl b =>
      have e : (boolsOf ds).map (b :: ·) = some bs := e
      cases q : boolsOf ds with
      | none => rw [q] at e; cases e
      | some l =>
        rw [q] at e
        cases e
        obtain ⟨x, t, rfl, rx, rt⟩ := r.cons_inv
        rw [rx.bl, bools_V q rt]; rfl
    | _ => cases e
theorem ints_V {K : PySem.W.Frag} {O : Addr → Prop} {H : Hp} : ∀ {ds : List D} {bs : List Int} {vs : List V}, intsOf ds = some bs → Reps K O H ds vs → vs = bs.map V.int
  | [], bs, vs, e, r => by cases e; exact r.nil_inv
  | d :: ds, bs, vs, e, r => by
    cases d with
    | int b =>
      have e : (intsOf ds).map (b :: ·) = some bs := e
      cases q : intsOf ds with
      | none => rw [q] at e; cases e
      | some l =>
        rw [q] at e
        cases e
        obtain ⟨x, t, rfl, rx, rt⟩ := r.cons_inv
        rw [rx.int, ints_V q rt]; rfl
    | _ => cases e
theorem boolsAre : ∀ {bs : List Bool} {us : List Value}, Vals (bs.map V.bl) us → LSm.BoolsAre us bs
  | [], _, .nil => .nil
  | b :: bs, _, .cons r t => by cases r; exact .cons b (boolsAre t)
theorem call_allB (hc : X.calm = true) : CallR X (.builtin "all") (fun xs H Q => ∃ p, ∃ bs : List Bool, xs = [.ref p] ∧ SqL X.K H p (bs.map V.bl) ∧ Q (.bl (bs.all id)) H) := by
  intro pins s σ H xs us Q I r h
  obtain ⟨p, bs, rfl, hq, q⟩ := h
  obtain ⟨u, rfl, rx⟩ := vals1 r
  cases rx
  obtain ⟨its, r', pl, hz⟩ := I.list hq
  have hb := boolsAre r'
  have hl := pl.isList
  have hlt : p < s.heap.objs.size := by obtain ⟨_, e, _⟩ := hl; exact Heap.lt_size e
  refine call_all_walk (wpAny_pyIter_list hl ?_)
  refine ⟨s.heap.objs.size, [s.heap.objs.size, p], [s.heap.objs.size], its.toArray.size, _, _, fun i => (bs[i]?).getD true, rfl, Walks.list (A := X.A.in1) (I.ok.hd hc) _ p (Nat.ne_of_lt hlt) its.toArray,
    ⟨⟨_, Heap.get?_push_size _ rfl, rfl, rfl⟩, hl.push _⟩, fun i v s' Q' E' hP hQ => ?_, fun h' tk hk => ?_⟩
  · obtain ⟨b, e, rfl⟩ := hb.get i v (by simpa using hP)
    simp only [e, Option.getD_some] at hQ
    exact wpAny_truthy_bool hQ
  · have e : ((List.range its.toArray.size).all fun i => (bs[i]?).getD true) = bs.all id := by
      rw [List.size_toArray, hb.length]; exact LSm.range_all bs
    rw [e]
    exact ⟨.bl _, H, I.kept (LSm.kept_iter hk), rfl, q⟩
def allD : List D → R D
  | [.lst ds] => match boolsOf ds with
    | some bs => .ok (.bl (bs.all id))
    | none => .bad
  | _ => .bad
theorem cd_all (hc : X.calm = true) : CallD X (.builtin "all") allD := by
  refine ⟨_, call_allB hc, fun ρ O σ H Q xs ds j r h => ?_⟩
  unfold allD at h
  split at h
  · rename_i ds
    obtain ⟨x, rfl, rx⟩ := r.one
    obtain ⟨a, ys, rfl, hq, _, rs⟩ := rx.lst
    cases e : boolsOf ds with
    | none => rw [e] at h; exact h.elim
    | some bs =>
      rw [e] at h
      have ey := bools_V e rs
      subst ey
      exact ⟨a, bs, rfl, hq, fin h (rep_bl _)⟩
  · exact h.elim
theorem call_sumI (hc : X.calm = true) : CallR X (.builtin "sum") (fun xs H Q => ∃ p, ∃ ns : List Int, xs = [.ref p] ∧ (SqL X.K H p (ns.map V.int) ∨ SqT X.K H p (ns.map V.int)) ∧ Q (.int ns.sum) H) := by
  intro pins s σ H xs us Q I r h
  obtain ⟨p, ns, rfl, hq, q⟩ := h
  obtain ⟨u, rfl, rx⟩ := vals1 r
  cases rx
  have key : ∀ (its : List Value), Vals (ns.map V.int) its → ∃ zs : Array (Int × Tok), its.toArray = intItems zs ∧ preSum (numAt zs) zs.size = ns.sum := fun its r' => by
    have hi := intsAre_of r'
    obtain ⟨zs, hx⟩ := hi.allInts.items
    refine ⟨zs, hx, ?_⟩
    have e1 : ns = zs.toList.map (·.1) := by
      rw [← nums_intItems, ← hx]
      exact (show numsOf its.toArray.toList = ns from hi.numsOf).symm
    rw [preSum_eq, List.take_of_length_le (by simp), e1]
  rcases hq with hq | hq
  · obtain ⟨its, r', pl, hz⟩ := I.list hq
    obtain ⟨zs, e1, e2⟩ := key its r'
    refine sum_intListG (I.ok.hd hc) (e1 ▸ pl.isList) fun h' tk t' hk => ?_
    rw [e2]
    exact ⟨.int _, H, I.kept hk, ⟨t', rfl⟩, q⟩
  · obtain ⟨its, r', pl, hz⟩ := I.tuple hq
    obtain ⟨zs, e1, e2⟩ := key its r'
    refine PySem.W.ktm_sumG (I.ok.hd hc) (show s.heap.IsTuple p (intItems zs) from e1 ▸ pl) fun h' tk t' hk => ?_
    rw [e2]
    exact ⟨.int _, H, I.kept hk, ⟨t', rfl⟩, q⟩
def sumD : List D → R D
  | [.lst ds] => match intsOf ds with
    | some bs => .ok (.int bs.sum)
    | none => .bad
  | [.tup ds] => match intsOf ds with
    | some bs => .ok (.int bs.sum)
    | none => .bad
  | _ => .bad
theorem cd_sum (hc : X.calm = true) : CallD X (.builtin "sum") sumD := by
  refine ⟨_, call_sumI hc, fun ρ O σ H Q xs ds j r h => ?_⟩
  unfold sumD at h
  split at h
  · rename_i ds
    obtain ⟨x, rfl, rx⟩ := r.one
    obtain ⟨a, ys, rfl, hq, _, rs⟩ := rx.lst
    cases e : intsOf ds with
    | none => rw [e] at h; exact h.elim
    | some bs =>
      rw [e] at h
      have ey := ints_V e rs
      subst ey
      exact ⟨a, bs, rfl, .inl hq, fin h (rep_int _)⟩
  · rename_i ds
    obtain ⟨x, rfl, rx⟩ := r.one
    obtain ⟨a, ys, rfl, hq, rs⟩ := rx.tup
    cases e : intsOf ds with
    | none => rw [e] at h; exact h.elim
    | some bs =>
      rw [e] at h
      have ey := ints_V e rs
      subst ey
      exact ⟨a, bs, rfl, .inr hq, fin h (rep_int _)⟩
  · exact h.elim
def tyD : D → String
  | .non => "NoneType"
  | .bl _ => "bool"
  | .int _ => "int"
  | .str _ => "str"
  | .tup _ => "tuple"
  | .lst _ => "list"
theorem call_inst (T : String) (ans : String → Bool) (hk : ∀ d : D, PySem.W.kitOne X.K (.type (tyD d)) (.type T) = some (ans (tyD d))) :
    CallR X (.builtin "isinstance") (fun xs H Q => ∃ x O d, xs = [x, .ty T] ∧ Rep X.K O H d x ∧ Q (.bl (ans (tyD d))) H) := by
  intro pins s σ H xs us Q I r h
  obtain ⟨x, O, d, rfl, rd, q⟩ := h
  obtain ⟨u, u2, rfl, rx, r2⟩ := vals2 r
  cases r2
  have e := hk d
  have fin' : ∀ tk, EP X pins σ Q (.bool (ans (tyD d))) { s with toks := tk } := fun tk => ⟨.bl _, H, I.tok _, rfl, q⟩
  cases d with
  | non =>
    cases rd.non
    cases (show u = Value.none from rx)
    exact PySem.W.kia_one PySem.W.kitx_none I.kIn True.intro e (fun z => nomatch z) fin'
  | bl b =>
    cases rd.bl
    cases (show u = Value.bool b from rx)
    exact PySem.W.kia_one PySem.W.kitx_bool I.kIn True.intro e (fun z => nomatch z) fin'
  | int i =>
    cases rd.int
    obtain ⟨t, z⟩ := (show ∃ t, u = Value.int i t from rx)
    cases z
    exact PySem.W.kia_one PySem.W.kitx_int I.kIn True.intro e (fun z => nomatch z) fin'
  | str y =>
    cases rd.str
    obtain ⟨t, z⟩ := (show ∃ t, u = Value.str y t from rx)
    cases z
    exact PySem.W.kia_one PySem.W.kitx_str I.kIn True.intro e (fun z => nomatch z) fin'
  | tup ds =>
    obtain ⟨a, ys, rfl, hq, _⟩ := rd.tup
    cases (show u = Value.ref a from rx)
    obtain ⟨its, _, pl, _⟩ := I.tuple hq
    obtain ⟨o, h1, h2, _⟩ := pl
    exact PySem.W.kia_one PySem.W.kitx_tuple I.kIn ⟨o, h1, h2⟩ e (fun z => nomatch z) fin'
  | lst ds =>
    obtain ⟨a, ys, rfl, hq, _, _⟩ := rd.lst
    cases (show u = Value.ref a from rx)
    obtain ⟨its, _, pl, _⟩ := I.list hq
    obtain ⟨o, n, h1, h2, _⟩ := pl
    exact PySem.W.kia_one PySem.W.kitx_list I.kIn ⟨o, h1, h2⟩ e (fun z => nomatch z) fin'
def instV (ans : String → Bool) (f : Rho → R D) : Rho → R D := fun ρ => (f ρ).bind fun d => .ok (.bl (ans (tyD d)))
theorem de_inst {T : String} {ans : String → Bool} {x y : Str} {e : Expr} {f : Rho → R D} {p p2 pos : Pos} (hk : ∀ d : D, PySem.W.kitOne X.K (.type (tyD d)) (.type T) = some (ans (tyD d))) (he : DE X e f)
    (hg : Gl X x) (hm : X.mg x = none) (hv : bootBuiltins x = some (.builtin "isinstance")) (hgy : Gl X y) (hmy : X.mg y = none) (hvy : bootBuiltins y = some (.type T)) (hn : x ≠ "__name__" := by decide) (hdb : (x == ("__debug__" : Str)) = false := by decide)
    (hny : y ≠ "__name__" := by decide) (hdy : (y == ("__debug__" : Str)) = false := by decide)
    (hs : starEach [e, .Name y p2] X.env = (false, eval e X.env) :: starEach [.Name y p2] X.env := by rfl) (hs2 : starEach [.Name y p2] X.env = (false, eval (.Name y p2) X.env) :: starEach [] X.env := by rfl) (hpl : (backTo pos (starEach [.Name y p2] X.env)).any (·.1) = false := by rfl) :
    DE X (.Call (.Name x p) [e, .Name y p2] [] pos) (instV ans f) := by
  refine PE.imp (pe_callB (call_inst T ans hk) hg hm hv (pa_cons he (pa_cons (pe_bltn (v := .ty T) hgy hmy hvy rfl hny hdy) pa_nil hs2) hs) hn hdb hs hpl) fun σ H Q h => ?_
  obtain ⟨ρ, O, j, h⟩ := h
  refine go j h fun d v H1 e1 s1 r1 j1 h1 => ?_
  exact ⟨v, O, d, rfl, r1, fin h1 (rep_bl _)⟩
end
mutual
def eqD : D → D → Bool
  | .non, .non => true
  | .bl a, .bl b => a == b
  | .bl a, .int b => (if a then 1 else 0) == b
  | .int a, .bl b => a == (if b then 1 else 0)
  | .int a, .int b => a == b
  | .str a, .str b => a == b
  | .tup a, .tup b => eqDs a b
  | .lst a, .lst b => eqDs a b
  | _, _ => false
def eqDs : List D → List D → Bool
  | [], [] => true
  | x :: xs, y :: ys => eqD x y && eqDs xs ys
  | _, _ => false
end
mutual
def dep : D → Nat
  | .tup a => deps a + 1
  | .lst a => deps a + 1
  | _ => 0
def deps : List D → Nat
  | [] => 0
  | x :: xs => max (dep x) (deps xs)
end
theorem deps_le : ∀ {ds : List D} {d : D}, d ∈ ds → dep d ≤ deps ds
  | [], _, h => by simp at h
  | x :: xs, d, h => by
    rw [deps]
    rcases List.mem_cons.mp h with e | h
    · subst e; exact Nat.le_max_left _ _
    · exact Nat.le_trans (deps_le h) (Nat.le_max_right _ _)
mutual
theorem eqD_refl : ∀ d : D, eqD d d = true
  | .non => rfl
  | .bl a => by simp [eqD]
  | .int a => by simp [eqD]
  | .str a => by simp [eqD]
  | .tup a => by rw [eqD]; exact eqDs_refl a
  | .lst a => by rw [eqD]; exact eqDs_refl a
theorem eqDs_refl : ∀ d : List D, eqDs d d = true
  | [] => rfl
  | x :: xs => by rw [eqDs, eqD_refl x, eqDs_refl xs]; rfl
end
theorem eqDs_len : ∀ {xs ys : List D}, xs.length ≠ ys.length → eqDs xs ys = false
  | [], [], h => absurd rfl h
  | [], _ :: _, _ => rfl
  | _ :: _, [], _ => rfl
  | x :: xs, y :: ys, h => by
    rw [eqDs, eqDs_len (xs := xs) (ys := ys) (fun e => h (by simp [e])), Bool.and_false]
theorem eqDs_all : ∀ {xs ys : List D}, xs.length = ys.length → eqDs xs ys = (List.range xs.length).all fun i => eqD (xs.getD i .non) (ys.getD i .non)
  | [], [], _ => rfl
  | [], _ :: _, h => by simp at h
  | _ :: _, [], h => by simp at h
  | x :: xs, y :: ys, h => by
    rw [eqDs, eqDs_all (xs := xs) (ys := ys) (by simpa using h), List.length_cons, List.range_succ_eq_map, List.all_cons, List.all_map]
    rfl
end Pu
namespace Pu
open PySem PySem.Spec L2
open PyProof.Rows hiding St
open PySem.SeqAt
def Lk (X : Cx) (O : Addr → Prop) (H : Hp) (s : Shared) : D → Value → Prop
  | .non, u => u = Value.none
  | .bl b, u => u = Value.bool b
  | .int i, u => ∃ t, u = Value.int i t
  | .str x, u => ∃ t, u = Value.str x t
  | .tup ds, u => ∃ a xs its, u = Value.ref a ∧ SqT X.K H a xs ∧ Vals xs its ∧ s.heap.IsTuple a its.toArray ∧ Reps X.K O H ds xs
  | .lst ds, u => ∃ a xs its, u = Value.ref a ∧ SqL X.K H a xs ∧ Vals xs its ∧ s.heap.IsList a its.toArray ∧ Reps X.K O H ds xs
section
variable {X : Cx} {pins : List (Addr × Obj)} {σ : St} {H : Hp} {s : Shared} {O O' : Addr → Prop}
theorem lk_of (I : Inv X pins σ H s) {d : D} {v : V} {u : Value} (r : Rep X.K O H d v) (q : RelV v u) : Lk X O H s d u := by
  cases d with
  | non => cases r.non; exact q
  | bl b => cases r.bl; exact q
  | int i => cases r.int; exact q
  | str x => cases r.str; exact q
  | tup ds =>
    obtain ⟨a, xs, rfl, hq, rs⟩ := r.tup
    cases (show u = Value.ref a from q)
    obtain ⟨its, rv, p, _⟩ := I.tuple hq
    exact ⟨a, xs, its, rfl, hq, rv, p, rs⟩
  | lst ds =>
    obtain ⟨a, xs, rfl, hq, _, rs⟩ := r.lst
    cases (show u = Value.ref a from q)
    obtain ⟨its, rv, p, _⟩ := I.list hq
    exact ⟨a, xs, its, rfl, hq, rv, p.isList, rs⟩
theorem isTuple_list {a : Addr} {p q : Array Value} (h1 : s.heap.IsTuple a p) (h2 : s.heap.IsList a q) : False := ne_of_list_tuple h2 h1 rfl
mutual
theorem Rep.inj (I : Inv X pins σ H s) : ∀ (d e : D) (v : V), Rep X.K O H d v → Rep X.K O' H e v → d = e
  | .non, e, v, r, q => by
    cases r.non
    cases e with
    | non => rfl
    | bl _ => cases q.bl
    | int _ => cases q.int
    | str _ => cases q.str
    | tup _ => obtain ⟨_, _, z, _⟩ := q.tup; cases z
    | lst _ => obtain ⟨_, _, z, _⟩ := q.lst; cases z
  | .bl b, e, v, r, q => by
    cases r.bl
    cases e with
    | non => cases q.non
    | bl _ => cases q.bl; rfl
    | int _ => cases q.int
    | str _ => cases q.str
    | tup _ => obtain ⟨_, _, z, _⟩ := q.tup; cases z
    | lst _ => obtain ⟨_, _, z, _⟩ := q.lst; cases z
  | .int b, e, v, r, q => by
    cases r.int
    cases e with
    | non => cases q.non
    | bl _ => cases q.bl
    | int _ => cases q.int; rfl
    | str _ => cases q.str
    | tup _ => obtain ⟨_, _, z, _⟩ := q.tup; cases z
    | lst _ => obtain ⟨_, _, z, _⟩ := q.lst; cases z
  | .str b, e, v, r, q => by
    cases r.str
    cases e with
    | non => cases q.non
    | bl _ => cases q.bl
    | int _ => cases q.int
    | str _ => cases q.str; rfl
    | tup _ => obtain ⟨_, _, z, _⟩ := q.tup; cases z
    | lst _ => obtain ⟨_, _, z, _⟩ := q.lst; cases z
  | .tup ds, e, v, r, q => by
    obtain ⟨a, xs, rfl, hq, rs⟩ := r.tup
    cases e with
    | non => cases q.non
    | bl _ => cases q.bl
    | int _ => cases q.int
    | str _ => cases q.str
    | tup es =>
      obtain ⟨b, ys, z, hq', rs'⟩ := q.tup
      cases z
      cases I.tuple_inj hq hq'
      rw [Reps.inj I ds es xs rs rs']
    | lst es =>
      obtain ⟨b, ys, z, hq', _, rs'⟩ := q.lst
      cases z
      obtain ⟨_, _, p1, _⟩ := I.tuple hq
      obtain ⟨_, _, p2, _⟩ := I.list hq'
      exact (isTuple_list p1 p2.isList).elim
  | .lst ds, e, v, r, q => by
    obtain ⟨a, xs, rfl, hq, _, rs⟩ := r.lst
    cases e with
    | non => cases q.non
    | bl _ => cases q.bl
    | int _ => cases q.int
    | str _ => cases q.str
    | tup es =>
      obtain ⟨b, ys, z, hq', rs'⟩ := q.tup
      cases z
      obtain ⟨_, _, p1, _⟩ := I.tuple hq'
      obtain ⟨_, _, p2, _⟩ := I.list hq
      exact (isTuple_list p1 p2.isList).elim
    | lst es =>
      obtain ⟨b, ys, z, hq', _, rs'⟩ := q.lst
      cases z
      cases I.list_inj hq hq'
      rw [Reps.inj I ds es xs rs rs']
theorem Reps.inj (I : Inv X pins σ H s) : ∀ (ds es : List D) (vs : List V), Reps X.K O H ds vs → Reps X.K O' H es vs → ds = es
  | [], es, vs, r, q => by
    rw [r.nil_inv] at q
    cases es with
    | nil => rfl
    | cons e es => obtain ⟨_, _, z, _⟩ := q.cons_inv; cases z
  | d :: ds, es, vs, r, q => by
    obtain ⟨x, t, rfl, rx, rt⟩ := r.cons_inv
    cases es with
    | nil => cases q.nil_inv
    | cons e es =>
      obtain ⟨_, _, z, qx, qt⟩ := q.cons_inv
      cases z
      rw [Rep.inj I d e x rx qx, Reps.inj I ds es t rt qt]
end
theorem items_eq {A : Around} {ds es : List D} {xs ys : List V} {its jts : List Value} (r1 : Reps X.K O H ds xs) (r2 : Reps X.K O' H es ys) (v1 : Vals xs its) (v2 : Vals ys jts)
    (ih : ∀ d ∈ ds, ∀ (e : D) (v w : V) (u u' : Value), Rep X.K O H d v → Rep X.K O' H e w → RelV v u → RelV w u' → EqAt A s u u' (eqD d e)) :
    ∀ j (h1 : j < its.toArray.size) (h2 : j < jts.toArray.size), EqAt A s its.toArray[j] jts.toArray[j] (eqD (ds.getD j .non) (es.getD j .non)) := by
  intro j h1 h2
  have e1 : its[j]? = some its.toArray[j] := by simp
  have e2 : jts[j]? = some jts.toArray[j] := by simp
  have l1 := v1.length
  have l2 := v2.length
  have k1 := r1.length
  have k2 := r2.length
  simp only [List.size_toArray] at h1 h2
  obtain ⟨v, ev, rv⟩ : ∃ v, xs[j]? = some v ∧ RelV v its.toArray[j] := by
    have hj : j < xs.length := by omega
    obtain ⟨u, eu, ru⟩ := v1.get (i := j) (x := xs[j]) (by simp [hj])
    rw [e1] at eu; cases eu
    exact ⟨_, by simp [hj], ru⟩
  obtain ⟨w, ew, rw'⟩ : ∃ v, ys[j]? = some v ∧ RelV v jts.toArray[j] := by
    have hj : j < ys.length := by omega
    obtain ⟨u, eu, ru⟩ := v2.get (i := j) (x := ys[j]) (by simp [hj])
    rw [e2] at eu; cases eu
    exact ⟨_, by simp [hj], ru⟩
  obtain ⟨d, ed, rd⟩ := r1.getV ev
  obtain ⟨e, ee, re⟩ := r2.getV ew
  have g1 : ds.getD j .non = d := by simp [List.getD, ed]
  have g2 : es.getD j .non = e := by simp [List.getD, ee]
  rw [g1, g2]
  exact ih d (List.mem_of_getElem? ed) e v w _ _ rd re rv rw'
theorem tup_word {ds es : List D} {n m : Nat} (hn : ds.length = n) (hm : es.length = m) : ((List.range (min n m)).all (fun j => eqD (ds.getD j .non) (es.getD j .non)) && n == m) = eqDs ds es := by
  by_cases h : n = m
  · subst h
    rw [Nat.min_self, beq_self_eq_true, Bool.and_true, eqDs_all (by rw [hn, hm]), hn]
  · rw [eqDs_len (by rw [hn, hm]; exact h), show (n == m) = false by simpa using h, Bool.and_false]
theorem eqAt_ind (I : Inv X pins σ H s) {A : Around} (hu : A.units < cLine) {d e : D} {u u' : Value} (h1 : Lk X O H s d u) (h2 : Lk X O' H s e u')
    (ih : ∀ c ∈ (match d with | .tup ds => ds | .lst ds => ds | _ => []), ∀ (e : D) (v w : V) (u u' : Value), Rep X.K O H c v → Rep X.K O' H e w → RelV v u → RelV w u' → EqAt A.in1 s u u' (eqD c e)) : EqAt A s u u' (eqD d e) := by
  cases d with
  | non =>
    cases h1
    cases e with
    | non =>
      cases h2
      exact EqAt.same _
    | bl b =>
      cases h2
      first
        | exact EqAt.none_bool _
        | (have q := EqAt.none_bool (A := A) (s := s) _; simpa [eqD] using q)
    | int b =>
      obtain ⟨t2, rfl⟩ := h2
      first
        | exact EqAt.none_int _ _
        | (have q := EqAt.none_int (A := A) (s := s) _ _; simpa [eqD] using q)
    | str b =>
      obtain ⟨t2, rfl⟩ := h2
      first
        | exact EqAt.none_str _ _
        | (have q := EqAt.none_str (A := A) (s := s) _ _; simpa [eqD] using q)
    | tup es =>
      obtain ⟨p2, ys, jts, rfl, hq2, v2, hp2, r2⟩ := h2
      first
        | exact EqAt.none_tuple hp2 hu
        | (have q := EqAt.none_tuple (A := A) (s := s) hp2 hu; simpa [eqD] using q)
    | lst es =>
      obtain ⟨p2, ys, jts, rfl, hq2, v2, hp2, r2⟩ := h2
      first
        | exact EqAt.none_list hp2 hu
        | (have q := EqAt.none_list (A := A) (s := s) hp2 hu; simpa [eqD] using q)
  | bl a =>
    cases h1
    cases e with
    | non =>
      cases h2
      first
        | exact EqAt.bool_none _
        | (have q := EqAt.bool_none (A := A) (s := s) _; simpa [eqD] using q)
    | bl b =>
      cases h2
      first
        | exact EqAt.bool_bool _ _
        | (have q := EqAt.bool_bool (A := A) (s := s) _ _; simpa [eqD] using q)
    | int b =>
      obtain ⟨t2, rfl⟩ := h2
      first
        | exact EqAt.bool_int _ _ _
        | (have q := EqAt.bool_int (A := A) (s := s) _ _ _; simpa [eqD] using q)
    | str b =>
      obtain ⟨t2, rfl⟩ := h2
      first
        | exact EqAt.bool_str _ _ _
        | (have q := EqAt.bool_str (A := A) (s := s) _ _ _; simpa [eqD] using q)
    | tup es =>
      obtain ⟨p2, ys, jts, rfl, hq2, v2, hp2, r2⟩ := h2
      first
        | exact EqAt.bool_tuple _ hp2 hu
        | (have q := EqAt.bool_tuple (A := A) (s := s) _ hp2 hu; simpa [eqD] using q)
    | lst es =>
      obtain ⟨p2, ys, jts, rfl, hq2, v2, hp2, r2⟩ := h2
      first
        | exact EqAt.bool_list _ hp2 hu
        | (have q := EqAt.bool_list (A := A) (s := s) _ hp2 hu; simpa [eqD] using q)
  | int a =>
    obtain ⟨t1, rfl⟩ := h1
    cases e with
    | non =>
      cases h2
      first
        | exact EqAt.int_none _ _
        | (have q := EqAt.int_none (A := A) (s := s) _ _; simpa [eqD] using q)
    | bl b =>
      cases h2
      first
        | exact EqAt.int_bool _ _ _
        | (have q := EqAt.int_bool (A := A) (s := s) _ _ _; simpa [eqD] using q)
    | int b =>
      obtain ⟨t2, rfl⟩ := h2
      first
        | exact EqAt.int_int _ _ _ _
        | (have q := EqAt.int_int (A := A) (s := s) _ _ _ _; simpa [eqD] using q)
    | str b =>
      obtain ⟨t2, rfl⟩ := h2
      first
        | exact EqAt.int_str _ _ _ _
        | (have q := EqAt.int_str (A := A) (s := s) _ _ _ _; simpa [eqD] using q)
    | tup es =>
      obtain ⟨p2, ys, jts, rfl, hq2, v2, hp2, r2⟩ := h2
      first
        | exact EqAt.int_tuple _ _ hp2 hu
        | (have q := EqAt.int_tuple (A := A) (s := s) _ _ hp2 hu; simpa [eqD] using q)
    | lst es =>
      obtain ⟨p2, ys, jts, rfl, hq2, v2, hp2, r2⟩ := h2
      first
        | exact EqAt.int_list _ _ hp2 hu
        | (have q := EqAt.int_list (A := A) (s := s) _ _ hp2 hu; simpa [eqD] using q)
  | str a =>
    obtain ⟨t1, rfl⟩ := h1
    cases e with
    | non =>
      cases h2
      first
        | exact EqAt.str_none _ _
        | (have q := EqAt.str_none (A := A) (s := s) _ _; simpa [eqD] using q)
    | bl b =>
      cases h2
      first
        | exact EqAt.str_bool _ _ _
        | (have q := EqAt.str_bool (A := A) (s := s) _ _ _; simpa [eqD] using q)
    | int b =>
      obtain ⟨t2, rfl⟩ := h2
      first
        | exact EqAt.str_int _ _ _ _
        | (have q := EqAt.str_int (A := A) (s := s) _ _ _ _; simpa [eqD] using q)
    | str b =>
      obtain ⟨t2, rfl⟩ := h2
      first
        | exact EqAt.str_str _ _ _ _
        | (have q := EqAt.str_str (A := A) (s := s) _ _ _ _; simpa [eqD] using q)
    | tup es =>
      obtain ⟨p2, ys, jts, rfl, hq2, v2, hp2, r2⟩ := h2
      first
        | exact EqAt.str_tuple _ _ hp2 hu
        | (have q := EqAt.str_tuple (A := A) (s := s) _ _ hp2 hu; simpa [eqD] using q)
    | lst es =>
      obtain ⟨p2, ys, jts, rfl, hq2, v2, hp2, r2⟩ := h2
      first
        | exact EqAt.str_list _ _ hp2 hu
        | (have q := EqAt.str_list (A := A) (s := s) _ _ hp2 hu; simpa [eqD] using q)
  | tup ds =>
    obtain ⟨p1, xs, its, rfl, hq1, v1, hp1, r1⟩ := h1
    cases e with
    | non =>
      cases h2
      first
        | exact EqAt.tuple_none hp1 hu
        | (have q := EqAt.tuple_none (A := A) (s := s) hp1 hu; simpa [eqD] using q)
    | bl b =>
      cases h2
      first
        | exact EqAt.tuple_bool _ hp1 hu
        | (have q := EqAt.tuple_bool (A := A) (s := s) _ hp1 hu; simpa [eqD] using q)
    | int b =>
      obtain ⟨t2, rfl⟩ := h2
      first
        | exact EqAt.tuple_int _ _ hp1 hu
        | (have q := EqAt.tuple_int (A := A) (s := s) _ _ hp1 hu; simpa [eqD] using q)
    | str b =>
      obtain ⟨t2, rfl⟩ := h2
      first
        | exact EqAt.tuple_str _ _ hp1 hu
        | (have q := EqAt.tuple_str (A := A) (s := s) _ _ hp1 hu; simpa [eqD] using q)
    | tup es =>
      obtain ⟨p2, ys, jts, rfl, hq2, v2, hp2, r2⟩ := h2
      by_cases hne : p1 = p2
      · subst hne
        cases I.tuple_inj hq1 hq2
        rw [eqD, Reps.inj I ds es xs r1 r2, eqDs_refl]
        exact EqAt.same _
      · have q := EqAt.of_refs hne (RcAt.tuples hp1 hp2 hu (items_eq r1 r2 v1 v2 ih))
        simp only [List.size_toArray] at q
        rw [tup_word (r1.length.trans v1.length) (r2.length.trans v2.length)] at q
        rw [eqD]; exact q
    | lst es =>
      obtain ⟨p2, ys, jts, rfl, hq2, v2, hp2, r2⟩ := h2
      first
        | exact EqAt.tuple_list hp1 hp2 hu
        | (have q := EqAt.tuple_list (A := A) (s := s) hp1 hp2 hu; simpa [eqD] using q)
  | lst ds =>
    obtain ⟨p1, xs, its, rfl, hq1, v1, hp1, r1⟩ := h1
    cases e with
    | non =>
      cases h2
      first
        | exact EqAt.list_none hp1 hu
        | (have q := EqAt.list_none (A := A) (s := s) hp1 hu; simpa [eqD] using q)
    | bl b =>
      cases h2
      first
        | exact EqAt.list_bool _ hp1 hu
        | (have q := EqAt.list_bool (A := A) (s := s) _ hp1 hu; simpa [eqD] using q)
    | int b =>
      obtain ⟨t2, rfl⟩ := h2
      first
        | exact EqAt.list_int _ _ hp1 hu
        | (have q := EqAt.list_int (A := A) (s := s) _ _ hp1 hu; simpa [eqD] using q)
    | str b =>
      obtain ⟨t2, rfl⟩ := h2
      first
        | exact EqAt.list_str _ _ hp1 hu
        | (have q := EqAt.list_str (A := A) (s := s) _ _ hp1 hu; simpa [eqD] using q)
    | tup es =>
      obtain ⟨p2, ys, jts, rfl, hq2, v2, hp2, r2⟩ := h2
      first
        | exact EqAt.list_tuple hp1 hp2 hu
        | (have q := EqAt.list_tuple (A := A) (s := s) hp1 hp2 hu; simpa [eqD] using q)
    | lst es =>
      obtain ⟨p2, ys, jts, rfl, hq2, v2, hp2, r2⟩ := h2
      by_cases hne : p1 = p2
      · subst hne
        cases I.list_inj hq1 hq2
        rw [eqD, Reps.inj I ds es xs r1 r2, eqDs_refl]
        exact EqAt.same _
      · by_cases hz : ds.length = es.length
        · have q := EqAt.of_refs hne (RcAt.lists hp1 hp2 (by simp only [List.size_toArray]; rw [← v1.length, ← v2.length, ← r1.length, ← r2.length]; exact hz) hu (items_eq r1 r2 v1 v2 ih))
          rw [List.size_toArray, ← v1.length, ← r1.length, ← eqDs_all hz] at q
          rw [eqD]; exact q
        · rw [eqD, eqDs_len hz]
          exact EqAt.of_refs hne (RcAt.lists_lengths hp1 hp2 (by simp only [List.size_toArray]; rw [← v1.length, ← v2.length, ← r1.length, ← r2.length]; simpa using hz) hu)
theorem rcAt_ind (I : Inv X pins σ H s) {A : Around} (hu : A.units < cLine) {d e : D} {u u' : Value} (h1 : Lk X O H s d u) (h2 : Lk X O' H s e u')
    (ih : ∀ c ∈ (match d with | .tup ds => ds | .lst ds => ds | _ => []), ∀ (e : D) (v w : V) (u u' : Value), Rep X.K O H c v → Rep X.K O' H e w → RelV v u → RelV w u' → EqAt A.in1 s u u' (eqD c e)) : RcAt A s u u' (eqD d e) := by
  cases d with
  | non =>
    cases h1
    cases e with
    | non =>
      cases h2
      exact RcAt.none_none
    | bl b =>
      cases h2
      first
        | exact RcAt.none_bool _
        | (have q := RcAt.none_bool (A := A) (s := s) _; simpa [eqD] using q)
    | int b =>
      obtain ⟨t2, rfl⟩ := h2
      first
        | exact RcAt.none_int _ _
        | (have q := RcAt.none_int (A := A) (s := s) _ _; simpa [eqD] using q)
    | str b =>
      obtain ⟨t2, rfl⟩ := h2
      first
        | exact RcAt.none_str _ _
        | (have q := RcAt.none_str (A := A) (s := s) _ _; simpa [eqD] using q)
    | tup es =>
      obtain ⟨p2, ys, jts, rfl, hq2, v2, hp2, r2⟩ := h2
      first
        | exact RcAt.none_tuple hp2 hu
        | (have q := RcAt.none_tuple (A := A) (s := s) hp2 hu; simpa [eqD] using q)
    | lst es =>
      obtain ⟨p2, ys, jts, rfl, hq2, v2, hp2, r2⟩ := h2
      first
        | exact RcAt.none_list hp2 hu
        | (have q := RcAt.none_list (A := A) (s := s) hp2 hu; simpa [eqD] using q)
  | bl a =>
    cases h1
    cases e with
    | non =>
      cases h2
      first
        | exact RcAt.bool_none _
        | (have q := RcAt.bool_none (A := A) (s := s) _; simpa [eqD] using q)
    | bl b =>
      cases h2
      first
        | exact RcAt.bool_bool _ _
        | (have q := RcAt.bool_bool (A := A) (s := s) _ _; simpa [eqD] using q)
    | int b =>
      obtain ⟨t2, rfl⟩ := h2
      first
        | exact RcAt.bool_int _ _ _
        | (have q := RcAt.bool_int (A := A) (s := s) _ _ _; simpa [eqD] using q)
    | str b =>
      obtain ⟨t2, rfl⟩ := h2
      first
        | exact RcAt.bool_str _ _ _
        | (have q := RcAt.bool_str (A := A) (s := s) _ _ _; simpa [eqD] using q)
    | tup es =>
      obtain ⟨p2, ys, jts, rfl, hq2, v2, hp2, r2⟩ := h2
      first
        | exact RcAt.bool_tuple _ hp2 hu
        | (have q := RcAt.bool_tuple (A := A) (s := s) _ hp2 hu; simpa [eqD] using q)
    | lst es =>
      obtain ⟨p2, ys, jts, rfl, hq2, v2, hp2, r2⟩ := h2
      first
        | exact RcAt.bool_list _ hp2 hu
        | (have q := RcAt.bool_list (A := A) (s := s) _ hp2 hu; simpa [eqD] using q)
  | int a =>
    obtain ⟨t1, rfl⟩ := h1
    cases e with
    | non =>
      cases h2
      first
        | exact RcAt.int_none _ _
        | (have q := RcAt.int_none (A := A) (s := s) _ _; simpa [eqD] using q)
    | bl b =>
      cases h2
      first
        | exact RcAt.int_bool _ _ _
        | (have q := RcAt.int_bool (A := A) (s := s) _ _ _; simpa [eqD] using q)
    | int b =>
      obtain ⟨t2, rfl⟩ := h2
      first
        | exact RcAt.int_int _ _ _ _
        | (have q := RcAt.int_int (A := A) (s := s) _ _ _ _; simpa [eqD] using q)
    | str b =>
      obtain ⟨t2, rfl⟩ := h2
      first
        | exact RcAt.int_str _ _ _ _
        | (have q := RcAt.int_str (A := A) (s := s) _ _ _ _; simpa [eqD] using q)
    | tup es =>
      obtain ⟨p2, ys, jts, rfl, hq2, v2, hp2, r2⟩ := h2
      first
        | exact RcAt.int_tuple _ _ hp2 hu
        | (have q := RcAt.int_tuple (A := A) (s := s) _ _ hp2 hu; simpa [eqD] using q)
    | lst es =>
      obtain ⟨p2, ys, jts, rfl, hq2, v2, hp2, r2⟩ := h2
      first
        | exact RcAt.int_list _ _ hp2 hu
        | (have q := RcAt.int_list (A := A) (s := s) _ _ hp2 hu; simpa [eqD] using q)
  | str a =>
    obtain ⟨t1, rfl⟩ := h1
    cases e with
    | non =>
      cases h2
      first
        | exact RcAt.str_none _ _
        | (have q := RcAt.str_none (A := A) (s := s) _ _; simpa [eqD] using q)
    | bl b =>
      cases h2
      first
        | exact RcAt.str_bool _ _ _
        | (have q := RcAt.str_bool (A := A) (s := s) _ _ _; simpa [eqD] using q)
    | int b =>
      obtain ⟨t2, rfl⟩ := h2
      first
        | exact RcAt.str_int _ _ _ _
        | (have q := RcAt.str_int (A := A) (s := s) _ _ _ _; simpa [eqD] using q)
    | str b =>
      obtain ⟨t2, rfl⟩ := h2
      first
        | exact RcAt.str_str _ _ _ _
        | (have q := RcAt.str_str (A := A) (s := s) _ _ _ _; simpa [eqD] using q)
    | tup es =>
      obtain ⟨p2, ys, jts, rfl, hq2, v2, hp2, r2⟩ := h2
      first
        | exact RcAt.str_tuple _ _ hp2 hu
        | (have q := RcAt.str_tuple (A := A) (s := s) _ _ hp2 hu; simpa [eqD] using q)
    | lst es =>
      obtain ⟨p2, ys, jts, rfl, hq2, v2, hp2, r2⟩ := h2
      first
        | exact RcAt.str_list _ _ hp2 hu
        | (have q := RcAt.str_list (A := A) (s := s) _ _ hp2 hu; simpa [eqD] using q)
  | tup ds =>
    obtain ⟨p1, xs, its, rfl, hq1, v1, hp1, r1⟩ := h1
    cases e with
    | non =>
      cases h2
      first
        | exact RcAt.tuple_none hp1 hu
        | (have q := RcAt.tuple_none (A := A) (s := s) hp1 hu; simpa [eqD] using q)
    | bl b =>
      cases h2
      first
        | exact RcAt.tuple_bool _ hp1 hu
        | (have q := RcAt.tuple_bool (A := A) (s := s) _ hp1 hu; simpa [eqD] using q)
    | int b =>
      obtain ⟨t2, rfl⟩ := h2
      first
        | exact RcAt.tuple_int _ _ hp1 hu
        | (have q := RcAt.tuple_int (A := A) (s := s) _ _ hp1 hu; simpa [eqD] using q)
    | str b =>
      obtain ⟨t2, rfl⟩ := h2
      first
        | exact RcAt.tuple_str _ _ hp1 hu
        | (have q := RcAt.tuple_str (A := A) (s := s) _ _ hp1 hu; simpa [eqD] using q)
    | tup es =>
      obtain ⟨p2, ys, jts, rfl, hq2, v2, hp2, r2⟩ := h2
      have q := RcAt.tuples hp1 hp2 hu (items_eq r1 r2 v1 v2 ih)
      simp only [List.size_toArray] at q
      rw [tup_word (r1.length.trans v1.length) (r2.length.trans v2.length)] at q
      rw [eqD]; exact q
    | lst es =>
      obtain ⟨p2, ys, jts, rfl, hq2, v2, hp2, r2⟩ := h2
      first
        | exact RcAt.tuple_list hp1 hp2 hu
        | (have q := RcAt.tuple_list (A := A) (s := s) hp1 hp2 hu; simpa [eqD] using q)
  | lst ds =>
    obtain ⟨p1, xs, its, rfl, hq1, v1, hp1, r1⟩ := h1
    cases e with
    | non =>
      cases h2
      first
        | exact RcAt.list_none hp1 hu
        | (have q := RcAt.list_none (A := A) (s := s) hp1 hu; simpa [eqD] using q)
    | bl b =>
      cases h2
      first
        | exact RcAt.list_bool _ hp1 hu
        | (have q := RcAt.list_bool (A := A) (s := s) _ hp1 hu; simpa [eqD] using q)
    | int b =>
      obtain ⟨t2, rfl⟩ := h2
      first
        | exact RcAt.list_int _ _ hp1 hu
        | (have q := RcAt.list_int (A := A) (s := s) _ _ hp1 hu; simpa [eqD] using q)
    | str b =>
      obtain ⟨t2, rfl⟩ := h2
      first
        | exact RcAt.list_str _ _ hp1 hu
        | (have q := RcAt.list_str (A := A) (s := s) _ _ hp1 hu; simpa [eqD] using q)
    | tup es =>
      obtain ⟨p2, ys, jts, rfl, hq2, v2, hp2, r2⟩ := h2
      first
        | exact RcAt.list_tuple hp1 hp2 hu
        | (have q := RcAt.list_tuple (A := A) (s := s) hp1 hp2 hu; simpa [eqD] using q)
    | lst es =>
      obtain ⟨p2, ys, jts, rfl, hq2, v2, hp2, r2⟩ := h2
      by_cases hz : ds.length = es.length
      · have q := RcAt.lists hp1 hp2 (by simp only [List.size_toArray]; rw [← v1.length, ← v2.length, ← r1.length, ← r2.length]; exact hz) hu (items_eq r1 r2 v1 v2 ih)
        rw [List.size_toArray, ← v1.length, ← r1.length, ← eqDs_all hz] at q
        rw [eqD]; exact q
      · rw [eqD, eqDs_len hz]
        exact RcAt.lists_lengths hp1 hp2 (by simp only [List.size_toArray]; rw [← v1.length, ← v2.length, ← r1.length, ← r2.length]; simpa using hz) hu
theorem rnAt_ind (I : Inv X pins σ H s) {A : Around} (hu : A.units < cLine) {d e : D} {u u' : Value} (h1 : Lk X O H s d u) (h2 : Lk X O' H s e u')
    (ih : ∀ c ∈ (match d with | .tup ds => ds | .lst ds => ds | _ => []), ∀ (e : D) (v w : V) (u u' : Value), Rep X.K O H c v → Rep X.K O' H e w → RelV v u → RelV w u' → EqAt A.in1 s u u' (eqD c e)) : RcNeAt A s u u' (!eqD d e) := by
  cases d with
  | non =>
    cases h1
    cases e with
    | non =>
      cases h2
      exact RcNeAt.none_none
    | bl b =>
      cases h2
      first
        | exact RcNeAt.none_bool _
        | (have q := RcNeAt.none_bool (A := A) (s := s) _; simpa [eqD] using q)
    | int b =>
      obtain ⟨t2, rfl⟩ := h2
      first
        | exact RcNeAt.none_int _ _
        | (have q := RcNeAt.none_int (A := A) (s := s) _ _; simpa [eqD] using q)
    | str b =>
      obtain ⟨t2, rfl⟩ := h2
      first
        | exact RcNeAt.none_str _ _
        | (have q := RcNeAt.none_str (A := A) (s := s) _ _; simpa [eqD] using q)
    | tup es =>
      obtain ⟨p2, ys, jts, rfl, hq2, v2, hp2, r2⟩ := h2
      first
        | exact RcNeAt.none_tuple hp2 hu
        | (have q := RcNeAt.none_tuple (A := A) (s := s) hp2 hu; simpa [eqD] using q)
    | lst es =>
      obtain ⟨p2, ys, jts, rfl, hq2, v2, hp2, r2⟩ := h2
      first
        | exact RcNeAt.none_list hp2 hu
        | (have q := RcNeAt.none_list (A := A) (s := s) hp2 hu; simpa [eqD] using q)
  | bl a =>
    cases h1
    cases e with
    | non =>
      cases h2
      first
        | exact RcNeAt.bool_none _
        | (have q := RcNeAt.bool_none (A := A) (s := s) _; simpa [eqD] using q)
    | bl b =>
      cases h2
      first
        | exact RcNeAt.bool_bool _ _
        | (have q := RcNeAt.bool_bool (A := A) (s := s) _ _; simpa [eqD] using q)
    | int b =>
      obtain ⟨t2, rfl⟩ := h2
      first
        | exact RcNeAt.bool_int _ _ _
        | (have q := RcNeAt.bool_int (A := A) (s := s) _ _ _; simpa [eqD] using q)
    | str b =>
      obtain ⟨t2, rfl⟩ := h2
      first
        | exact RcNeAt.bool_str _ _ _
        | (have q := RcNeAt.bool_str (A := A) (s := s) _ _ _; simpa [eqD] using q)
    | tup es =>
      obtain ⟨p2, ys, jts, rfl, hq2, v2, hp2, r2⟩ := h2
      first
        | exact RcNeAt.bool_tuple _ hp2 hu
        | (have q := RcNeAt.bool_tuple (A := A) (s := s) _ hp2 hu; simpa [eqD] using q)
    | lst es =>
      obtain ⟨p2, ys, jts, rfl, hq2, v2, hp2, r2⟩ := h2
      first
        | exact RcNeAt.bool_list _ hp2 hu
        | (have q := RcNeAt.bool_list (A := A) (s := s) _ hp2 hu; simpa [eqD] using q)
  | int a =>
    obtain ⟨t1, rfl⟩ := h1
    cases e with
    | non =>
      cases h2
      first
        | exact RcNeAt.int_none _ _
        | (have q := RcNeAt.int_none (A := A) (s := s) _ _; simpa [eqD] using q)
    | bl b =>
      cases h2
      first
        | exact RcNeAt.int_bool _ _ _
        | (have q := RcNeAt.int_bool (A := A) (s := s) _ _ _; simpa [eqD] using q)
    | int b =>
      obtain ⟨t2, rfl⟩ := h2
      first
        | exact RcNeAt.int_int _ _ _ _
        | (have q := RcNeAt.int_int (A := A) (s := s) _ _ _ _; simpa [eqD] using q)
    | str b =>
      obtain ⟨t2, rfl⟩ := h2
      first
        | exact RcNeAt.int_str _ _ _ _
        | (have q := RcNeAt.int_str (A := A) (s := s) _ _ _ _; simpa [eqD] using q)
    | tup es =>
      obtain ⟨p2, ys, jts, rfl, hq2, v2, hp2, r2⟩ := h2
      first
        | exact RcNeAt.int_tuple _ _ hp2 hu
        | (have q := RcNeAt.int_tuple (A := A) (s := s) _ _ hp2 hu; simpa [eqD] using q)
    | lst es =>
      obtain ⟨p2, ys, jts, rfl, hq2, v2, hp2, r2⟩ := h2
      first
        | exact RcNeAt.int_list _ _ hp2 hu
        | (have q := RcNeAt.int_list (A := A) (s := s) _ _ hp2 hu; simpa [eqD] using q)
  | str a =>
    obtain ⟨t1, rfl⟩ := h1
    cases e with
    | non =>
      cases h2
      first
        | exact RcNeAt.str_none _ _
        | (have q := RcNeAt.str_none (A := A) (s := s) _ _; simpa [eqD] using q)
    | bl b =>
      cases h2
      first
        | exact RcNeAt.str_bool _ _ _
        | (have q := RcNeAt.str_bool (A := A) (s := s) _ _ _; simpa [eqD] using q)
    | int b =>
      obtain ⟨t2, rfl⟩ := h2
      first
        | exact RcNeAt.str_int _ _ _ _
        | (have q := RcNeAt.str_int (A := A) (s := s) _ _ _ _; simpa [eqD] using q)
    | str b =>
      obtain ⟨t2, rfl⟩ := h2
      first
        | exact RcNeAt.str_str _ _ _ _
        | (have q := RcNeAt.str_str (A := A) (s := s) _ _ _ _; simpa [eqD] using q)
    | tup es =>
      obtain ⟨p2, ys, jts, rfl, hq2, v2, hp2, r2⟩ := h2
      first
        | exact RcNeAt.str_tuple _ _ hp2 hu
        | (have q := RcNeAt.str_tuple (A := A) (s := s) _ _ hp2 hu; simpa [eqD] using q)
    | lst es =>
      obtain ⟨p2, ys, jts, rfl, hq2, v2, hp2, r2⟩ := h2
      first
        | exact RcNeAt.str_list _ _ hp2 hu
        | (have q := RcNeAt.str_list (A := A) (s := s) _ _ hp2 hu; simpa [eqD] using q)
  | tup ds =>
    obtain ⟨p1, xs, its, rfl, hq1, v1, hp1, r1⟩ := h1
    cases e with
    | non =>
      cases h2
      first
        | exact RcNeAt.tuple_none hp1 hu
        | (have q := RcNeAt.tuple_none (A := A) (s := s) hp1 hu; simpa [eqD] using q)
    | bl b =>
      cases h2
      first
        | exact RcNeAt.tuple_bool _ hp1 hu
        | (have q := RcNeAt.tuple_bool (A := A) (s := s) _ hp1 hu; simpa [eqD] using q)
    | int b =>
      obtain ⟨t2, rfl⟩ := h2
      first
        | exact RcNeAt.tuple_int _ _ hp1 hu
        | (have q := RcNeAt.tuple_int (A := A) (s := s) _ _ hp1 hu; simpa [eqD] using q)
    | str b =>
      obtain ⟨t2, rfl⟩ := h2
      first
        | exact RcNeAt.tuple_str _ _ hp1 hu
        | (have q := RcNeAt.tuple_str (A := A) (s := s) _ _ hp1 hu; simpa [eqD] using q)
    | tup es =>
      obtain ⟨p2, ys, jts, rfl, hq2, v2, hp2, r2⟩ := h2
      have q := RcNeAt.tuples hp1 hp2 hu (items_eq r1 r2 v1 v2 ih)
      simp only [List.size_toArray] at q
      rw [tup_word (r1.length.trans v1.length) (r2.length.trans v2.length)] at q
      rw [eqD]; exact q
    | lst es =>
      obtain ⟨p2, ys, jts, rfl, hq2, v2, hp2, r2⟩ := h2
      first
        | exact RcNeAt.tuple_list hp1 hp2 hu
        | (have q := RcNeAt.tuple_list (A := A) (s := s) hp1 hp2 hu; simpa [eqD] using q)
  | lst ds =>
    obtain ⟨p1, xs, its, rfl, hq1, v1, hp1, r1⟩ := h1
    cases e with
    | non =>
      cases h2
      first
        | exact RcNeAt.list_none hp1 hu
        | (have q := RcNeAt.list_none (A := A) (s := s) hp1 hu; simpa [eqD] using q)
    | bl b =>
      cases h2
      first
        | exact RcNeAt.list_bool _ hp1 hu
        | (have q := RcNeAt.list_bool (A := A) (s := s) _ hp1 hu; simpa [eqD] using q)
    | int b =>
      obtain ⟨t2, rfl⟩ := h2
      first
        | exact RcNeAt.list_int _ _ hp1 hu
        | (have q := RcNeAt.list_int (A := A) (s := s) _ _ hp1 hu; simpa [eqD] using q)
    | str b =>
      obtain ⟨t2, rfl⟩ := h2
      first
        | exact RcNeAt.list_str _ _ hp1 hu
        | (have q := RcNeAt.list_str (A := A) (s := s) _ _ hp1 hu; simpa [eqD] using q)
    | tup es =>
      obtain ⟨p2, ys, jts, rfl, hq2, v2, hp2, r2⟩ := h2
      first
        | exact RcNeAt.list_tuple hp1 hp2 hu
        | (have q := RcNeAt.list_tuple (A := A) (s := s) hp1 hp2 hu; simpa [eqD] using q)
    | lst es =>
      obtain ⟨p2, ys, jts, rfl, hq2, v2, hp2, r2⟩ := h2
      by_cases hz : ds.length = es.length
      · have q := RcNeAt.lists hp1 hp2 (by simp only [List.size_toArray]; rw [← v1.length, ← v2.length, ← r1.length, ← r2.length]; exact hz) hu (items_eq r1 r2 v1 v2 ih)
        rw [List.size_toArray, ← v1.length, ← r1.length, ← eqDs_all hz] at q
        rw [eqD]; exact q
      · rw [eqD, eqDs_len hz]
        exact RcNeAt.lists_lengths hp1 hp2 (by simp only [List.size_toArray]; rw [← v1.length, ← v2.length, ← r1.length, ← r2.length]; simpa using hz) hu
theorem eqAt_all (I : Inv X pins σ H s) : ∀ (n : Nat) (A : Around) (d : D), dep d ≤ n → A.units + n < cLine → ∀ (e : D) (v w : V) (u u' : Value), Rep X.K O H d v → Rep X.K O' H e w → RelV v u → RelV w u' → EqAt A s u u' (eqD d e) := by
  intro n
  induction n with
  | zero =>
    intro A d hd hu e v w u u' r1 r2 q1 q2
    refine eqAt_ind I (by omega) (lk_of I r1 q1) (lk_of I r2 q2) fun c hc => ?_
    cases d with
    | tup ds => rw [dep] at hd; omega
    | lst ds => rw [dep] at hd; omega
    | _ => simp at hc
  | succ n ihn =>
    intro A d hd hu e v w u u' r1 r2 q1 q2
    refine eqAt_ind I (by omega) (lk_of I r1 q1) (lk_of I r2 q2) fun c hc => ?_
    have hc' : dep c ≤ n := by
      cases d with
      | tup ds => rw [dep] at hd; have := deps_le (ds := ds) hc; omega
      | lst ds => rw [dep] at hd; have := deps_le (ds := ds) hc; omega
      | _ => simp at hc
    exact ihn A.in1 c hc' (by show A.units + 1 + n < cLine; omega)
end
def eqK (d e : D) : R D := if dep d ≤ 40 then .ok (.bl (eqD d e)) else .bad
def neK (d e : D) : R D := if dep d ≤ 40 then .ok (.bl (!eqD d e)) else .bad
section
variable {X : Cx}
theorem op_eqD (hu : X.A.units + 60 < cLine) : OpR X (compareOp .Eq) (fun x y H Q => ∃ O O' d e, Rep X.K O H d x ∧ Rep X.K O' H e y ∧ dep d ≤ 40 ∧ Q (.bl (eqD d e)) H) := by
  intro pins s σ H x y v u Q I rx ry h
  obtain ⟨O, O', d, e, r1, r2, hd, q⟩ := h
  refine rcAt_ind I (show X.A.units < cLine by omega) (lk_of I r1 rx) (lk_of I r2 ry) (fun c hc => ?_) X.prog X.w X.xe _ ⟨.bl _, H, I, rfl, q⟩
  have hc' : dep c ≤ 40 := by
    cases d with
    | tup ds => rw [dep] at hd; have := deps_le (ds := ds) hc; omega
    | lst ds => rw [dep] at hd; have := deps_le (ds := ds) hc; omega
    | _ => simp at hc
  exact eqAt_all I 40 X.A.in1 c hc' (by show X.A.units + 1 + 40 < cLine; omega)
theorem op_neD (hu : X.A.units + 60 < cLine) : OpR X (compareOp .NotEq) (fun x y H Q => ∃ O O' d e, Rep X.K O H d x ∧ Rep X.K O' H e y ∧ dep d ≤ 40 ∧ Q (.bl (!eqD d e)) H) := by
  intro pins s σ H x y v u Q I rx ry h
  obtain ⟨O, O', d, e, r1, r2, hd, q⟩ := h
  refine rnAt_ind I (show X.A.units < cLine by omega) (lk_of I r1 rx) (lk_of I r2 ry) (fun c hc => ?_) X.prog X.w X.xe _ ⟨.bl _, H, I, rfl, q⟩
  have hc' : dep c ≤ 40 := by
    cases d with
    | tup ds => rw [dep] at hd; have := deps_le (ds := ds) hc; omega
    | lst ds => rw [dep] at hd; have := deps_le (ds := ds) hc; omega
    | _ => simp at hc
  exact eqAt_all I 40 X.A.in1 c hc' (by show X.A.units + 1 + 40 < cLine; omega)
theorem od_eq (hu : X.A.units + 60 < cLine) : OpD X (compareOp .Eq) eqK := by
  refine ⟨_, op_eqD hu, fun ρ O σ H Q x y dx dy j rx ry h => ?_⟩
  unfold eqK at h
  by_cases hd : dep dx ≤ 40
  · rw [if_pos hd] at h; exact ⟨O, O, dx, dy, rx, ry, hd, fin h (rep_bl _)⟩
  · rw [if_neg hd] at h; exact h.elim
theorem od_ne (hu : X.A.units + 60 < cLine) : OpD X (compareOp .NotEq) neK := by
  refine ⟨_, op_neD hu, fun ρ O σ H Q x y dx dy j rx ry h => ?_⟩
  unfold neK at h
  by_cases hd : dep dx ≤ 40
  · rw [if_pos hd] at h; exact ⟨O, O, dx, dy, rx, ry, hd, fin h (rep_bl _)⟩
  · rw [if_neg hd] at h; exact h.elim
end
end Pu
namespace Pu
open PySem PySem.Spec L2
open PyProof.Rows hiding St
section
variable {prog : Program} {w : World} {A : Around} {E : Value → Shared → Prop} {s : Shared}
theorem sliceApplied_rev {sl : Addr} {u : Tok} {n : Nat} {Q : Int × Int × Nat → Shared → Prop} (hs : s.heap.IsSliceOf sl .none .none (.int (-1) u)) (h : Q ((n : Int) - 1, -1, n) s) :
    wpAny (model prog w) A (Builtin.Slice.sliceApplied (.ref sl) (pure (n : Int))) Q E s := by
  obtain ⟨os, hos, hcs, hds⟩ := id hs
  unfold Builtin.Slice.sliceApplied Builtin.Slice.sliceFields
  refine wpAny_bind (wpAny_bind (wpAny_field hos hds (x := .none) rfl (wpAny_bind (wpAny_field hos hds (x := .none) rfl (wpAny_bind (wpAny_field hos hds (x := .int (-1) u) rfl (wpAny_pure ?_)))))))
  refine wpAny_bind (slicePart_int ?_)
  show wpAny _ _ (if ((-1 : Int) == 0) = true then _ else _) _ _ s
  rw [if_neg (by decide)]
  refine wpAny_bind (slicePart_none (wpAny_bind (slicePart_none (wpAny_bind (wpAny_pure ?_)))))
  show wpAny _ _ (match Builtin.Slice.sliceAdjust none none (-1) (n : Int) with | (lo, hi) => pure (lo, (-1 : Int), Builtin.Slice.slicePlaces lo hi (-1))) _ _ s
  have e1 : Builtin.Slice.sliceAdjust none none (-1) (n : Int) = ((n : Int) - 1, -1) := by simp [Builtin.Slice.sliceAdjust]
  rw [e1]
  show wpAny _ _ (pure ((n : Int) - 1, (-1 : Int), Builtin.Slice.slicePlaces ((n : Int) - 1) (-1) (-1))) _ _ s
  have e2 : Builtin.Slice.slicePlaces ((n : Int) - 1) (-1) (-1) = n := by
    unfold Builtin.Slice.slicePlaces
    rw [if_neg (by decide)]
    by_cases hn : n = 0
    · subst hn; rfl
    · rw [if_pos (by omega), show (-(-1) : Int) = 1 by decide, Int.ediv_one]; omega
  rw [e2]
  exact wpAny_pure h
theorem pick_rev (xs : Array Value) : ((List.range xs.size).filterMap fun (m : Nat) => xs[((xs.size : Int) - 1 + (m : Int) * (-1)).toNat]?).toArray = xs.toList.reverse.toArray := by
  congr 1
  apply List.ext_getElem?
  intro i
  by_cases hi : i < xs.size
  · rw [List.getElem?_reverse (by simpa using hi)]
    have key : ∀ (l : List Nat), (∀ m ∈ l, m < xs.size) → l.filterMap (fun (m : Nat) => xs[((xs.size : Int) - 1 + (m : Int) * (-1)).toNat]?) = l.map fun m => xs.getD (xs.size - 1 - m) default := by
      intro l hl
      induction l with
      | nil => rfl
      | cons m l ih =>
        have hm := hl m List.mem_cons_self
        have e : ((xs.size : Int) - 1 + (m : Int) * (-1)).toNat = xs.size - 1 - m := by omega
        have hlt : xs.size - 1 - m < xs.size := by omega
        rw [List.filterMap_cons, e, List.map_cons, ih fun k hk => hl k (List.mem_cons_of_mem _ hk)]
        simp [hlt]
    rw [key _ (fun m hm => List.mem_range.mp hm), List.getElem?_map, List.getElem?_range hi]
    have hlt : xs.size - 1 - i < xs.size := by omega
    simp [hlt]
  · have h1 : xs.toList.reverse[i]? = none := List.getElem?_eq_none (by simpa using hi)
    rw [h1]
    apply List.getElem?_eq_none
    exact Nat.le_trans (List.length_filterMap_le _ _) (by simpa using hi)
theorem getItem_tuple_rev {t sl : Addr} {items : Array Value} {u : Tok} {Q : Value → Shared → Prop} (ht : IsTup s.heap t items) (hs : s.heap.IsSliceOf sl .none .none (.int (-1) u))
    (h : Q (.ref s.heap.objs.size) { s with heap := s.heap.push { cls := .type "tuple", data := .seq items.toList.reverse.toArray } }) (hsz : items.size ≤ sizeLine) : wpAny (model prog w) A (getItem (.ref t) (.ref sl)) Q E s := by
  have htake : sizeOk (.seq items.toList.reverse.toArray) := by
    show items.toList.reverse.toArray.size ≤ sizeLine
    rw [List.size_toArray, List.length_reverse, Array.length_toList]
    exact hsz
  obtain ⟨os, hos, hcs, hds⟩ := id hs
  have hTs : s.TypeIs (.ref sl) "slice" := ⟨os, hos, hcs⟩
  unfold getItem
  try with_reducible refine wpAny_holding ?_
  first | refine wpAny_bind (wpAny_pure ?_) | skip
  refine wpAny_bind (wpAny_sequenceKey ht.typeIs (by decide) ?_)
  refine wpAny_bind (wpAny_callSpecial?_slot (name := Str.ofString "__getitem__") ht.typeIs PyProof.Rows.slot_tuple_getitem
    (wpAny_call_entry PyProof.Rows.slot_tuple_getitem ht.typeIs entry_tuple_getitem ?_ (args_tuple_getitem _ _)))
  show wpAny _ _ (Builtin.Tuple.tupleItemsOf (.ref t) >>= _) _ _ s
  refine wpAny_bind (tupleItemsOf_ ht ?_)
  refine wpAny_bind (wpAny_typeOf hTs ?_)
  rw [if_pos (by decide)]
  refine wpAny_bind (sliceApplied_rev hs ?_)
  show wpAny _ _ (if (((items.size : Int) - 1 == 0) && ((-1 : Int) == 1) && (items.size == items.size)) = true then _ else _) _ _ s
  rw [if_neg (by simp), pick_rev]
  first
    | exact wpAny_bind (m := Builtin.Tuple.tupleExact _) (wpAny_newObj_type (wpAny_pure ⟨_, rfl, wpAny_pure h⟩) htake)
    | exact wpAny_bind (m := Builtin.Tuple.tupleExact _) (wpAny_newObj_type (wpAny_bind (wpAny_pure (wpAny_pure ⟨_, rfl, wpAny_pure h⟩))) htake)
    | exact wpAny_bind (wpAny_bind (m := Builtin.Tuple.tupleExact _) (wpAny_newObj_type (wpAny_pure (wpAny_pure ⟨_, rfl, wpAny_pure h⟩)) htake))
    | exact wpAny_bind (wpAny_bind (m := Builtin.Tuple.tupleExact _) (wpAny_newObj_type (wpAny_pure ⟨_, rfl, wpAny_pure h⟩) htake))
end
section
variable {X : Cx} {e : Expr} {te : TE} {pos p2 p3 p4 : Pos} {j : Nat} {f : Rho → R D}
theorem Vals.rev {xs : List V} {us : List Value} (h : Vals xs us) : Vals xs.reverse us.reverse := by
  induction h with
  | nil => exact .nil
  | cons r _ ih =>
    simp only [List.reverse_cons]
    exact ih.append (.cons r .nil)
theorem pe_rev {kk} (he : PE X e te) : PE X (.Subscript e (.Slice none none (some (.UnaryOp .USub (.Constant (.int 1) kk p3) p4)) p2) pos) (fun σ H Q => te σ H fun x H1 => ∃ a xs, x = .ref a ∧ SqT X.K H1 a xs ∧ ∀ p, H1 p = none → Q (.ref p) (upd H1 p (.tup xs.reverse))) := by
  intro pins s σ H Q I h
  refine Subscript_ (thn (he pins s σ H _ I h) fun v s1 ⟨x, H1, I1, r1, q1⟩ => ?_)
  obtain ⟨a, xs, rfl, hq, q⟩ := q1
  cases r1
  refine wpAny_Slice ?_
  rw [evalPart_none, evalPart_some]
  refine wpAny_pure (wpAny_pure ?_)
  refine thn (pe_un (X := X) un_neg pe_int pins s1 σ H1 (fun y H2 => y = .int (-1) ∧ H2 = H1) I1 ⟨1, rfl, rfl, rfl⟩) fun vs s2 ⟨y, H2, I2, r2, ey, eH⟩ => ?_
  subst ey
  subst eH
  obtain ⟨t, rfl⟩ := r2
  have I4 : Inv X pins σ H2 { s2 with heap := s2.heap.push { cls := .type "slice", data := .fields #[.none, .none, .int (-1) t] } } := I2.kept (t' := s2.toks) fun b ob q => Heap.get?_push_of_some _ q
  obtain ⟨its, rv, ht, hz⟩ := I4.tuple hq
  have hlen := rv.length
  show wpAny (model X.prog X.w) X.A (subscriptTail e (.Slice none none (some (.UnaryOp .USub (.Constant (.int 1) kk p3) p4)) p2) (.ref a) (.ref s2.heap.objs.size)) (EP X pins σ Q) X.xe { s2 with heap := s2.heap.push { cls := .type "slice", data := .fields #[.none, .none, .int (-1) t] } }
  refine tail_any (ops := [.ref a, .ref s2.heap.objs.size]) ht.typeIs slot_tuple_getitem.lookup (getItem_tuple_rev ht (Heap.IsSliceOf.new ..) ?_ (by rw [List.size_toArray]; omega)) (by with_unfolding_all rfl)
  refine ⟨.ref _, _, I4.laid (t' := s2.toks) (o := .tup xs.reverse) (fun b ob q => Heap.get?_push_of_some _ q) (Nat.le_refl _) ?_, rfl, q _ (I4.hok.fresh (Nat.le_refl _))⟩
  exact ⟨by rw [List.length_reverse]; exact hz, _, Vals.rev rv, IsTup.new _ _⟩
def revD : D → R D
  | .tup ds => .ok (.tup ds.reverse)
  | _ => .bad
def revV (f : Rho → R D) : Rho → R D := fun ρ => (f ρ).bind revD
theorem de_rev {kk} (he : DE X e f) : DE X (.Subscript e (.Slice none none (some (.UnaryOp .USub (.Constant (.int 1) kk p3) p4)) p2) pos) (revV f) := by
  refine PE.imp (pe_rev he) fun σ H Q h => ?_
  obtain ⟨ρ, O, j, h⟩ := h
  refine go j h fun d v H1 e1 s1 r1 j1 h1 => ?_
  cases d with
  | tup ds =>
    obtain ⟨a, xs, rfl, hq, rs⟩ := r1.tup
    exact ⟨a, xs, rfl, hq, fun p hp => h1 _ _ (Same.upd hp) (Rep.new_tup hp rs.reverse)⟩
  | _ => exact h1.elim
def catD : D → D → R D
  | .int i, .int j => .ok (.int (i + j))
  | .tup xs, .tup ys => if 0 < xs.length ∧ xs.length + ys.length ≤ 1000000 then .ok (.tup (xs ++ ys)) else .bad
  | _, _ => .bad
theorem od_cat : OpD X (binaryOp .Add) catD := by
  refine ⟨_, OpR.or op_add op_catT, fun ρ O σ H Q x y dx dy j0 rx ry h => ?_⟩
  cases dx <;> cases dy <;> first
    | exact h.elim
    | skip
  · rename_i i j
    exact .inl ⟨i, j, rx.int, ry.int, fin h (rep_int _)⟩
  · rename_i xs ys
    have h : good X (rD X) O (if 0 < xs.length ∧ xs.length + ys.length ≤ 1000000 then .ok (.tup (xs ++ ys)) else .bad) σ H Q := h
    by_cases hc : 0 < xs.length ∧ xs.length + ys.length ≤ 1000000
    · rw [if_pos hc] at h
      obtain ⟨a, us, rfl, ha, r1⟩ := rx.tup
      obtain ⟨b, ws, rfl, hb, r2⟩ := ry.tup
      refine .inr ⟨a, b, us, ws, rfl, rfl, ha, hb, fun z => ?_, ?_, fun z => ?_, fun z l hl => ?_⟩
      · have h1 := r1.length
        have h2 := hc.1
        rw [z] at h1
        rw [h1] at h2
        exact Nat.lt_irrefl _ h2
      · rw [← r1.length, ← r2.length]; exact Nat.le_trans hc.2 sizeLine_ge
      · subst z
        have : ys = [] := List.eq_nil_of_length_eq_zero r2.length
        subst this
        rw [List.append_nil] at h
        exact fin h (rep_tup ha r1)
      · exact h _ _ (Same.upd hl) (Rep.new_tup hl (r1.append r2))
    · rw [if_neg hc] at h; exact h.elim
end
end Pu
namespace Pu
open PySem PySem.Spec L2
open PyProof.Rows hiding St
def keyD : D → Option Key
  | .int i => some (Sum.inl i)
  | .str x => some (Sum.inr x)
  | _ => none
def valD (kvs : List (Key × D)) (k : Key) : Option D := (kvs.find? fun kv => decide (kv.1 = k)).map (·.2)
def putD (kvs : List (Key × D)) (k : Key) (d : D) : List (Key × D) := if (kvs.any fun kv => decide (kv.1 = k)) = true then kvs.map (fun kv => if kv.1 = k then (kv.1, d) else kv) else kvs ++ [(k, d)]
section
variable {K : PySem.W.Frag} {O : Addr → Prop} {H : Hp}
theorem KReps.nil : KReps K O H [] [] := ⟨rfl, .nil⟩
theorem KReps.nil_inv {ys : List (Key × V)} (h : KReps K O H [] ys) : ys = [] := by
  have := h.1
  cases ys with
  | nil => rfl
  | cons y ys => cases this
theorem KReps.cons {k : Key} {d : D} {v : V} {kvs : List (Key × D)} {ys : List (Key × V)} (r : Rep K O H d v) (h : KReps K O H kvs ys) : KReps K O H ((k, d) :: kvs) ((k, v) :: ys) := ⟨by simp [h.1], .cons r h.2⟩
theorem KReps.cons_inv {k : Key} {d : D} {kvs : List (Key × D)} {ys : List (Key × V)} (h : KReps K O H ((k, d) :: kvs) ys) : ∃ v t, ys = (k, v) :: t ∧ Rep K O H d v ∧ KReps K O H kvs t := by
  obtain ⟨h1, h2⟩ := h
  cases ys with
  | nil => cases h1
  | cons y t =>
    obtain ⟨k', v⟩ := y
    have e1 : k = k' ∧ kvs.map (·.1) = t.map (·.1) := by simpa using h1
    obtain ⟨rfl, e2⟩ := e1
    obtain ⟨x, r, e3, r1, r2⟩ := h2.cons_inv
    have e4 : v = x ∧ t.map (·.2) = r := by simpa using e3
    obtain ⟨rfl, rfl⟩ := e4
    exact ⟨v, t, rfl, r1, e2, r2⟩
theorem KReps.length {kvs : List (Key × D)} {ys : List (Key × V)} (h : KReps K O H kvs ys) : kvs.length = ys.length := by simpa using congrArg List.length h.1
theorem KReps.val : ∀ {kvs : List (Key × D)} {ys : List (Key × V)} (k : Key), KReps K O H kvs ys → (valD kvs k = none ∧ valV ys k = none) ∨ ∃ d v, valD kvs k = some d ∧ valV ys k = some v ∧ Rep K O H d v
  | [], ys, k, h => by rw [h.nil_inv]; exact .inl ⟨rfl, rfl⟩
  | (k', d) :: kvs, ys, k, h => by
    obtain ⟨v, t, rfl, r, ht⟩ := h.cons_inv
    by_cases e : k' = k
    · exact .inr ⟨d, v, by simp [valD, e], by simp [valV, e], r⟩
    · rcases KReps.val k ht with ⟨h1, h2⟩ | ⟨d', v', h1, h2, h3⟩
      · exact .inl ⟨by simpa [valD, e] using h1, by simpa [valV, e] using h2⟩
      · exact .inr ⟨d', v', by simpa [valD, e] using h1, by simpa [valV, e] using h2, h3⟩
theorem KReps.app : ∀ {kvs : List (Key × D)} {ys : List (Key × V)} {k : Key} {d : D} {v : V}, KReps K O H kvs ys → Rep K O H d v → KReps K O H (kvs ++ [(k, d)]) (ys ++ [(k, v)])
  | [], ys, k, d, v, h, r => by rw [h.nil_inv]; exact .cons r .nil
  | (k', d') :: kvs, ys, k, d, v, h, r => by
    obtain ⟨v', t, rfl, r', ht⟩ := h.cons_inv
    exact .cons r' (KReps.app ht r)
theorem KReps.repl : ∀ {kvs : List (Key × D)} {ys : List (Key × V)} {k : Key} {d : D} {v : V}, KReps K O H kvs ys → Rep K O H d v → KReps K O H (kvs.map fun kv => if kv.1 = k then (kv.1, d) else kv) (ys.map fun kv => if kv.1 = k then (kv.1, v) else kv)
  | [], ys, k, d, v, h, r => by rw [h.nil_inv]; exact .nil
  | (k', d') :: kvs, ys, k, d, v, h, r => by
    obtain ⟨v', t, rfl, r', ht⟩ := h.cons_inv
    have ih := KReps.repl (k := k) ht r
    by_cases e : k' = k
    · simp only [List.map_cons, if_pos e]; exact .cons r ih
    · simp only [List.map_cons, if_neg e]; exact .cons r' ih
theorem KReps.put {kvs : List (Key × D)} {ys : List (Key × V)} {k : Key} {d : D} {v : V} (h : KReps K O H kvs ys) (r : Rep K O H d v) : KReps K O H (putD kvs k d) (putK ys k v) := by
  have e : (kvs.any fun kv => decide (kv.1 = k)) = (ys.any fun kv => decide (kv.1 = k)) := by
    have h1 : (kvs.any fun kv => decide (kv.1 = k)) = (kvs.map (·.1)).any fun x => decide (x = k) := by rw [List.any_map]; rfl
    have h2 : (ys.any fun kv => decide (kv.1 = k)) = (ys.map (·.1)).any fun x => decide (x = k) := by rw [List.any_map]; rfl
    rw [h1, h2, h.1]
  unfold putD putK
  rw [e]
  split
  · exact h.repl r
  · exact h.app r
theorem KReps.go {O1 : Addr → Prop} {H1 : Hp} (r : Rch K O H O1 H1) {kvs : List (Key × D)} {ys : List (Key × V)} (h : KReps K O H kvs ys) : KReps K O1 H1 kvs ys := ⟨h.1, h.2.go r⟩
theorem keyD_V {d : D} {k : Key} {v : V} (e : keyD d = some k) (r : Rep K O H d v) : v = kV k := by
  cases d with
  | int i => cases e; exact r.int
  | str x => cases e; exact r.str
  | _ => cases e
end
section
variable {X : Cx} {e e1 e2 : Expr} {f g : Rho → R D} {pos : Pos}
theorem pe_dnew' : PE X (.Dict [] [] pos) (fun _ H Q => ∀ p, H p = none → X.K.lookup p = none → Q (.ref p) (upd H p (.dK []))) := fun pins s σ H Q I h =>
  wpAny_Dict_empty ⟨.ref s.heap.objs.size, _, I.laid (a := s.heap.objs.size) (o := .dK []) (t' := s.toks) (fun _ _ q => Heap.get?_push_of_some _ q) (Nat.le_refl _) (dk_empty s.heap I.big), rfl, h _ (I.hok.fresh (Nat.le_refl _)) (Inv.newK I)⟩
theorem ds_newd (i : Nat) {x : Str} {pos' p2 : Pos} (hN : X.N.Nodup) (hi : X.N[i]? = some x := by rfl) (hx : Loc X.env.scope x := by first | exact Or.inl rfl | exact Or.inr rfl) (hs : swapsWith (.Dict [] [] p2) (some (.Name x pos')) pos.line X.env = pure false := by rfl)
    (hf : X.fn x = true ∨ X.env.scope.names.lookup x = some .local := by first | exact .inl rfl | exact .inr rfl) : DS X (.Assign [.Name x pos'] (.Dict [] [] p2) pos) (fun ρ => .nx (ρ.set i (some (.dic [])))) := by
  refine PS.imp (ps_set hN hi hx pe_dnew' hs hf) fun σ H E h => ?_
  obtain ⟨H0, O0, O, ρ, j, h⟩ := h
  intro p hp hk
  obtain ⟨j2, r2⟩ := j.own (List.getElem?_eq_some_iff.mp hi).1 (o := .dK []) (en := .dic []) hp hk rfl ⟨p, [], rfl, .inr rfl, upd_same, .nil⟩
  exact h _ _ _ j2 r2
theorem noE_good {α γ δ : Type} {Rm : (Addr → Prop) → Hp → γ → δ → Prop} {O : Addr → Prop} {σ : St} {H : Hp} {Q : δ → Hp → Prop} {r : R α} {k : α → R γ} (h : good X Rm O ((noE r).bind k) σ H Q) : good X Rm O (r.bind k) σ H Q := by
  cases r with
  | ok a => exact h
  | err c => exact h.elim
  | bad => exact h
def dgetV (i : Nat) (f g : Rho → R D) : Rho → R D := fun ρ => (noE (f ρ)).bind fun k => (noE (g ρ)).bind fun x => match ρ[i]?, keyD k with
  | some (some (.dic kvs)), some kk => .ok ((valD kvs kk).getD x)
  | _, _ => .bad
theorem de_dget (i : Nat) {x : Str} {px apos cpos : Pos} (hu : X.A.units + 1 < cLine) (h1 : DE X e1 f) (h2 : DE X e2 g) (hN : X.N[i]? = some x := by rfl) (hv : Vis X.env.scope x := by first | exact Or.inl rfl | exact Or.inr (Or.inl rfl) | exact Or.inr (Or.inr rfl))
    (hd : (x == ("__debug__" : Str)) = false := by decide) (hcd : (x == ("__classdict__" : Str)) = false := by decide) (m : M2 X (.Name x px) "get" apos e1 e2 cpos := by exact ⟨rfl, rfl, rfl, rfl⟩) :
    DE X (.Call (.Attribute (.Name x px) "get" apos) [e1, e2] [] cpos) (dgetV i f g) := by
  refine PE.imp (pe_dget2 hu (pe_var hN hv hd hcd) h1 h2 m) fun σ H Q h => ?_
  obtain ⟨ρ, O, j, h⟩ := h
  cases q : ρ[i]? with
  | none =>
    exfalso
    unfold dgetV at h
    cases e1 : f ρ with
    | bad => rw [e1] at h; exact h
    | err c => rw [e1] at h; exact h
    | ok k =>
      cases e2 : g ρ with
      | bad => rw [e1] at h; simp only [noE_ok, R.bind_ok, e2] at h; exact h
      | err c => rw [e1] at h; simp only [noE_ok, R.bind_ok, e2] at h; exact h
      | ok z => rw [e1] at h; simp only [noE_ok, R.bind_ok, e2, q] at h; exact h
  | some oe =>
    have isd : (∃ kvs, oe = some (.dic kvs)) ∨ ¬ ∃ kvs, oe = some (.dic kvs) := Classical.em _
    rcases isd with ⟨kvs, rfl⟩ | nd
    · obtain ⟨v, hv1, a, ys, rfl, hO, hH, kr⟩ := j.env.get i _ q
      refine ⟨.ref a, hv1, a, rfl, .inl ⟨ys, .inl hH⟩, ?_⟩
      refine go j (noE_good h) fun dk y H1 _ s1 r1 j1 h1 => ?_
      refine go j1 (noE_good h1) fun dz z H2 _ s2 r2 j2 h2 => ?_
      rw [q] at h2
      cases ek : keyD dk with
      | none => rw [ek] at h2; exact h2.elim
      | some kk =>
        rw [ek] at h2
        have h2 : good X (rD X) O (.ok ((valD kvs kk).getD dz)) σ H2 Q := h2
        have hH2 := s2 _ _ (s1 _ _ hH)
        have kr2 := (kr.go (Same.rch s1)).go (Same.rch s2)
        cases keyD_V ek r1
        refine ⟨valV ys kk, DGet.k hH2, ?_⟩
        rcases kr2.val kk with ⟨e3, e4⟩ | ⟨d', v', e3, e4, r3⟩
        · rw [e3] at h2; rw [e4]; exact fin h2 r2
        · rw [e3] at h2; rw [e4]; exact fin h2 r3
    · exfalso
      unfold dgetV at h
      cases e1 : f ρ with
      | bad => rw [e1] at h; exact h
      | err c => rw [e1] at h; exact h
      | ok k =>
        cases e2 : g ρ with
        | bad => rw [e1] at h; simp only [noE_ok, R.bind_ok, e2] at h; exact h
        | err c => rw [e1] at h; simp only [noE_ok, R.bind_ok, e2] at h; exact h
        | ok z =>
          rw [e1] at h
          simp only [noE_ok, R.bind_ok, e2, q] at h
          cases oe with
          | none => exact h
          | some en =>
            cases en with
            | dic kvs => exact nd ⟨kvs, rfl⟩
            | val _ => exact h
            | lst _ => exact h
            | obj _ => exact h
def dputS (i : Nat) (f g : Rho → R D) : Rho → So := fun ρ => ofR (g ρ) ρ fun d => ofR (noE (f ρ)) ρ fun k => match ρ[i]?, keyD k with
  | some (some (.dic kvs)), some kk => if kvs.length < 1000000 then .nx (ρ.set i (some (.dic (putD kvs kk d)))) else .bad
  | _, _ => .bad
theorem ds_dput (i : Nat) {x : Str} {px pos' : Pos} (hu : X.A.units + 1 < cLine) (h1 : DE X e1 f) (h2 : DE X e2 g) (hN : X.N[i]? = some x := by rfl) (hv : Vis X.env.scope x := by first | exact Or.inl rfl | exact Or.inr (Or.inl rfl) | exact Or.inr (Or.inr rfl))
    (hd : (x == ("__debug__" : Str)) = false := by decide) (hcd : (x == ("__classdict__" : Str)) = false := by decide) (hs : swapsWith e2 (some (.Subscript (.Name x px) e1 pos')) pos.line X.env = pure false := by rfl) :
    DS X (.Assign [.Subscript (.Name x px) e1 pos'] e2 pos) (dputS i f g) := by
  refine PS.imp (ps_dput hu (pe_var hN hv hd hcd) h1 h2 hs) fun σ H E h => ?_
  obtain ⟨H0, O0, O, ρ, j, h⟩ := h
  unfold dputS ofR at h
  refine ⟨ρ, O, j.inn, ?_⟩
  cases q2 : g ρ with
  | bad => rw [q2] at h; exact h
  | err c => rw [q2] at h; exact h σ H O j
  | ok d =>
    rw [q2] at h
    intro v H1 s1 rv
    cases q1 : f ρ with
    | bad => simp only [q1] at h; exact h.elim
    | err c => simp only [q1] at h; exact h.elim
    | ok k =>
      simp only [q1, noE_ok] at h
      cases q : ρ[i]? with
      | none => simp only [q] at h; exact h.elim
      | some oe =>
        cases oe with
        | none => simp only [q] at h; exact h.elim
        | some en =>
          cases en with
          | val _ => simp only [q] at h; exact h.elim
          | lst _ => simp only [q] at h; exact h.elim
          | obj _ => simp only [q] at h; exact h.elim
          | dic kvs =>
            simp only [q] at h
            cases ek : keyD k with
            | none => simp only [ek] at h; exact h.elim
            | some kk =>
              simp only [ek] at h
              by_cases hl : kvs.length < 1000000
              · simp only [if_pos hl] at h
                have j1 := j.grow s1
                obtain ⟨w, hw, a, ys, rfl, hO, hH, kr⟩ := j1.inn.env.get i _ q
                refine ⟨.ref a, hw, ρ, O, j1.inn, ?_⟩
                rw [q1]
                intro y H2 s2 ry
                have j2 := j1.grow s2
                cases keyD_V ek ry
                have hH2 := s2 _ _ hH
                have kr2 := kr.go (Same.rch s2)
                refine ⟨a, _, rfl, DPut.k hH2 (by have := sizeLine_gt; rw [← kr.length]; omega), ?_⟩
                obtain ⟨j3, r3⟩ := j2.chg (o := .dK (putK ys kk v)) (en := .dic (putD kvs kk d)) q rfl hw hO hH2 trivial rfl fun r => ⟨a, _, rfl, hO, upd_same, (kr2.put (rv.same s2)).go r⟩
                exact h _ _ _ j3 (((Same.rch s1).trans (Same.rch s2)).trans r3)
              · simp only [if_neg hl] at h; exact h.elim
end
end Pu
namespace Pu
open PySem PySem.W PyProof.Rows
def Sat {α : Type} (n : Nat) (lt : Nat → Nat → Bool) : KasT α → (α → Prop) → Prop
  | .ret a, Q => Q a
  | .ask i j k, Q => i < n ∧ j < n ∧ Sat n lt (k (lt i j)) Q
section
variable {n : Nat} {lt : Nat → Nat → Bool}
theorem Sat.bind {α β : Type} {f : α → KasT β} {Q : β → Prop} : ∀ {t : KasT α}, Sat n lt t (fun a => Sat n lt (f a) Q) → Sat n lt (t.bind f) Q
  | .ret _, h => h
  | .ask i j k, h => ⟨h.1, h.2.1, Sat.bind h.2.2⟩
theorem Sat.mono {α : Type} {Q Q' : α → Prop} (w : ∀ a, Q a → Q' a) : ∀ {t : KasT α}, Sat n lt t Q → Sat n lt t Q'
  | .ret _, h => w _ h
  | .ask _ _ _, h => ⟨h.1, h.2.1, Sat.mono w h.2.2⟩
theorem Sat.wp {α : Type} {cmp : Nat → Nat → (Bool → Shared → Prop) → Shared → Prop} {s : Shared} {P : α → Prop} {Q : α → Shared → Prop} (hc : ∀ i j C, i < n → j < n → C (lt i j) s → cmp i j C s) (hQ : ∀ a, P a → Q a s) :
    ∀ {t : KasT α}, Sat n lt t P → t.kasWp cmp Q s
  | .ret _, h => hQ _ h
  | .ask i j k, h => hc i j _ h.1 h.2.1 (Sat.wp hc hQ h.2.2)
structure Ord (n : Nat) (lt : Nat → Nat → Bool) : Prop where
  tr : ∀ a b c, a < n → b < n → c < n → lt a b = true → lt b c = true → lt a c = true
  tot : ∀ a b, a < n → b < n → a ≠ b → lt a b = false → lt b a = true
structure Pm (n : Nat) (p : Array Nat) : Prop where
  size : p.size = n
  perm : p.toList.Perm (List.range n)
theorem Pm.bd {p : Array Nat} (h : Pm n p) {i : Nat} (hi : i < n) : p.getD i 0 < n := by
  have hs : i < p.size := by rw [h.size]; exact hi
  have : p.getD i 0 = p[i] := by simp [Array.getD, hs]
  rw [this]
  have hm : p[i] ∈ p.toList := by simp
  exact List.mem_range.mp (h.perm.mem_iff.mp hm)
theorem Pm.ne {p : Array Nat} (h : Pm n p) {i j : Nat} (hi : i < n) (hj : j < n) (hij : i ≠ j) : p.getD i 0 ≠ p.getD j 0 := by
  have hs : i < p.size := by rw [h.size]; exact hi
  have hs2 : j < p.size := by rw [h.size]; exact hj
  have e1 : p.getD i 0 = p.toList[i]'(by simpa using hs) := by simp [Array.getD, hs]
  have e2 : p.getD j 0 = p.toList[j]'(by simpa using hs2) := by simp [Array.getD, hs2]
  rw [e1, e2]
  have nd : p.toList.Nodup := h.perm.nodup_iff.mpr List.nodup_range
  intro z
  exact hij ((List.getElem_inj nd).mp z)
theorem Pm.of {p q : Array Nat} (h : Pm n p) (w : q.Perm p) : Pm n q :=
  ⟨by rw [← h.size]; exact w.size_eq, (Array.perm_iff_toList_perm.mp w).trans h.perm⟩
def S (lt : Nat → Nat → Bool) (p : Array Nat) (k : Nat) : Prop := ∀ i j, i < j → j < k → lt (p.getD i 0) (p.getD j 0) = true
def De (lt : Nat → Nat → Bool) (p : Array Nat) (k : Nat) : Prop := ∀ i j, i < j → j < k → lt (p.getD j 0) (p.getD i 0) = true
theorem S.one {p : Array Nat} : S lt p 1 := fun i j h1 h2 => by omega
theorem S.ext (o : Ord n lt) {p : Array Nat} (h : Pm n p) {a : Nat} (ha : 1 ≤ a) (hn : a < n) (s : S lt p a) (e : lt (p.getD (a - 1) 0) (p.getD a 0) = true) : S lt p (a + 1) := fun i j h1 h2 => by
  by_cases hj : j < a
  · exact s i j h1 hj
  · have ej : j = a := by omega
    subst ej
    by_cases hi : i = j - 1
    · rw [hi]; exact e
    · exact o.tr _ _ _ (h.bd (by omega)) (h.bd (by omega)) (h.bd hn) (s i (j - 1) (by omega) (by omega)) e
theorem De.ext (o : Ord n lt) {p : Array Nat} (h : Pm n p) {a : Nat} (ha : 1 ≤ a) (hn : a < n) (s : De lt p a) (e : lt (p.getD a 0) (p.getD (a - 1) 0) = true) : De lt p (a + 1) := fun i j h1 h2 => by
  by_cases hj : j < a
  · exact s i j h1 hj
  · have ej : j = a := by omega
    subst ej
    by_cases hi : i = j - 1
    · rw [hi]; exact e
    · exact o.tr _ _ _ (h.bd hn) (h.bd (by omega)) (h.bd (by omega)) e (s i (j - 1) (by omega) (by omega))
theorem sat_asc (o : Ord n lt) {p : Array Nat} (h : Pm n p) : ∀ (f a : Nat), 1 ≤ a → a + f ≤ n → S lt p a → Sat n lt (kas_asc p f a) (fun m => a ≤ m ∧ m ≤ a + f ∧ S lt p m ∧ (m < a + f → lt (p.getD m 0) (p.getD (m - 1) 0) = true))
  | 0, a, h1, h2, s => ⟨Nat.le_refl _, Nat.le_refl _, s, fun z => absurd z (by omega)⟩
  | f + 1, a, h1, h2, s => by
    refine ⟨h.bd (by omega), h.bd (by omega), ?_⟩
    cases e : lt (p.getD a 0) (p.getD (a - 1) 0) with
    | true => exact ⟨Nat.le_refl _, by omega, s, fun _ => e⟩
    | false =>
      have e' := o.tot _ _ (h.bd (by omega)) (h.bd (by omega)) (h.ne (i := a) (j := a - 1) (by omega) (by omega) (by omega)) e
      show Sat n lt (kas_asc p f (a + 1)) _
      refine Sat.mono (fun m ⟨m1, m2, m3, m4⟩ => ⟨by omega, by omega, m3, fun z => m4 (by omega)⟩) (sat_asc o h f (a + 1) (by omega) (by omega) (S.ext o h h1 (by omega) s e'))
theorem sat_desc (o : Ord n lt) {p : Array Nat} (h : Pm n p) : ∀ (f a : Nat), 1 ≤ a → a + f ≤ n → De lt p a → Sat n lt (kas_desc f p a 0) (fun r => r.1 = p ∧ r.2.2 = 0 ∧ a ≤ r.2.1 ∧ r.2.1 ≤ a + f ∧ De lt p r.2.1)
  | 0, a, h1, h2, s => ⟨rfl, rfl, Nat.le_refl _, Nat.le_refl _, s⟩
  | f + 1, a, h1, h2, s => by
    refine ⟨h.bd (by omega), h.bd (by omega), ?_⟩
    cases e : lt (p.getD a 0) (p.getD (a - 1) 0) with
    | true =>
      show Sat n lt (kas_desc f p (a + 1) 0) _
      exact Sat.mono (fun r ⟨m1, m2, m3, m4, m5⟩ => ⟨m1, m2, by omega, by omega, m5⟩) (sat_desc o h f (a + 1) (by omega) (by omega) (De.ext o h h1 (by omega) s e))
    | false =>
      have e' := o.tot _ _ (h.bd (by omega)) (h.bd (by omega)) (h.ne (i := a) (j := a - 1) (by omega) (by omega) (by omega)) e
      refine ⟨h.bd (by omega), h.bd (by omega), ?_⟩
      rw [e']
      exact ⟨rfl, rfl, Nat.le_refl _, Nat.le_add_right _ _, s⟩
theorem getD_of {p q : Array Nat} {i j : Nat} (h : p[i]? = q[j]?) : p.getD i 0 = q.getD j 0 := by
  rw [Array.getD_eq_getD_getElem?, Array.getD_eq_getD_getElem?, h]
theorem sat_tail3 (o : Ord n lt) {p : Array Nat} (h : Pm n p) {m : Nat} (h1 : 1 ≤ m) (h2 : m ≤ n) (s : De lt p m) : Sat n lt (kas_tail3 m n p) (fun r => Pm n r.2 ∧ 1 ≤ r.1 ∧ r.1 ≤ n ∧ S lt r.2 r.1) := by
  have hq : Pm n (kas_rev p 0 m) := h.of (mirror_perm _ _ _ _)
  have hs : S lt (kas_rev p 0 m) m := fun i j hij hj => by
    have g : ∀ k, k < m → (kas_rev p 0 m).getD k 0 = p.getD (m - 1 - k) 0 := fun k hk => by
      apply getD_of
      show (mirror p 0 m ((m - 0) / 2))[k]? = _
      rw [getElem?_mirror_all (by rw [h.size]; exact h2), if_pos ⟨by omega, hk⟩]
      congr 1; omega
    rw [g i (by omega), g j hj]
    exact s (m - 1 - j) (m - 1 - i) (by omega) (by omega)
  exact Sat.bind (Sat.mono (fun k ⟨k1, k2, k3, _⟩ => ⟨hq, by omega, by omega, k3⟩) (sat_asc o hq (n - m) m h1 (by omega) hs))
theorem sat_count (o : Ord n lt) {p : Array Nat} (h : Pm n p) (hn : 1 ≤ n) : Sat n lt (kas_count n p) (fun r => Pm n r.2 ∧ 1 ≤ r.1 ∧ r.1 ≤ n ∧ S lt r.2 r.1) := by
  refine Sat.bind (Sat.mono (fun m ⟨m1, m2, m3, m4⟩ => ?_) (sat_asc o h (n - 1) 1 (Nat.le_refl _) (by omega) S.one))
  by_cases e : m = n
  · rw [if_pos (by simp [e])]
    exact ⟨h, m1, by omega, m3⟩
  · rw [if_neg (by simp [e])]
    by_cases hm : m > 1
    · rw [if_pos hm]
      refine ⟨h.bd (by omega), h.bd (by omega), ?_⟩
      rw [m3 0 (m - 1) (by omega) (by omega)]
      exact ⟨h, m1, by omega, m3⟩
    · rw [if_neg hm]
      have em : m = 1 := by omega
      subst em
      have e0 := m4 (by omega)
      have d2 : De lt p 2 := De.ext o h (a := 1) (Nat.le_refl _) (by omega) (fun i j a1 a2 => by omega) e0
      refine Sat.bind (Sat.mono (fun r ⟨r1, r2, r3, r4, r5⟩ => ?_) (sat_desc o h (n - (1 + 1)) (1 + 1) (by omega) (by omega) d2))
      rw [if_neg (by omega), r1]
      exact sat_tail3 o h (by omega) (by omega) r5
theorem sat_place (o : Ord n lt) {p : Array Nat} (h : Pm n p) {k : Nat} (hk : k < n) (s : S lt p k) : ∀ (f l r : Nat), l ≤ r → r ≤ k → r - l ≤ f → (∀ i, i < l → lt (p.getD i 0) (p.getD k 0) = true) → (∀ i, r ≤ i → i < k → lt (p.getD k 0) (p.getD i 0) = true) →
    Sat n lt (kas_place p k f l r) (fun m => m ≤ k ∧ (∀ i, i < m → lt (p.getD i 0) (p.getD k 0) = true) ∧ ∀ i, m ≤ i → i < k → lt (p.getD k 0) (p.getD i 0) = true)
  | 0, l, r, h1, h2, h3, hl, hr => ⟨by omega, hl, fun i a b => hr i (by omega) b⟩
  | f + 1, l, r, h1, h2, h3, hl, hr => by
    unfold kas_place
    by_cases hlr : l ≥ r
    · rw [if_pos hlr]
      exact ⟨by omega, hl, fun i a b => hr i (by omega) b⟩
    · rw [if_neg hlr]
      have hm : (l + r) / 2 < k := by omega
      refine ⟨h.bd hk, h.bd (by omega), ?_⟩
      cases e : lt (p.getD k 0) (p.getD ((l + r) / 2) 0) with
      | true =>
        refine sat_place o h hk s f l ((l + r) / 2) (by omega) (by omega) (by omega) hl fun i a b => ?_
        by_cases hi : i = (l + r) / 2
        · rw [hi]; exact e
        · exact o.tr _ _ _ (h.bd hk) (h.bd (by omega)) (h.bd (by omega)) e (s _ _ (by omega) b)
      | false =>
        have e' := o.tot _ _ (h.bd hk) (h.bd (by omega)) (h.ne (i := k) (j := (l + r) / 2) hk (by omega) (by omega)) e
        refine sat_place o h hk s f ((l + r) / 2 + 1) r (by omega) h2 (by omega) (fun i a => ?_) hr
        by_cases hi : i = (l + r) / 2
        · rw [hi]; exact e'
        · exact o.tr _ _ _ (h.bd (by omega)) (h.bd (by omega)) (h.bd hk) (s i ((l + r) / 2) (by omega) hm) e'
theorem sat_bin (o : Ord n lt) : ∀ (f : Nat) (p : Array Nat) (k : Nat), Pm n p → S lt p k → k + f ≤ n → Sat n lt (kas_bin f p k) (fun q => Pm n q ∧ S lt q (k + f))
  | 0, p, k, h, s, _ => ⟨h, s⟩
  | f + 1, p, k, h, s, hk => by
    refine Sat.bind (Sat.mono (fun l ⟨l1, l2, l3⟩ => ?_) (sat_place o h (by omega) s k 0 k (Nat.zero_le _) (Nat.le_refl _) (by omega) (fun i a => by omega) fun i a b => by omega))
    have hq : Pm n (bubble p k (k - l)) := h.of (bubble_perm _ _ _)
    have g : ∀ i, (bubble p k (k - l)).getD i 0 = if i = l then p.getD k 0 else if l < i ∧ i ≤ k then p.getD (i - 1) 0 else p.getD i 0 := fun i => by
      have e := getElem?_bubble (xs := p) (src := k) (by rw [h.size]; omega) (k - l) (by omega) i
      rw [show k - (k - l) = l by omega] at e
      by_cases c1 : i = l
      · rw [if_pos c1] at e ⊢; exact getD_of e
      · rw [if_neg c1] at e ⊢
        by_cases c2 : l < i ∧ i ≤ k
        · rw [if_pos c2] at e ⊢; exact getD_of e
        · rw [if_neg c2] at e ⊢; exact getD_of e
    have hs : S lt (bubble p k (k - l)) (k + 1) := fun i j hij hj => by
      rw [g i, g j]
      by_cases c1 : i = l
      · rw [if_pos c1, if_neg (by omega), if_pos ⟨by omega, by omega⟩]
        exact l3 (j - 1) (by omega) (by omega)
      · rw [if_neg c1]
        by_cases c2 : l < i ∧ i ≤ k
        · rw [if_pos c2, if_neg (by omega), if_pos ⟨by omega, by omega⟩]
          exact s (i - 1) (j - 1) (by omega) (by omega)
        · rw [if_neg c2]
          have hil : i < l := by omega
          by_cases c3 : j = l
          · rw [if_pos c3]; exact l2 i hil
          · rw [if_neg c3]
            by_cases c4 : l < j ∧ j ≤ k
            · rw [if_pos c4]
              by_cases c5 : i = j - 1
              · omega
              · exact s i (j - 1) (by omega) (by omega)
            · rw [if_neg c4]
              exact s i j hij (by omega)
    have := sat_bin o f (bubble p k (k - l)) (k + 1) hq hs (by omega)
    exact Sat.mono (fun q ⟨q1, q2⟩ => ⟨q1, by rw [show k + (f + 1) = k + 1 + f by omega]; exact q2⟩) this
theorem sat_sort (o : Ord n lt) (hn : 1 ≤ n) : Sat n lt (kas_sort n) (fun q => Pm n q ∧ S lt q n) := by
  have h0 : Pm n (List.toArray (List.range n)) := ⟨by simp, by simp⟩
  refine Sat.bind (Sat.mono (fun r ⟨r1, r2, r3, r4⟩ => ?_) (sat_count o h0 hn))
  by_cases hr : r.1 < n
  · rw [if_pos hr]
    have e : max r.1 1 = r.1 := by omega
    rw [e]
    refine Sat.mono (fun q ⟨q1, q2⟩ => ⟨q1, ?_⟩) (sat_bin o (n - r.1) r.2 r.1 r1 r4 (by omega))
    rw [show r.1 + (n - r.1) = n by omega] at q2
    exact q2
  · rw [if_neg hr]
    have e : r.1 = n := by omega
    rw [e] at r4
    exact ⟨r1, r4⟩
end
end Pu
namespace Pu
open PySem PySem.Spec PySem.W L2
open PyProof.Rows hiding St
theorem sortedHeap_keep {h : Heap} {a b : Addr} {vs : List Value} {out : Array Value} {o : Obj} (hb : b ≠ a) (e : h.get? b = some o) : (sortedHeap h a vs out).get? b = some o := by
  unfold sortedHeap
  rw [Heap.get?_update_ne _ _ _ _ hb]
  exact Heap.get?_push_of_some _ (Heap.get?_push_of_some _ (by rw [Heap.get?_update_ne _ _ _ _ hb]; exact e))
theorem sortedHeap_at {h : Heap} {a : Addr} {vs : List Value} {out : Array Value} {n : Nat} (e : h.get? a = some (seqObj "list" vs.toArray n)) : ∃ c, (sortedHeap h a vs out).get? a = some (seqObj "list" out c) := by
  unfold sortedHeap
  have h1 := get?_update_seq e (fun _ => (#[] : Array Value))
  exact ⟨_, get?_update_seq (Heap.get?_push_of_some _ (Heap.get?_push_of_some _ h1)) fun _ => out⟩
theorem short_out (vs : List Value) (h : vs.length < 2) : (vs.toArray.zip vs.toArray).map (·.2) = List.toArray ((List.toArray (List.range vs.length)).toList.map fun i => vs.getD i Value.none) := by
  match vs, h with
  | [], _ => simp
  | [v], _ => simp [List.range_succ]
  | _ :: _ :: _, h => exact absurd h (by simp)
section
variable {prog : Program} {w : World} {A : Around} {E : Value → Shared → Prop} {s : Shared}
theorem sort_by {a : Addr} {vs : List Value} {n : Nat} {P : PySem.Fin → Shared → Prop} {lt : Nat → Nat → Bool} {kk : SortKind} (ho : s.heap.get? a = some (seqObj "list" vs.toArray n)) (h64 : vs.length < 64) (od : Ord vs.length lt)
    (kind : 2 ≤ vs.length → ∀ h' : Heap, (∀ b ob, b ≠ a → s.heap.get? b = some ob → h'.get? b = some ob) → ∀ Q : SortKind → Shared → Prop, Q kk { s with heap := h' } → wpAny (model prog w) A (keyKind' vs.toArray) Q (fun _ _ => False) { s with heap := h' })
    (ask : ∀ h' : Heap, (∀ b ob, b ≠ a → s.heap.get? b = some ob → h'.get? b = some ob) → ∀ i j C, i < vs.length → j < vs.length → C (lt i j) { s with heap := h' } → kas_ask prog w A kk vs i j C { s with heap := h' })
    (h : ∀ q : Array Nat, Pm vs.length q → S lt q vs.length → P (.done (.ret .none)) { s with heap := sortedHeap s.heap a vs (List.toArray (q.toList.map fun i => vs.getD i Value.none)) }) :
    wpAny (model prog w) A (Builtin.«list.sort» ⟨[.ref a], []⟩) P E s := by
  rw [list_sort_plain]
  have ha : a < s.heap.objs.size := Heap.lt_size ho
  refine wpAny_bind (listItems_at ho rfl ?_)
  refine wpAny_bind (listUpdate_at ho rfl ?_ (by rw [List.size_toArray, sizeLine_eq]; omega) (Nat.zero_le _))
  obtain ⟨e1, ho1⟩ : ∃ e1, (s.heap.update a (Obj.mapSeq fun _ => (#[] : Array Value))).get? a = some (seqObj "list" #[] e1) := ⟨_, get?_update_seq ho (fun _ => #[])⟩
  refine wpAny_bind (seqEpoch_at ho1 rfl ?_)
  refine wpAny_bind (wpAny_newTuple ?_ (by show vs.length ≤ _; rw [sizeLine_eq]; omega))
  refine wpAny_bind (wpAny_newList ?_ (Nat.zero_le _))
  refine wpAny_holding ?_
  generalize hh6 : ((s.heap.update a (Obj.mapSeq fun _ => (#[] : Array Value))).push (seqObj "tuple" vs.toArray 0)).push (seqObj "list" #[] 0) = h6
  have ho6 : h6.get? a = some (seqObj "list" #[] e1) := by
    rw [← hh6]; exact Heap.get?_push_of_some _ (Heap.get?_push_of_some _ ho1)
  have keep : ∀ b ob, b ≠ a → s.heap.get? b = some ob → h6.get? b = some ob := fun b ob hb e => by
    rw [← hh6]
    exact Heap.get?_push_of_some _ (Heap.get?_push_of_some _ (by rw [Heap.get?_update_ne _ _ _ _ hb]; exact e))
  have hsh : ∀ out : Array Value, sortedHeap s.heap a vs out = h6.update a (Obj.mapSeq fun _ => out) := fun out => by rw [← hh6]; rfl
  show wpAny (model prog w) A _ P E { s with heap := h6 }
  dsimp only
  have hsz : vs.toArray.size = vs.length := by simp
  by_cases h2 : vs.toArray.size < 2
  · rw [if_pos h2, if_pos h2]
    refine wpAny_bind (wpAny_pure ?_)
    rw [StateT.run_pure]
    refine wpAny_bind (wpAny_pure ?_)
    dsimp only
    refine wpAny_bind (seqEpoch_at ho6 rfl ?_)
    refine wpAny_bind (listUpdate_at ho6 rfl ?_ (Nat.zero_le _) (by show (((pairsOf vs)).map (·.2)).size ≤ _; rw [Array.size_map, pairsOf_size, sizeLine_eq]; omega))
    simp only [bne_self_eq_false, Bool.false_eq_true, if_false]
    have q := h (List.toArray (List.range vs.length)) ⟨by simp, by simp⟩ (fun i j h1 h3 => by omega)
    rw [hsh] at q
    have eo : (arrOf (SortSt.mk' general' (vs.toArray.zip vs.toArray) #[] 7 none)).map (·.2) = List.toArray ((List.toArray (List.range vs.length)).toList.map fun i => vs.getD i Value.none) := by
      show (vs.toArray.zip vs.toArray).map (·.2) = _
      exact short_out vs (by rw [← hsz]; exact h2)
    refine wpAny_pure ?_
    show P _ { s with heap := h6.update a (Obj.mapSeq fun _ => (arrOf (SortSt.mk' general' (vs.toArray.zip vs.toArray) #[] 7 none)).map (·.2)) }
    rw [eo]
    exact q
  · rw [if_neg h2, if_neg h2]
    have h2' : 2 ≤ vs.length := by rw [hsz] at h2; omega
    refine wpAny_bind (wpAny_mono (kind h2' h6 keep (fun κ s' => κ = kk ∧ s' = { s with heap := h6 }) ⟨rfl, rfl⟩) (fun κ s0 hk => ?_) fun _ _ x => x.elim)
    obtain ⟨rfl, rfl⟩ := hk
    have wp : (kas_sort vs.length).kasWp (kas_ask prog w A κ vs) (fun p s'' => (Pm vs.length p ∧ S lt p vs.length) ∧ s'' = { s with heap := h6 }) { s with heap := h6 } :=
      Sat.wp (ask h6 keep) (fun p hp => ⟨hp, rfl⟩) (sat_sort od (by omega))
    refine wpAny_bind (wpAny_mono (kat_run (Q := fun st' s' => ∃ p : Array Nat, p.size = vs.length ∧ arrOf st' = p.map (kas_item (vs.toArray.zip vs.toArray)) ∧ failedOf st' = none ∧ (Pm vs.length p ∧ S lt p vs.length) ∧ s' = { s with heap := h6 })
      rfl h2' h64 (fun p' st' s' a1 a2 a3 a4 => ⟨p', a1, a2, a3, a4⟩) wp) ?_ fun _ _ e => e)
    rintro ⟨⟨⟩, st'⟩ s' ⟨p, hp, har, hf, ⟨hpm, hps⟩, rfl⟩
    dsimp only
    have hout := kat_snds rfl har
    rw [hout]
    refine wpAny_bind (seqEpoch_at ho6 rfl ?_)
    refine wpAny_bind (listUpdate_at ho6 rfl ?_ (Nat.zero_le _) (by show (List.toArray (p.toList.map fun i => vs.getD i Value.none)).size ≤ _; rw [List.size_toArray, List.length_map, Array.length_toList, hp, sizeLine_eq]; omega))
    rw [hf]
    simp only [bne_self_eq_false, Bool.false_eq_true, if_false]
    have q := h p hpm hps
    rw [hsh] at q
    exact wpAny_pure q
end
end Pu
namespace Pu
open PySem PySem.Spec PySem.W L2
open PyProof.Rows hiding St
def insP (p : Int × Int) : List (Int × Int) → List (Int × Int)
  | [] => [p]
  | q :: r => if p.1 < q.1 then p :: q :: r else q :: insP p r
def sortP : List (Int × Int) → List (Int × Int)
  | [] => []
  | p :: r => insP p (sortP r)
theorem insP_perm (p : Int × Int) : ∀ l, (insP p l).Perm (p :: l)
  | [] => .refl _
  | q :: r => by
    unfold insP
    split
    · exact .refl _
    · exact ((insP_perm p r).cons q).trans (.swap p q r)
theorem sortP_perm : ∀ l, (sortP l).Perm l
  | [] => .refl _
  | p :: r => (insP_perm p _).trans ((sortP_perm r).cons p)
abbrev Rise (l : List (Int × Int)) : Prop := l.Pairwise (fun p q => p.1 < q.1)
theorem insP_rise (p : Int × Int) : ∀ {l : List (Int × Int)}, Rise l → (∀ q ∈ l, q.1 ≠ p.1) → Rise (insP p l)
  | [], _, _ => List.pairwise_singleton _ _
  | q :: r, h, hn => by
    obtain ⟨h1, h2⟩ := List.pairwise_cons.mp h
    unfold insP
    split
    · rename_i hlt
      refine List.pairwise_cons.mpr ⟨fun x hx => ?_, h⟩
      rcases List.mem_cons.mp hx with e | hx
      · rw [e]; exact hlt
      · have := h1 x hx; omega
    · rename_i hlt
      have hq := hn q List.mem_cons_self
      refine List.pairwise_cons.mpr ⟨fun x hx => ?_, insP_rise p h2 fun y hy => hn y (List.mem_cons_of_mem _ hy)⟩
      rcases List.mem_cons.mp ((insP_perm p r).mem_iff.mp hx) with e | hx
      · rw [e]; omega
      · exact h1 x hx
theorem sortP_rise : ∀ {l : List (Int × Int)}, (l.map (·.1)).Nodup → Rise (sortP l)
  | [], _ => List.Pairwise.nil
  | p :: r, h => by
    have h : (p.1 :: r.map (·.1)).Nodup := h
    obtain ⟨h1, h2⟩ := List.nodup_cons.mp h
    refine insP_rise p (sortP_rise h2) fun q hq e => h1 ?_
    rw [← e]
    exact List.mem_map_of_mem ((sortP_perm r).mem_iff.mp hq)
theorem rise_uniq : ∀ {a b : List (Int × Int)}, a.Perm b → Rise a → Rise b → a = b
  | [], b, p, _, _ => by rw [List.nil_perm.mp p]
  | x :: a, [], p, _, _ => by
    have := p.length_eq
    simp at this
  | x :: a, y :: b, p, ha, hb => by
    obtain ⟨a1, a2⟩ := List.pairwise_cons.mp ha
    obtain ⟨b1, b2⟩ := List.pairwise_cons.mp hb
    have exy : x = y := by
      have hx := p.mem_iff.mp (List.mem_cons_self (a := x) (l := a))
      have hy := p.mem_iff.mpr (List.mem_cons_self (a := y) (l := b))
      rcases List.mem_cons.mp hx with e | hx
      · exact e
      · rcases List.mem_cons.mp hy with e | hy
        · exact e.symm
        · have h1 := b1 x hx
          have h2 := a1 y hy
          omega
    subst exy
    rw [rise_uniq ((List.perm_cons x).mp p) a2 b2]
def pairLt (p q : Int × Int) : Bool := if p.1 = q.1 then (if p.2 = q.2 then false else decide (p.2 < q.2)) else decide (p.1 < q.1)
abbrev pairObj (k v : Int) (t u : Tok) : Obj := { cls := .type "tuple", data := .seq #[.int k t, .int v u] }
section
variable {prog : Program} {w : World} {A : Around} {E : Value → Shared → Prop} {s : Shared}
theorem lt_pair {x y : Addr} {p q : Int × Int} {t u t' u' : Tok} {Q : Bool → Shared → Prop} (hx : s.heap.get? x = some (pairObj p.1 p.2 t u)) (hy : s.heap.get? y = some (pairObj q.1 q.2 t' u')) (h : Q (pairLt p q) s) :
    wpAny (model prog w) A (keyLt' (tuples' true) (.ref x) (.ref y)) Q E s := by
  refine kat_lt hx rfl hy rfl ?_
  show KatLex prog w A true (decide (2 < 2)) Q [(.int p.1 t, .int q.1 t'), (.int p.2 u, .int q.2 u')] 0 s
  unfold pairLt at h
  refine kat_cons (SeqAt.EqAt.int_int p.1 t q.1 t' prog w _ _ ?_)
  by_cases e1 : p.1 = q.1
  · rw [if_pos e1] at h
    rw [show (p.1 == q.1) = true by simpa using e1]
    refine kat_yes (kat_cons (SeqAt.EqAt.int_int p.2 u q.2 u' prog w _ _ ?_))
    by_cases e2 : p.2 = q.2
    · rw [if_pos e2] at h
      rw [show (p.2 == q.2) = true by simpa using e2]
      exact kat_yes (kat_nil (by simpa using h))
    · rw [if_neg e2] at h
      rw [show (p.2 == q.2) = false by simpa using e2]
      refine kat_no ?_
      show wpAny (model prog w) A (oneLt' false _ _) Q _ s
      exact kat_one _ _ (lt_int h)
  · rw [if_neg e1] at h
    rw [show (p.1 == q.1) = false by simpa using e1]
    refine kat_no ?_
    show wpAny (model prog w) A (keyLt' oneType' (.int p.1 t) (.int q.1 t')) Q _ s
    exact kat_lt_int h
end
theorem fst_ne {ps : List (Int × Int)} (hn : (ps.map (·.1)).Nodup) {a b : Nat} (ha : a < ps.length) (hb : b < ps.length) (hab : a ≠ b) : (ps.getD a (0, 0)).1 ≠ (ps.getD b (0, 0)).1 := by
  have e1 : (ps.getD a (0, 0)).1 = (ps.map (·.1))[a]'(by simpa using ha) := by simp [ha]
  have e2 : (ps.getD b (0, 0)).1 = (ps.map (·.1))[b]'(by simpa using hb) := by simp [hb]
  rw [e1, e2]
  intro z
  exact hab ((List.getElem_inj hn).mp z)
theorem pairLt_ord {ps : List (Int × Int)} (hn : (ps.map (·.1)).Nodup) : Ord ps.length (fun i j => pairLt (ps.getD i (0, 0)) (ps.getD j (0, 0))) := by
  refine ⟨fun a b c ha hb hc h1 h2 => ?_, fun a b ha hb hab h => ?_⟩
  · unfold pairLt at h1 h2 ⊢
    split at h1
    · split at h1
      · cases h1
      · split at h2
        · split at h2
          · cases h2
          · rename_i e1 _ e2 _
            have h1 := of_decide_eq_true h1
            have h2 := of_decide_eq_true h2
            rw [if_pos (by omega), if_neg (by omega)]
            exact decide_eq_true (by omega)
        · rename_i e1 _ e2
          have h1 := of_decide_eq_true h1
          have h2 := of_decide_eq_true h2
          rw [if_neg (by omega)]
          exact decide_eq_true (by omega)
    · split at h2
      · split at h2
        · cases h2
        · rename_i e1 e2 _
          have h1 := of_decide_eq_true h1
          have h2 := of_decide_eq_true h2
          rw [if_neg (by omega)]
          exact decide_eq_true (by omega)
      · have h1 := of_decide_eq_true h1
        have h2 := of_decide_eq_true h2
        rw [if_neg (by omega)]
        exact decide_eq_true (by omega)
  · have hne : (ps.getD a (0, 0)).1 ≠ (ps.getD b (0, 0)).1 := by
      have e1 : (ps.getD a (0, 0)).1 = (ps.map (·.1))[a]'(by simpa using ha) := by simp [ha]
      have e2 : (ps.getD b (0, 0)).1 = (ps.map (·.1))[b]'(by simpa using hb) := by simp [hb]
      rw [e1, e2]
      intro z
      exact hab ((List.getElem_inj hn).mp z)
    unfold pairLt at h ⊢
    rw [if_neg hne] at h
    rw [if_neg (Ne.symm hne)]
    have := of_decide_eq_false h
    exact decide_eq_true (by omega)
theorem sorted_pairs {ps : List (Int × Int)} (hn : (ps.map (·.1)).Nodup) {q : Array Nat} (h : Pm ps.length q) (hs : S (fun i j => pairLt (ps.getD i (0, 0)) (ps.getD j (0, 0))) q ps.length) : q.toList.map (fun i => ps.getD i (0, 0)) = sortP ps := by
  have hperm : (q.toList.map fun i => ps.getD i (0, 0)).Perm ps := by
    have h1 := h.perm.map (fun i => ps.getD i (0, 0))
    have e : (List.range ps.length).map (fun i => ps.getD i (0, 0)) = ps := by
      apply List.ext_getElem?
      intro i
      by_cases hi : i < ps.length
      · simp [List.getElem?_range hi, hi]
      · simp [hi]
    rwa [e] at h1
  refine rise_uniq (hperm.trans (sortP_perm ps).symm) ?_ (sortP_rise hn)
  rw [Rise, List.pairwise_map, List.pairwise_iff_getElem]
  intro i j hi hj hij
  have hi' : i < ps.length := by rw [← h.size]; simpa using hi
  have hj' : j < ps.length := by rw [← h.size]; simpa using hj
  have g := hs i j hij hj'
  have gi : q.getD i 0 = q.toList[i] := by
    have : i < q.size := by rw [h.size]; exact hi'
    simp [Array.getD, this]
  have gj : q.getD j 0 = q.toList[j] := by
    have : j < q.size := by rw [h.size]; exact hj'
    simp [Array.getD, this]
  rw [gi, gj] at g
  have bi : q.toList[i] < ps.length := by rw [← gi]; exact h.bd hi'
  have bj : q.toList[j] < ps.length := by rw [← gj]; exact h.bd hj'
  have nij : q.toList[i] ≠ q.toList[j] := by rw [← gi, ← gj]; exact h.ne hi' hj' (Nat.ne_of_lt hij)
  have hne := fst_ne hn bi bj nij
  have g : pairLt (ps.getD q.toList[i] (0, 0)) (ps.getD q.toList[j] (0, 0)) = true := g
  unfold pairLt at g
  rw [if_neg hne] at g
  exact of_decide_eq_true g
end Pu
namespace Pu
open PySem PySem.Spec PySem.W L2
open PyProof.Rows hiding St
def trk (H : Hp) (tl : List (Addr × List V)) (B : Addr) (ls : List V) : Hp := fun b => if b = B then some (.lst ls) else match tl.lookup b with
  | some xs => some (.tup xs)
  | none => H b
section
variable {X : Cx} {pins : List (Addr × Obj)} {σ : St} {H : Hp} {s : Shared}
theorem lookup_none {tl : List (Addr × List V)} {b : Addr} (h : ∀ p ∈ tl, p.1 ≠ b) : tl.lookup b = none := by
  induction tl with
  | nil => rfl
  | cons p r ih =>
    obtain ⟨k, xs⟩ := p
    have hk := h (k, xs) List.mem_cons_self
    rw [List.lookup_cons, show (b == k) = false by simpa using (Ne.symm hk)]
    exact ih fun q hq => h q (List.mem_cons_of_mem _ hq)
theorem trk_old {tl : List (Addr × List V)} {B b : Addr} {ls : List V} (hB : b ≠ B) (h : ∀ p ∈ tl, p.1 ≠ b) : trk H tl B ls b = H b := by
  unfold trk; rw [if_neg hB, lookup_none h]
theorem mem_lookup {tl : List (Addr × List V)} {b : Addr} {xs : List V} (h : tl.lookup b = some xs) : (b, xs) ∈ tl := by
  induction tl with
  | nil => cases h
  | cons p r ih =>
    obtain ⟨k, ys⟩ := p
    rw [List.lookup_cons] at h
    cases e : b == k with
    | true =>
      rw [e] at h
      have : b = k := by simpa using e
      subst this
      cases h
      exact List.mem_cons_self
    | false => rw [e] at h; exact List.mem_cons_of_mem _ (ih h)
theorem Inv.trk {tl : List (Addr × List V)} {B : Addr} {ls : List V} {h' : Heap} {tk : Nat} (I : Inv X pins σ H s) (kp : ∀ b o, s.heap.get? b = some o → h'.get? b = some o) (hB : s.heap.objs.size ≤ B) (ht : ∀ p ∈ tl, s.heap.objs.size ≤ p.1)
    (oB : ∃ (its : List Value) (n : Nat), Vals ls its ∧ h'.get? B = some { cls := .type "list", data := .seq its.toArray n }) (lB : ls.length ≤ sizeLine) (ot : ∀ p ∈ tl, p.1 ≠ B ∧ p.2.length ≤ sizeLine ∧ ∃ its : List Value, Vals p.2 its ∧ IsTup h' p.1 its.toArray) :
    Inv X pins σ (Pu.trk H tl B ls) { s with heap := h', toks := tk } := by
  have old : ∀ b, @LT.lt Nat _ b s.heap.objs.size → Pu.trk H tl B ls b = H b := fun b hb => trk_old (fun z => by rw [z] at hb; exact absurd hB (Nat.not_le.mpr hb)) fun p hp z => by rw [← z] at hb; exact absurd (ht p hp) (Nat.not_le.mpr hb)
  refine I.un ⟨fun b o e n _ _ => kp b o e, fun b o e n _ _ => ⟨o.slots, kp b o e⟩, fun b o e n _ => by rw [old b (Heap.lt_size e)]; exact n, fun b o e _ => ⟨o, kp b o e⟩, fun b xs e => by rw [old b (I.hok.lt e)]; exact e, fun b o u e => by rw [old b (I.hok.lt e)]; exact e, fun b ps e => ⟨#[], by rw [old b (I.hok.lt e), e]; simp⟩⟩ fun b u e => ?_
  by_cases hb : b = B
  · have e' : Pu.trk H tl B ls b = some (.lst ls) := by unfold Pu.trk; rw [if_pos hb]
    rw [e'] at e
    cases e
    subst hb
    obtain ⟨its, n, r, q⟩ := oB
    exact ⟨lB, its, n, r, q⟩
  · cases q : tl.lookup b with
    | some xs =>
      have e' : Pu.trk H tl B ls b = some (.tup xs) := by unfold Pu.trk; rw [if_neg hb, q]
      rw [e'] at e
      cases e
      obtain ⟨_, l1, its, r, p⟩ := ot _ (mem_lookup q)
      exact ⟨l1, its, r, p⟩
    | none =>
      have e' : Pu.trk H tl B ls b = H b := by unfold Pu.trk; rw [if_neg hb, q]
      rw [e'] at e
      refine (I.hok b u e).stay (fun c v _ z => kp c v z) (fun c z => ?_) (fun c xs z => ?_) fun c o u _ z => ?_
      · rw [old c (I.hok.lt z)]; exact z
      · rw [old c (I.hok.lt z)]; exact z
      · rw [old c (I.hok.lt z)]; exact z
theorem trk_same {tl : List (Addr × List V)} {B : Addr} {ls : List V} (hB : H B = none) (ht : ∀ p ∈ tl, H p.1 = none) : Same H (Pu.trk H tl B ls) := fun b o e => by
  rw [trk_old (ne_of_none e hB) fun p hp z => ne_of_none e (ht p hp) z.symm]; exact e
theorem trk_tup {tl : List (Addr × List V)} {B : Addr} {ls : List V} {p : Addr × List V} (hn : (tl.map (·.1)).Nodup) (hp : p ∈ tl) (hB : p.1 ≠ B) : Pu.trk H tl B ls p.1 = some (.tup p.2) := by
  have e : tl.lookup p.1 = some p.2 := by
    induction tl with
    | nil => simp at hp
    | cons q r ih =>
      obtain ⟨k, ys⟩ := q
      have hn : (k :: r.map (·.1)).Nodup := hn
      obtain ⟨h1, h2⟩ := List.nodup_cons.mp hn
      rw [List.lookup_cons]
      rcases List.mem_cons.mp hp with e | hp
      · subst e; simp
      · have : p.1 ≠ k := fun z => h1 (by rw [← z]; exact List.mem_map_of_mem hp)
        rw [show (p.1 == k) = false by simpa using this]
        exact ih h2 hp
  unfold Pu.trk
  rw [if_neg hB, e]
theorem mt_items : MtR X "dict.items" (fun x vs H Q => ∃ d kvs, x = .ref d ∧ vs = [] ∧ H d = some (.dK kvs) ∧ ∀ v, H v = none → Q (.ref v) (upd H v (.ext fun h => h.IsItemsView v d))) := by
  intro pins s σ H x vs v us Q I rx rv h
  obtain ⟨d, kvs, rfl, rfl, hd, q⟩ := h
  cases rx
  cases rv
  obtain ⟨hz, hlo, vs', rel, dd⟩ := dk_of I.hok hd
  refine call_meetsIn PySem.F.slot_dict_items dd.typeIs PySem.F.entry_dict_items (PySem.F.args_dict_items_1 _) (meets_dict_items (mixKind X.prog X.w) d hlo) ⟨⟨vs', dd⟩, ?_⟩
  refine ⟨.ref s.heap.objs.size, _, I.laid (t' := s.toks) (a := s.heap.objs.size) (o := .ext fun h => h.IsItemsView s.heap.objs.size d) (fun b u e => Heap.get?_push_of_some _ e) (Nat.le_refl _) ?_, rfl, q _ (I.hok.fresh (Nat.le_refl _))⟩
  exact ⟨⟨_, Heap.get?_push_size _ rfl, rfl, rfl⟩, ⟨_, Heap.get?_push_size _ rfl⟩, fun h1 h2 ⟨o, e, r⟩ k => ⟨o, k o e, r⟩⟩
end
def pairsI : List (Key × D) → Option (List (Int × Int))
  | [] => some []
  | (Sum.inl k, .int v) :: r => (pairsI r).map ((k, v) :: ·)
  | _ => none
def pairD (p : Int × Int) : D := .tup [.int p.1, .int p.2]
theorem pairsI_V {K : PySem.W.Frag} {O : Addr → Prop} {H : Hp} : ∀ {kvs : List (Key × D)} {ps : List (Int × Int)} {ys : List (Key × V)}, pairsI kvs = some ps → KReps K O H kvs ys → ys = ps.map fun p => ((Sum.inl p.1 : Key), V.int p.2)
  | [], ps, ys, e, h => by cases e; exact h.nil_inv
  | (k, d) :: kvs, ps, ys, e, h => by
    obtain ⟨v, t, rfl, r, ht⟩ := h.cons_inv
    cases k with
    | inr x => cases e
    | inl k =>
      cases d with
      | int i =>
        have e : (pairsI kvs).map ((k, i) :: ·) = some ps := e
        cases q : pairsI kvs with
        | none => rw [q] at e; cases e
        | some l =>
          rw [q] at e
          cases e
          rw [r.int, pairsI_V q ht]; rfl
      | _ => cases e
theorem katTups_of {h : Heap} : ∀ (as : List Addr), (∀ a ∈ as, ∃ k v t u, h.get? a = some (pairObj k v t u)) → ∃ fs, KatTups h (as.map Value.ref) fs ∧ fs.length = as.length ∧ ∀ f ∈ fs, ∃ k t, f = Value.int k t
  | [], _ => ⟨[], .nil, rfl, fun f hf => by simp at hf⟩
  | a :: as, hx => by
    obtain ⟨k, v, t, u, e⟩ := hx a List.mem_cons_self
    obtain ⟨fs, h1, h2, h3⟩ := katTups_of as fun b hb => hx b (List.mem_cons_of_mem _ hb)
    refine ⟨.int k t :: fs, KatTups.cons e rfl rfl rfl h1, by simp [h2], fun f hf => ?_⟩
    rcases List.mem_cons.mp hf with z | z
    · exact ⟨k, t, z⟩
    · exact h3 f z
theorem refVals : ∀ as : List Addr, Vals (as.map V.ref) (as.map Value.ref)
  | [] => .nil
  | a :: as => .cons rfl (refVals as)
section
variable {X : Cx}
theorem call_sortedI (hc : X.calm = true) : CallR X (.builtin "sorted") (fun xs H Q => ∃ v d, ∃ ps : List (Int × Int), xs = [.ref v] ∧ H v = some (.ext fun h => h.IsItemsView v d) ∧ H d = some (.dK (ps.map fun p => ((Sum.inl p.1 : Key), V.int p.2))) ∧ ps.length < 64 ∧ 0 < ps.length ∧
    ∀ (as : List Addr) (B : Addr) H', Same H H' → H B = none → H' B = some (.lst (as.map V.ref)) → as.length = ps.length → (∀ (i : Nat) a p, as[i]? = some a → (sortP ps)[i]? = some p → H' a = some (.tup [.int p.1, .int p.2])) → Q (.ref B) H') := by
  intro pins s σ H xs us Q I r h
  obtain ⟨v, d, ps, rfl, hv, hd, h64, h0, q⟩ := h
  obtain ⟨u, rfl, rx⟩ := vals1 r
  cases rx
  have hh : X.A.handled = none := I.ok.hd hc
  obtain ⟨hz, hlo, vs, rel, dd⟩ := dk_of I.hok hd
  obtain ⟨hview, _, _⟩ := (show ObjOk X.prog X.w H s.heap v (.ext fun h => h.IsItemsView v d) from I.hok v _ hv)
  obtain ⟨ep, dat⟩ := Heap.DictOf.dictAt dd
  have hvl : vs.length = ps.length := by rw [← rel.length, List.length_map]
  have hvs : ∀ (j : Nat) p, ps[j]? = some p → ∃ u, vs[j]? = some (Sum.inl p.1, .int p.2 u) := by
    have key : ∀ (qs : List (Int × Int)) (ws : List (Key × Value)), KV (qs.map fun p => ((Sum.inl p.1 : Key), V.int p.2)) ws → ∀ (j : Nat) p, qs[j]? = some p → ∃ u, ws[j]? = some (Sum.inl p.1, .int p.2 u) := by
      intro qs
      induction qs with
      | nil => intro ws _ j p e; simp at e
      | cons x qs ih =>
        intro ws hw j p e
        cases hw with
        | cons hr ht =>
          obtain ⟨e1, u, e2⟩ := hr
          cases j with
          | zero =>
            simp at e
            subst e
            exact ⟨u, by simp; exact Prod.ext e1.symm e2⟩
          | succ j => simpa using ih _ ht j p (by simpa using e)
    exact key ps vs rel
  have hkeys : vs.map (·.1) = ps.map fun p => (Sum.inl p.1 : Key) := by
    apply List.ext_getElem?
    intro i
    by_cases hi : i < ps.length
    · obtain ⟨u, e⟩ := hvs i ps[i] (by simp [hi])
      simp [e, hi]
    · have h1 : vs.length ≤ i := by omega
      simp [List.getElem?_eq_none h1, hi]
  have hn : (ps.map (·.1)).Nodup := by
    have h1 := dat.nodup
    rw [hkeys, show (fun p : Int × Int => (Sum.inl p.1 : Key)) = (Sum.inl ∘ fun p => p.1) from rfl, ← List.map_map] at h1
    exact List.Pairwise.of_map (fun a : Int => (Sum.inl a : Key)) (fun a b h z => h (by rw [z])) h1
  refine Calls.call_function_entry kind_sorted plain_sorted entry_sorted (args_sorted1 _) ?_
  unfold Builtin.«sorted»
  refine wpAny_bind (m := checkCount "sorted" 1 1 _) (wpAny_pure ?_)
  refine wpAny_bind (kdx_collect (A := X.A.in1) (knd := mixKind X.prog X.w) (kvs := vs) (ep := ep) hh hview dat (by rw [hvl, sizeLine_eq]; omega) fun h' tk as hk hl hG => ?_)
  refine wpAny_bind (wpAny_newList ?_ (by rw [List.length_map, hl, hvl, sizeLine_eq]; omega))
  have hB : (h'.push (seqObj "list" (as.map Value.ref).toArray 0)).get? h'.objs.size = some (seqObj "list" (as.map Value.ref).toArray 0) := Heap.get?_push_size _ rfl
  have al : as.length = ps.length := by rw [hl, hvl]
  have hs' : @LE.le Nat _ s.heap.objs.size h'.objs.size := by
    have hm : as[0]'(by omega) ∈ as := List.getElem_mem _
    exact Nat.le_of_lt (Nat.lt_trans (hG.above _ hm) (hG.there hm))
  have pairAt : ∀ (j : Nat) a, as[j]? = some a → ∃ t u, h'.get? a = some (pairObj (ps.getD j (0, 0)).1 (ps.getD j (0, 0)).2 t u) := fun j a e => by
    obtain ⟨key, k, x, e1, e2, e3⟩ := hG.pairs j a e
    have hj : j < ps.length := by rw [← al]; exact (List.getElem?_eq_some_iff.mp e).1
    obtain ⟨u, e4⟩ := hvs j ps[j] (by simp [hj])
    rw [e1] at e4
    cases e4
    rcases keyIs_shape (show keyIs (Sum.inl ps[j].1) key = true from e2) with ⟨i, t, z1, z2⟩ | ⟨i, t, z1, z2⟩
    · cases z1
      subst z2
      refine ⟨t, u, ?_⟩
      simpa [hj] using e3
    · cases z1
  have lenV : (as.map Value.ref).length = ps.length := by rw [List.length_map, al]
  have getV : ∀ i, i < ps.length → ∃ a, as[i]? = some a ∧ (as.map Value.ref).getD i Value.none = .ref a := fun i hi => by
    have hi' : i < as.length := by omega
    exact ⟨as[i], by simp [hi'], by simp [hi']⟩
  have alt : ∀ a ∈ as, @LT.lt Nat _ a h'.objs.size := fun a ha => hG.there ha
  have inB : ∀ a ∈ as, ∃ k v t u, (h'.push (seqObj "list" (as.map Value.ref).toArray 0)).get? a = some (pairObj k v t u) := fun a ha => by
    obtain ⟨j, hj⟩ := List.mem_iff_getElem?.mp ha
    obtain ⟨t, u, e⟩ := pairAt j a hj
    exact ⟨_, _, t, u, Heap.get?_push_of_some _ e⟩
  refine wpAny_bind (wpAny_holding (wpAny_call_entry slot_list_sort ⟨_, hB, rfl⟩ entry_list_sort (sort_by (lt := fun i j => pairLt (ps.getD i (0, 0)) (ps.getD j (0, 0))) (kk := tuples' true) hB (by rw [lenV]; exact h64) (by rw [lenV]; exact pairLt_ord hn) ?kind ?ask fun qq hq hqs => ⟨_, rfl, ?fin⟩) (args_list_sort _)))
  case kind =>
    intro _ h6 keep Q' hQ'
    obtain ⟨fs, kt, fl, fi⟩ := katTups_of as fun a ha => by
      obtain ⟨k, v, t, u, e⟩ := inB a ha
      exact ⟨k, v, t, u, keep a _ (by have := alt a ha; show @Ne Nat a h'.objs.size; omega) e⟩
    exact kat_kind (T := .type "int") kt (by omega) (fun f hf => by obtain ⟨k, t, rfl⟩ := fi f hf; exact .now) rfl hQ'
  case ask =>
    intro h6 keep i j C hi hj hC
    rw [lenV] at hi hj
    obtain ⟨a, ea, ga⟩ := getV i hi
    obtain ⟨b, eb, gb⟩ := getV j hj
    obtain ⟨t, u, e1⟩ := pairAt i a ea
    obtain ⟨t', u', e2⟩ := pairAt j b eb
    unfold kas_ask
    rw [ga, gb]
    refine lt_pair (keep a _ ?_ (Heap.get?_push_of_some _ e1)) (keep b _ ?_ (Heap.get?_push_of_some _ e2)) hC
    · have := alt a (List.mem_of_getElem? ea); show @Ne Nat a h'.objs.size; omega
    · have := alt b (List.mem_of_getElem? eb); show @Ne Nat b h'.objs.size; omega
  case fin =>
    rw [lenV] at hq hqs
    refine wpAny_pure ⟨_, rfl, ?_⟩
    have hout : (qq.toList.map fun i => (as.map Value.ref).getD i Value.none) = (qq.toList.map fun i => as.getD i 0).map Value.ref := by
      rw [List.map_map]
      refine List.map_congr_left fun i hi => ?_
      have hi' : i < as.length := by rw [al]; exact List.mem_range.mp (hq.perm.mem_iff.mp hi)
      simp [hi']
    have hFB := sortedHeap_at (vs := as.map Value.ref) (out := List.toArray (qq.toList.map fun i => (as.map Value.ref).getD i Value.none)) hB
    obtain ⟨c, hFB⟩ := hFB
    rw [hout] at hFB
    have tmem : ∀ p ∈ as.zip (ps.map fun p => [V.int p.1, V.int p.2]), p.1 ∈ as ∧ ∃ j : Nat, as[j]? = some p.1 ∧ p.2 = [V.int (ps.getD j (0, 0)).1, V.int (ps.getD j (0, 0)).2] := fun p hp => by
      obtain ⟨j, hj⟩ := List.mem_iff_getElem?.mp hp
      rw [List.getElem?_zip_eq_some] at hj
      obtain ⟨h1, h2⟩ := hj
      refine ⟨List.mem_of_getElem? h1, j, h1, ?_⟩
      rw [List.getElem?_map] at h2
      cases e : ps[j]? with
      | none => rw [e] at h2; cases h2
      | some z =>
        rw [e] at h2
        have h2 : [V.int z.1, V.int z.2] = p.2 := Option.some.inj h2
        simp [List.getD, e, h2]
    have kpF : ∀ b o, s.heap.get? b = some o → (sortedHeap (h'.push (seqObj "list" (as.map Value.ref).toArray 0)) h'.objs.size (as.map Value.ref) (List.toArray ((qq.toList.map fun i => as.getD i 0).map Value.ref))).get? b = some o := fun b o e =>
      sortedHeap_keep (by have := Heap.lt_size e; show @Ne Nat b h'.objs.size; have h9 : @LT.lt Nat _ b s.heap.objs.size := this; omega) (Heap.get?_push_of_some _ (hk b o e))
    have ndA : as.Nodup := hG.rise.imp fun h => Nat.ne_of_lt h
    have ndT : ((as.zip (ps.map fun p => [V.int p.1, V.int p.2])).map (·.1)).Nodup := by
      rw [List.map_fst_zip (by rw [List.length_map, al]; exact Nat.le_refl _)]; exact ndA
    rw [hout]
    have hBH : H h'.objs.size = none := I.hok.fresh hs'
    have htH : ∀ p ∈ as.zip (ps.map fun p => [V.int p.1, V.int p.2]), H p.1 = none := fun p hp => I.hok.fresh (Nat.le_of_lt (hG.above _ (tmem p hp).1))
    refine ⟨.ref h'.objs.size, Pu.trk H (as.zip (ps.map fun p => [V.int p.1, V.int p.2])) h'.objs.size ((qq.toList.map fun i => as.getD i 0).map V.ref), ?_, rfl, ?_⟩
    · refine Inv.trk (s := s) (tk := tk) I kpF hs' (fun p hp => Nat.le_of_lt (hG.above _ (tmem p hp).1)) ⟨_, c, refVals _, hFB⟩ ?_ fun p hp => ?_
      · rw [List.length_map, List.length_map, Array.length_toList, hq.size, sizeLine_eq]; omega
      · obtain ⟨ha, j, ej, e2⟩ := tmem p hp
        obtain ⟨t, u, e3⟩ := pairAt j p.1 ej
        have hne : p.1 ≠ h'.objs.size := by have := alt p.1 ha; show @Ne Nat p.1 h'.objs.size; omega
        refine ⟨hne, by rw [e2]; show 2 ≤ sizeLine; rw [sizeLine_eq]; omega, [.int (ps.getD j (0, 0)).1 t, .int (ps.getD j (0, 0)).2 u], ?_, _, sortedHeap_keep hne (Heap.get?_push_of_some _ e3), rfl, 0, rfl⟩
        rw [e2]
        exact .cons ⟨t, rfl⟩ (.cons ⟨u, rfl⟩ .nil)
    · refine q (qq.toList.map fun i => as.getD i 0) h'.objs.size _ (trk_same hBH htH) hBH (by unfold Pu.trk; rw [if_pos rfl]) (by rw [List.length_map, Array.length_toList, hq.size]) fun i a p ea ep => ?_
      have hsp := sorted_pairs hn hq hqs
      rw [← hsp] at ep
      rw [List.getElem?_map] at ea ep
      cases ei : qq.toList[i]? with
      | none => rw [ei] at ea; cases ea
      | some k =>
        rw [ei] at ea ep
        have ea : as.getD k 0 = a := Option.some.inj ea
        have ep : ps.getD k (0, 0) = p := Option.some.inj ep
        have hk' : k < ps.length := List.mem_range.mp (hq.perm.mem_iff.mp (List.mem_of_getElem? ei))
        have ek : as[k]? = some a := by
          have : k < as.length := by omega
          simp [List.getD, this] at ea ⊢
          exact ea
        have hz : (a, [V.int p.1, V.int p.2]) ∈ as.zip (ps.map fun p => [V.int p.1, V.int p.2]) := by
          refine List.mem_of_getElem? (i := k) ?_
          rw [List.getElem?_zip_eq_some]
          refine ⟨ek, ?_⟩
          rw [List.getElem?_map]
          have : ps[k]? = some p := by simp [List.getD, hk'] at ep ⊢; exact ep
          rw [this]; rfl
        exact trk_tup ndT hz (by have := alt a (List.mem_of_getElem? ek); show @Ne Nat a h'.objs.size; omega)
end
end Pu
namespace Pu
open PySem PySem.Spec PySem.W L2
open PyProof.Rows hiding St
section
variable {X : Cx}
def sortedV (i : Nat) : Rho → R D := fun ρ => match ρ[i]? with
  | some (some (.dic kvs)) => match pairsI kvs with
    | some ps => if ps.length < 64 ∧ 0 < ps.length then .ok (.lst ((sortP ps).map pairD)) else .bad
    | none => .bad
  | _ => .bad
theorem reps_pairs {K : PySem.W.Frag} {O : Addr → Prop} {H : Hp} : ∀ (as : List Addr) (ps : List (Int × Int)), as.length = ps.length → (∀ (i : Nat) a p, as[i]? = some a → ps[i]? = some p → H a = some (.tup [.int p.1, .int p.2])) → Reps K O H (ps.map pairD) (as.map V.ref)
  | [], [], _, _ => .nil
  | [], _ :: _, h, _ => by simp at h
  | _ :: _, [], h, _ => by simp at h
  | a :: as, p :: ps, h, hx => by
    refine .cons (rep_tup (SqT.of (hx 0 a p rfl rfl)) (.cons (rep_int _) (.cons (rep_int _) .nil))) (reps_pairs as ps (by simpa using h) fun i b q e1 e2 => hx (i + 1) b q (by simpa using e1) (by simpa using e2))
theorem sortP_len (ps : List (Int × Int)) : (sortP ps).length = ps.length := (sortP_perm ps).length_eq
theorem de_sorted (i : Nat) {x : Str} {px apos cpos p pos : Pos} (hc : X.calm = true) (hg : Gl X "sorted") (hm : X.mg "sorted" = none) (hN : X.N[i]? = some x := by rfl) (hv : Vis X.env.scope x := by first | exact Or.inl rfl | exact Or.inr (Or.inl rfl) | exact Or.inr (Or.inr rfl))
    (hd : (x == ("__debug__" : Str)) = false := by decide) (hcd : (x == ("__classdict__" : Str)) = false := by decide) (hbase : attributeBase (.Name x px) "items" X.env (eval (.Name x px) X.env) = eval (.Name x px) X.env := by rfl) (hline : (apos.endLine == cpos.line) = true := by rfl)
    (hs : starEach [.Call (.Attribute (.Name x px) "items" apos) [] [] cpos] X.env = (false, eval (.Call (.Attribute (.Name x px) "items" apos) [] [] cpos) X.env) :: starEach [] X.env := by rfl) (hpl : (backTo pos (starEach [] X.env)).any (·.1) = false := by rfl) :
    DE X (.Call (.Name "sorted" p) [.Call (.Attribute (.Name x px) "items" apos) [] [] cpos] [] pos) (sortedV i) := by
  refine PE.imp (pe_callB (call_sortedI hc) hg hm boot_sorted (pa_cons (pe_bm0 PySem.F.plainAttrs_dict PySem.F.slot_dict_items PySem.F.type_dict_items mt_items (pe_var hN hv hd hcd) hbase hline) pa_nil hs) (by decide) (by decide) hs hpl) fun σ H Q h => ?_
  obtain ⟨ρ, O, j, h⟩ := h
  unfold sortedV at h
  cases q : ρ[i]? with
  | none => rw [q] at h; exact h.elim
  | some oe =>
    rw [q] at h
    cases oe with
    | none => exact h.elim
    | some en =>
      cases en with
      | val _ => exact h.elim
      | lst _ => exact h.elim
      | obj _ => exact h.elim
      | dic kvs =>
        have h : good X (rD X) O (match pairsI kvs with
          | some ps => if ps.length < 64 ∧ 0 < ps.length then .ok (.lst ((sortP ps).map pairD)) else .bad
          | none => .bad) σ H Q := h
        obtain ⟨v, hv1, a, ys, rfl, hO, hH, kr⟩ := j.env.get i _ q
        cases e : pairsI kvs with
        | none => rw [e] at h; exact h.elim
        | some ps =>
          rw [e] at h
          have h : good X (rD X) O (if ps.length < 64 ∧ 0 < ps.length then .ok (.lst ((sortP ps).map pairD)) else .bad) σ H Q := h
          by_cases hl : ps.length < 64 ∧ 0 < ps.length
          · rw [if_pos hl] at h
            have ey := pairsI_V e kr
            subst ey
            refine ⟨.ref a, hv1, .inr (.inr (.inl ⟨rfl, .inl ⟨_, hH⟩⟩)), a, _, rfl, rfl, hH, fun w hw => ?_⟩
            refine ⟨w, a, ps, rfl, upd_same, Same.upd hw _ _ hH, hl.1, hl.2, fun as B H' sm hB hB' al ht => ?_⟩
            have s1 : Same H H' := (Same.upd hw).trans sm
            refine h _ _ s1 (rep_lst (SqL.of hB') (j.notO ((Same.upd (o := .ext fun h => h.IsItemsView w a) hw).free hB)) (reps_pairs as (sortP ps) (by rw [sortP_len]; exact al) ht))
          · rw [if_neg hl] at h; exact h.elim
end
end Pu
namespace Pu
open PySem PySem.Spec L2
open PyProof.Rows hiding St
section
variable {X : Cx} {a b : Expr} {es : List Expr} {f g : Rho → R D} {fa : Rho → R (List D)} {pos : Pos}
def parS (i k : Nat) (f g : Rho → R D) : Rho → So := fun ρ => ofR (f ρ) ρ fun d => ofR (g ρ) ρ fun e => .nx ((ρ.set i (some (.val d))).set k (some (.val e)))
theorem ds_par (i k : Nat) {x y : Str} {px py pt : Pos} {kt k2 pt2} (hc : X.calm = true) (hN : X.N.Nodup) (ha : DE X a f) (hb : DE X b g) (hi : X.N[i]? = some x := by rfl) (hk : X.N[k]? = some y := by rfl) (hik : i ≠ k := by decide)
    (hx : X.env.scope.names.lookup x = some .local := by rfl) (hy : X.env.scope.names.lookup y = some .local := by rfl)
    (h1 : starEach [a, b] X.env = (false, eval a X.env) :: starEach [b] X.env := by rfl) (h2 : starEach [b] X.env = (false, eval b X.env) :: starEach [] X.env := by rfl)
    (hw : swappedStores [.Tuple [.Name x px, .Name y py] kt pt] (.Tuple [a, b] k2 pt2) X.env = pure (some [x, y]) := by rfl)
    (hs : swapsWithSole [.Tuple [.Name x px, .Name y py] kt pt] (.Tuple [a, b] k2 pt2) pos.line X.env = pure false := by rfl) :
    DS X (.Assign [.Tuple [.Name x px, .Name y py] kt pt] (.Tuple [a, b] k2 pt2) pos) (parS i k f g) := by
  refine PS.imp (ps_par hc hN hi hk hik hx hy (pa_cons ha (pa_cons hb pa_nil h2) h1) hw hs) fun σ H E h => ?_
  obtain ⟨H0, O0, O, ρ, j, h⟩ := h
  refine ⟨ρ, O, j.inn, ?_⟩
  unfold parS ofR at h
  cases e1 : f ρ with
  | bad => rw [e1] at h; exact h
  | err c => rw [e1] at h; exact h σ H O j
  | ok d =>
    rw [e1] at h
    intro v H1 s1 rv
    have j1 := j.grow s1
    refine ⟨ρ, O, j1.inn, ?_⟩
    cases e2 : g ρ with
    | bad => simp only [e2] at h; exact h
    | err c => simp only [e2] at h; exact XOk.same (h σ H O j) s1
    | ok e =>
      simp only [e2] at h
      intro w H2 s2 rw2
      refine ⟨v, w, rfl, ?_⟩
      exact h _ H2 O (((j1.grow s2).set (List.getElem?_eq_some_iff.mp hi).1 (rv.same s2)).set (List.getElem?_eq_some_iff.mp hk).1 rw2) ((Same.rch s1).trans (Same.rch s2))
def parO (i k : Nat) (f : Rho → R D) (fa : Rho → R (List D)) : Rho → So := fun ρ => ofR (f ρ) ρ fun d => match fa ρ with
  | .ok ds => if ds.length ≤ 1000000 then .nx ((ρ.set i (some (.val d))).set k (some (.lst ds))) else .bad
  | _ => .bad
theorem ds_parO (i k : Nat) {x y : Str} {px py pt p3 : Pos} {kt k2 pt2} (hc : X.calm = true) (hN : X.N.Nodup) (ha : DE X a f) (hb : DA X es fa) (hi : X.N[i]? = some x := by rfl) (hk : X.N[k]? = some y := by rfl)
    (hx : Loc X.env.scope x := by first | exact Or.inl rfl | exact Or.inr rfl) (hy : Loc X.env.scope y := by first | exact Or.inl rfl | exact Or.inr rfl)
    (hfx : X.fn x = true ∨ X.env.scope.names.lookup x = some .local := by first | exact .inl rfl | exact .inr rfl) (hfy : X.fn y = true ∨ X.env.scope.names.lookup y = some .local := by first | exact .inl rfl | exact .inr rfl)
    (h1 : starEach [a, .List es p3] X.env = (false, eval a X.env) :: starEach [.List es p3] X.env := by rfl) (h2 : starEach [.List es p3] X.env = (false, eval (.List es p3) X.env) :: starEach [] X.env := by rfl)
    (hs : swapsWithSole [.Tuple [.Name x px, .Name y py] kt pt] (.Tuple [a, .List es p3] k2 pt2) pos.line X.env = pure false := by rfl) (hw : swappedStores [.Tuple [.Name x px, .Name y py] kt pt] (.Tuple [a, .List es p3] k2 pt2) X.env = pure none := by rfl) :
    DS X (.Assign [.Tuple [.Name x px, .Name y py] kt pt] (.Tuple [a, .List es p3] k2 pt2) pos) (parO i k f fa) := by
  refine PS.imp (ps_asg (pe_tup (pa_cons ha (pa_cons (pe_lstK hb) pa_nil h2) h1)) (pg_tup hc (pgs_cons (pg_name hN hi hx hfx) (pgs_cons (pg_name hN hk hy hfy) pgs_nil))) hs hw) fun σ H E h => ?_
  obtain ⟨H0, O0, O, ρ, j, h⟩ := h
  refine ⟨ρ, O, j.inn, ?_⟩
  unfold parO ofR at h
  cases e1 : f ρ with
  | bad => rw [e1] at h; exact h
  | err c => rw [e1] at h; exact h σ H O j
  | ok d =>
    rw [e1] at h
    intro v H1 s1 rv
    have j1 := j.grow s1
    refine ⟨ρ, O, j1.inn, ?_⟩
    cases e2 : fa ρ with
    | bad => simp only [e2] at h; exact h
    | err c => simp only [e2] at h; exact h.elim
    | ok ds =>
      simp only [e2] at h
      by_cases hl : ds.length ≤ 1000000
      · simp only [if_pos hl] at h
        intro vs H2 s2 rvs
        refine ⟨by rw [← rvs.length]; exact Nat.le_trans hl sizeLine_ge, fun p hp hpk => ?_⟩
        refine ⟨by show 2 ≤ sizeLine; decide, fun t ht => ?_⟩
        refine ⟨t, [v, .ref p], rfl, SqT.of upd_same, rfl, v, [.ref p], rfl, .ref p, [], rfl, rfl, ?_⟩
        have j2 := (j1.grow s2).set (List.getElem?_eq_some_iff.mp hi).1 (rv.same s2)
        obtain ⟨j3, r3⟩ := j2.own (List.getElem?_eq_some_iff.mp hk).1 (o := .lst vs) (en := .lst ds) hp hpk rfl ⟨p, vs, rfl, .inr rfl, upd_same, rvs.go ⟨(Same.rch (K := X.K) (O := O) (Same.upd hp)).ext, fun a z => z.elim .inl fun e => .inr (by rw [e]; exact ⟨hp, hpk⟩), (Same.rch (K := X.K) (O := O) (Same.upd hp)).dom⟩⟩
        have s4 : Same (upd H2 p (.lst vs)) (upd (upd H2 p (.lst vs)) t (.tup [v, .ref p])) := Same.upd ht
        exact h _ _ _ (j3.grow s4) ((((Same.rch s1).trans (Same.rch s2)).trans r3).trans (Same.rch s4))
      · simp only [if_neg hl] at h; exact h.elim
end
def ans_int (s : String) : Bool := s == "int" || s == "bool"
def ans_bool (s : String) : Bool := s == "bool"
def ans_tuple (s : String) : Bool := s == "tuple"
def ans_list (s : String) : Bool := s == "list"
def FnD (P : Program) (w : World) (K : PySem.W.Frag) (mg : Str → Option Value) (base : Heap) (k : Nat) (x : Str) (n : Nat) (F : List D → R D) : Prop :=
  ∃ f fd ps, FnOk P w K mg base CX0 k f fd ps (spD K n F) ∧ mg x = some (.ref f) ∧ PySem.W.keepIn K (.ref f) = true ∧ Binds K fd ps []
theorem de_fn {X : Cx} {k n m : Nat} {F : List D → R D} {x : Str} {p pos : Pos} {e : Expr} {es : List Expr} {fa : Rho → R (List D)} (G : FnD X.prog X.w X.K X.mg X.base k x n F) (hr : Room m X.A) (hkm : k ≤ m) (ha : DA X (e :: es) fa) (hg : Gl X x := by rfl)
    (hdb : (x == ("__debug__" : Str)) = false := by decide) (he : starEach (e :: es) X.env = (false, eval e X.env) :: starEach es X.env := by rfl) (hpl : (backTo pos (starEach es X.env)).any (·.1) = false := by rfl) :
    DE X (.Call (.Name x p) (e :: es) [] pos) (callV (noErr F n) fa) := by
  obtain ⟨f, fd, ps, ok, hm, hk, hb⟩ := G
  exact de_call ok (hr.mono hkm) hg hm hk hb ha hdb he hpl
theorem room_u {A : Around} {k : Nat} (hr : Room k A) : A.units + 60 < cLine := by have := hr.un; omega
theorem fnD_of {P : Program} {w : World} {K : PySem.W.Frag} {mg : Str → Option Value} {base : Heap} {x qual : Str} {st : Stmt} {f : Addr} {fd : FuncData} {N ps : List Str} {k n m : Nat} {g : Rho → So} (Fn : Fun K x qual st f fd) (hmg : mg x = some (.ref f)) (hb : Binds K fd ps []) (S : FnScope N ps (defScope st)) (hn : ps.length = n) (hm : N.length = n + m)
    (hbody : ∀ (cdv : Value) (A : Around) (outer : List PySem.Env) (s : Shared) (H : Hp) (E : XK), Room k (A.deeper (envOfC qual (defScope st) s.heap.objs.size f cdv)) → DSs (cxOf CX0 P w K mg base N qual (defScope st) f cdv A outer s H E).nox (defBody st) g) :
    FnD P w K mg base (k + 1) x n (runB m g) := ⟨f, fd, ps, fnD Fn S hn hm hbody fun ds d _ e => e, hmg, Fn.kp, hb⟩
theorem sp_law {K : PySem.W.Frag} {F : List D → R D} {H : Hp} {a : Addr} {ns : List Int} {E : XK} (hS : SqL K H a (ns.map V.int)) (hF : F [.lst (ns.map D.int)] = .ok (.bl true)) : spD K 1 F [.ref a] H (fun v _ => v = .bl true) E := by
  refine ⟨fun _ => False, [.lst (ns.map D.int)], .cons (rep_lst hS (fun z => z) ?_) .nil, rfl, fun a z => z.elim, ?_⟩
  · have : ∀ l : List Int, Reps K (fun _ => False) H (l.map D.int) (l.map V.int) := by
      intro l
      induction l with
      | nil => exact .nil
      | cons i l ih => exact .cons (rep_int i) ih
    exact this ns
  · rw [hF]
    exact fun v H' _ r => r.bl
end Pu
namespace Pu
open PySem PySem.Spec L2
theorem mapO_on {α : Type} {k : D → R (Option D)} {c h : α → D} : ∀ {l : List α}, (∀ a ∈ l, k (c a) = .ok (some (h a))) → mapO k (l.map c) = .ok (l.map h)
  | [], _ => rfl
  | a :: l, q => by
    rw [List.map_cons, mapO, q a (by simp), noE_ok, R.bind_ok, mapO_on fun b hb => q b (by simp [hb])]
    rfl
theorem boolsOf_on {α : Type} {c : α → Bool} : ∀ {l : List α}, boolsOf (l.map fun a => .bl (c a)) = some (l.map c)
  | [] => rfl
  | a :: l => by
    rw [List.map_cons, boolsOf, boolsOf_on]
    rfl
theorem intsOf_on {α : Type} {c : α → Int} : ∀ {l : List α}, intsOf (l.map fun a => .int (c a)) = some (l.map c)
  | [] => rfl
  | a :: l => by
    rw [List.map_cons, intsOf, intsOf_on]
    rfl
theorem deps_on {α : Type} {c : α → D} {n : Nat} : ∀ {l : List α}, (∀ a ∈ l, dep (c a) ≤ n) → deps (l.map c) ≤ n
  | [], _ => by rw [List.map_nil, deps]; omega
  | a :: l, h => by
    rw [List.map_cons, deps]
    have := h a (by simp)
    have := deps_on (l := l) fun b hb => h b (by simp [hb])
    omega
theorem neK_same {d e : D} (h : d = e) (hd : dep d ≤ 40) : neK d e = .ok (.bl false) := by
  subst h
  rw [neK, if_pos hd, eqD_refl]; rfl
theorem eqK_same {d e : D} (h : d = e) (hd : dep d ≤ 40) : eqK d e = .ok (.bl true) := by
  subst h
  rw [eqK, if_pos hd, eqD_refl]
theorem all_true {l : List α} : (l.map fun _ => true).all id = true := by
  induction l with
  | nil => rfl
  | cons a l ih => rw [List.map_cons, List.all_cons, ih]; rfl
theorem atI_nat {α : Type} {xs : List α} {j : Nat} (h : j < xs.length) : atI xs (j : Int) = some xs[j] := by
  unfold atI ixN
  rw [if_pos (by omega), if_pos (by omega), Int.toNat_natCast, Option.bind_some, List.getElem?_eq_getElem h]
theorem atI_int {α : Type} {xs : List α} {i : Int} (h0 : 0 ≤ i) (h1 : i < xs.length) : ∃ x ∈ xs, atI xs i = some x := by
  obtain ⟨j, rfl⟩ := Int.eq_ofNat_of_zero_le h0
  have hj : j < xs.length := by omega
  exact ⟨xs[j], List.getElem_mem hj, atI_nat hj⟩
theorem comp_on {α : Type} {n : Nat} {caps : List Nat} {fi : Rho → R (List D)} {gt : D → Rho → R Rho} {ft : Rho → R Bool} {fe : Rho → R D} {ρ : Rho} {c h : α → D} {l : List α} (e1 : fi ρ = .ok (l.map c)) (hl : l.length ≤ 1000000)
    (e2 : ∀ a ∈ l, eltV gt ft fe (pullN n caps ρ) (c a) = .ok (some (h a))) : compV n caps fi gt ft fe ρ = .ok (.lst (l.map h)) := by
  rw [compV, e1, R.bind_ok, mapO_on e2, R.bind_ok, cap, if_pos (by rw [List.length_map]; exact hl)]
def emb (p : Int × Int) : Key × D := (Sum.inl p.1, .int p.2)
def look : List (Int × Int) → Int → Int
  | [], _ => 0
  | (k, v) :: r, c => if k = c then v else look r c
def bumpN : List (Int × Int) → Int → List (Int × Int)
  | [], c => [(c, 1)]
  | (k, v) :: r, c => if k = c then (k, v + 1) :: r else (k, v) :: bumpN r c
abbrev keys (ps : List (Int × Int)) : List Int := ps.map (·.1)
theorem valD_look {c : Int} : ∀ {ps : List (Int × Int)}, (valD (ps.map emb) (Sum.inl c)).getD (.int 0) = .int (look ps c)
  | [] => rfl
  | (k, v) :: r => by
    have ih := valD_look (c := c) (ps := r)
    unfold valD at ih ⊢
    rw [List.map_cons, List.find?_cons, look]
    by_cases h : k = c
    · rw [if_pos h, show decide ((emb (k, v)).1 = Sum.inl c) = true from decide_eq_true (by rw [h]; rfl)]; rfl
    · rw [if_neg h, show decide ((emb (k, v)).1 = Sum.inl c) = false from decide_eq_false fun e => h (Sum.inl.inj e)]
      exact ih
theorem map_away {c : Int} {d : D} : ∀ {ps : List (Int × Int)}, c ∉ keys ps → (ps.map emb).map (fun kv => if kv.1 = Sum.inl c then (kv.1, d) else kv) = ps.map emb
  | [], _ => rfl
  | (k, v) :: r, h => by
    rw [List.map_cons, List.map_cons, map_away (ps := r) (fun e => h (by simp [e]))]
    rw [if_neg]
    exact fun e => h (by rw [← Sum.inl.inj e]; simp [emb])
theorem any_key {c : Int} : ∀ {ps : List (Int × Int)}, ((ps.map emb).any fun kv => decide (kv.1 = Sum.inl c)) = decide (c ∈ keys ps)
  | [] => by simp
  | (k, v) :: r => by
    rw [List.map_cons, List.any_cons, any_key]
    by_cases h : k = c
    · rw [show decide ((emb (k, v)).1 = Sum.inl c) = true from decide_eq_true (by rw [h]; rfl), Bool.true_or]; symm; exact decide_eq_true (by simp [h])
    · rw [show decide ((emb (k, v)).1 = Sum.inl c) = false from decide_eq_false fun e => h (Sum.inl.inj e), Bool.false_or]
      refine decide_eq_decide.mpr ?_
      rw [keys, keys, List.map_cons, List.mem_cons]
      exact ⟨.inr, fun e => e.resolve_left fun e => h e.symm⟩
theorem bump_away {c : Int} : ∀ {ps : List (Int × Int)}, c ∉ keys ps → bumpN ps c = ps ++ [(c, 1)]
  | [], _ => rfl
  | (k, v) :: r, h => by
    rw [bumpN, if_neg (fun e => h (by simp [e])), bump_away fun e => h (by simp [e])]; rfl
theorem look_away {c : Int} : ∀ {ps : List (Int × Int)}, c ∉ keys ps → look ps c = 0
  | [], _ => rfl
  | (k, v) :: r, h => by
    rw [look, if_neg (fun e => h (by simp [e])), look_away fun e => h (by simp [e])]
theorem map_bump {c : Int} : ∀ {ps : List (Int × Int)}, (keys ps).Nodup → c ∈ keys ps → (ps.map emb).map (fun kv => if kv.1 = Sum.inl c then (kv.1, D.int (look ps c + 1)) else kv) = (bumpN ps c).map emb
  | [], _, h => by simp at h
  | (k, v) :: r, hn, h => by
    rw [bumpN, look]
    obtain ⟨n1, n2⟩ := List.nodup_cons.mp hn
    by_cases e : k = c
    · subst e
      rw [if_pos rfl, if_pos rfl, List.map_cons, List.map_cons, map_away n1, List.map_cons, if_pos (show (emb (k, v)).1 = Sum.inl k from rfl)]; rfl
    · rw [if_neg e, if_neg e, List.map_cons, List.map_cons, List.map_cons, if_neg (show ¬ (emb (k, v)).1 = Sum.inl c from fun q => e (Sum.inl.inj q))]
      have hc : c ∈ keys r := by
        rw [keys, List.map_cons, List.mem_cons] at h
        exact h.resolve_left fun q => e q.symm
      rw [map_bump n2 hc]
theorem putD_bump {c : Int} {ps : List (Int × Int)} (hn : (keys ps).Nodup) : putD (ps.map emb) (Sum.inl c) (.int (look ps c + 1)) = (bumpN ps c).map emb := by
  unfold putD
  by_cases h : c ∈ keys ps
  · rw [if_pos (by rw [any_key]; exact decide_eq_true h)]
    exact map_bump hn h
  · rw [if_neg (by rw [any_key]; intro e; exact h (of_decide_eq_true e)), bump_away h, look_away h, List.map_append]; rfl
theorem pairsI_emb : ∀ {ps : List (Int × Int)}, pairsI (ps.map emb) = some ps
  | [] => rfl
  | (k, v) :: r => by
    rw [List.map_cons, emb, pairsI, pairsI_emb]; rfl
theorem bump_mem {c d : Int} : ∀ {ps : List (Int × Int)}, d ∈ keys (bumpN ps c) → d ∈ keys ps ∨ d = c
  | [], h => by simp [bumpN] at h; exact .inr h
  | (k, v) :: r, h => by
    rw [bumpN] at h
    by_cases e : k = c
    · rw [if_pos e] at h
      exact .inl (by simpa using h)
    · rw [if_neg e, keys, List.map_cons, List.mem_cons] at h
      rcases h with h | h
      · exact .inl (by simp [h])
      · rcases bump_mem h with h | h
        · exact .inl (by rw [keys, List.map_cons, List.mem_cons]; exact .inr h)
        · exact .inr h
theorem bump_nd {c : Int} : ∀ {ps : List (Int × Int)}, (keys ps).Nodup → (keys (bumpN ps c)).Nodup
  | [], _ => by simp [bumpN]
  | (k, v) :: r, h => by
    obtain ⟨n1, n2⟩ := List.nodup_cons.mp h
    rw [bumpN]
    by_cases e : k = c
    · rw [if_pos e]; exact h
    · rw [if_neg e]
      refine List.nodup_cons.mpr ⟨fun q => ?_, bump_nd n2⟩
      rcases bump_mem q with q | q
      · exact n1 q
      · exact e q
theorem look_bump {c d : Int} : ∀ {ps : List (Int × Int)}, look (bumpN ps c) d = look ps d + (if c = d then 1 else 0)
  | [] => by
    rw [bumpN, look, look, look]; by_cases e : c = d <;> simp [e]
  | (k, v) :: r => by
    rw [bumpN]
    by_cases e : k = c
    · rw [if_pos e, look, look]
      by_cases q : k = d
      · rw [if_pos q, if_pos q, if_pos (by rw [← e]; exact q)]
      · rw [if_neg q, if_neg q, if_neg (by rw [← e]; exact q)]; omega
    · rw [if_neg e, look, look]
      by_cases q : k = d
      · rw [if_pos q, if_pos q, if_neg (by intro z; exact e (q.trans z.symm))]; omega
      · rw [if_neg q, if_neg q, look_bump]
theorem bump_pos {c : Int} : ∀ {ps : List (Int × Int)}, (∀ p ∈ ps, 0 < p.2) → ∀ p ∈ bumpN ps c, 0 < p.2
  | [], _, p, h => by simp [bumpN] at h; rw [h]; exact Int.one_pos
  | (k, v) :: r, q, p, h => by
    rw [bumpN] at h
    have := q (k, v) (by simp)
    split at h
    · rcases List.mem_cons.mp h with h | h
      · rw [h]; show 0 < v + 1; have : 0 < v := this; omega
      · exact q p (by simp [h])
    · rcases List.mem_cons.mp h with h | h
      · rw [h]; exact this
      · exact bump_pos (fun p hp => q p (by simp [hp])) p h
def tally (l : List Int) : List (Int × Int) := l.foldl bumpN []
structure Tal (ps : List (Int × Int)) (l : List Int) : Prop where
  nd : (keys ps).Nodup
  lk : ∀ c, look ps c = (l.count c : Int)
  pos : ∀ p ∈ ps, 0 < p.2
  sv : (ps.map (·.2)).sum = l.length
  skv : (ps.map fun p => p.1 * p.2).sum = l.sum
theorem sum_bump {c : Int} : ∀ {ps : List (Int × Int)}, ((bumpN ps c).map (·.2)).sum = (ps.map (·.2)).sum + 1 ∧ ((bumpN ps c).map fun p => p.1 * p.2).sum = (ps.map fun p => p.1 * p.2).sum + c
  | [] => by simp [bumpN]
  | (k, v) :: r => by
    rw [bumpN]
    split
    · rename_i e
      subst e
      simp only [List.map_cons, List.sum_cons, Int.mul_add]
      constructor <;> omega
    · have ⟨a, b⟩ := sum_bump (c := c) (ps := r)
      simp only [List.map_cons, List.sum_cons, a, b]
      constructor <;> omega
theorem Tal.step {ps : List (Int × Int)} {l : List Int} (t : Tal ps l) (c : Int) : Tal (bumpN ps c) (l ++ [c]) := by
  refine ⟨bump_nd t.nd, fun d => ?_, bump_pos t.pos, ?_, ?_⟩
  · rw [look_bump, t.lk, List.count_append]
    by_cases e : c = d
    · subst e; rw [if_pos rfl]; simp
    · rw [if_neg e, List.count_singleton, if_neg (by simpa using e)]; simp
  · rw [sum_bump.1, t.sv]; simp
  · rw [sum_bump.2, t.skv, List.sum_append]; simp
theorem Tal.nil : Tal [] [] := ⟨by simp, fun c => by simp [look], fun p h => by simp at h, rfl, rfl⟩
theorem tally_from {l : List Int} : ∀ {m : List Int} {ps : List (Int × Int)}, Tal ps m → Tal (l.foldl bumpN ps) (m ++ l) := by
  induction l with
  | nil => intro m ps t; simpa using t
  | cons c l ih =>
    intro m ps t
    have := ih (t.step c)
    rw [List.append_assoc] at this
    exact this
theorem tally_tal (l : List Int) : Tal (tally l) l := by have := tally_from (l := l) Tal.nil; rwa [List.nil_append] at this
theorem look_mem {k v : Int} : ∀ {ps : List (Int × Int)}, (keys ps).Nodup → (k, v) ∈ ps → look ps k = v
  | [], _, h => by simp at h
  | (a, b) :: r, hn, h => by
    obtain ⟨n1, n2⟩ := List.nodup_cons.mp hn
    rw [look]
    rcases List.mem_cons.mp h with h | h
    · cases h; rw [if_pos rfl]
    · rw [if_neg, look_mem n2 h]
      intro e
      subst e
      exact n1 (List.mem_map.mpr ⟨_, h, rfl⟩)
theorem mem_look {k : Int} : ∀ {ps : List (Int × Int)}, look ps k ≠ 0 → (k, look ps k) ∈ ps
  | [], h => by simp [look] at h
  | (a, b) :: r, h => by
    rw [look] at h ⊢
    by_cases e : a = k
    · rw [if_pos e, e]; simp
    · rw [if_neg e] at h ⊢
      exact List.mem_cons_of_mem _ (mem_look h)
theorem Tal.mem {ps : List (Int × Int)} {l : List Int} (t : Tal ps l) (k v : Int) : (k, v) ∈ ps ↔ v = (l.count k : Int) ∧ v ≠ 0 := by
  constructor
  · intro h
    have := t.pos _ h
    exact ⟨by rw [← t.lk, look_mem t.nd h], by have : 0 < v := this; omega⟩
  · rintro ⟨h, h0⟩
    rw [← t.lk] at h
    rw [h]
    exact mem_look (by rw [← h]; exact h0)
theorem perm_nd {α : Type} [BEq α] [LawfulBEq α] {a b : List α} (ha : a.Nodup) (hb : b.Nodup) (h : ∀ x, x ∈ a ↔ x ∈ b) : a.Perm b := by
  refine List.perm_iff_count.mpr fun x => ?_
  have h1 := List.nodup_iff_count.mp ha x
  have h2 := List.nodup_iff_count.mp hb x
  by_cases hx : x ∈ a
  · have := List.count_pos_iff.mpr hx
    have := List.count_pos_iff.mpr ((h x).mp hx)
    omega
  · have := List.count_eq_zero.mpr hx
    have := List.count_eq_zero.mpr fun z => hx ((h x).mpr z)
    omega
theorem Tal.keyin {ps : List (Int × Int)} {l : List Int} (t : Tal ps l) {k : Int} (h : k ∈ keys ps) : k ∈ l := by
  obtain ⟨⟨a, v⟩, hp, rfl⟩ := List.mem_map.mp h
  obtain ⟨e, n⟩ := (t.mem _ _).mp hp
  refine List.count_pos_iff.mp ?_
  show 0 < l.count a
  omega
theorem nd_len {α : Type} [BEq α] [LawfulBEq α] : ∀ {a m : List α}, a.Nodup → (∀ x ∈ a, x ∈ m) → a.length ≤ m.length
  | [], _, _, _ => by simp
  | x :: a, m, h, q => by
    obtain ⟨h1, h2⟩ := List.nodup_cons.mp h
    have hx : x ∈ m := q x (by simp)
    have := nd_len (a := a) (m := m.erase x) h2 fun y hy => (List.mem_erase_of_ne (fun e => h1 (by rw [← e]; exact hy))).mpr (q y (by simp [hy]))
    have e := List.length_erase_of_mem hx
    have := List.length_pos_of_mem hx
    rw [List.length_cons]
    omega
theorem Tal.few {ps : List (Int × Int)} {l m : List Int} (t : Tal ps l) (h : ∀ c ∈ l, c ∈ m) : ps.length ≤ m.length := by
  have := nd_len t.nd fun k hk => h k (t.keyin hk)
  rwa [List.length_map] at this
theorem Tal.some {ps : List (Int × Int)} {l : List Int} (t : Tal ps l) (h : 0 < l.length) : 0 < ps.length := by
  cases ps with
  | nil => have := t.sv; simp at this; omega
  | cons _ _ => simp
def tal (l : List Int) : List (Int × Int) := sortP (tally l)
theorem tal_rise (l : List Int) : Rise (tal l) := sortP_rise (tally_tal l).nd
theorem tal_perm (l : List Int) : (tal l).Perm (tally l) := sortP_perm _
theorem tal_mem (l : List Int) (k v : Int) : (k, v) ∈ tal l ↔ v = (l.count k : Int) ∧ v ≠ 0 := by rw [(tal_perm l).mem_iff, (tally_tal l).mem]
theorem rise_nd {a : List (Int × Int)} (h : Rise a) : a.Nodup := List.Pairwise.imp (fun {p q} z e => by rw [e] at z; exact absurd z (Int.lt_irrefl _)) h
theorem rise_ext {a b : List (Int × Int)} (ha : Rise a) (hb : Rise b) (h : ∀ k v, (k, v) ∈ a ↔ (k, v) ∈ b) : a = b := rise_uniq (perm_nd (rise_nd ha) (rise_nd hb) fun p => h p.1 p.2) ha hb
end Pu
namespace Pu
open PySem PySem.Spec L2
section
variable {ρ ρ' : Rho} {f g : Rho → R D} {fa : Rho → R (List D)} {p q : Rho → R Bool} {x y d : D} {xs ds : List D} {r : R D} {k : D → D → R D} {c : List D → R D} {n : Nat} {F : List D → R D} {o : So} {s t : Rho → So} {gt : D → Rho → R Rho} {b : Bool}
theorem ev_call (e : fa ρ = .ok ds) (h : c ds = r) : callV c fa ρ = r := by rw [callV, e]; exact h
theorem ev_fn (e : fa ρ = .ok ds) (h : F ds = .ok d) (hl : ds.length = n := by rfl) : callV (noErr F n) fa ρ = .ok d := by rw [callV, e, R.bind_ok, noErr, if_pos hl, h]; rfl
theorem ev_cons (e1 : f ρ = .ok x) (e2 : fa ρ = .ok xs) : consA f fa ρ = .ok (x :: xs) := by rw [consA, e1, R.bind_ok, e2]; rfl
theorem ev_one (e : f ρ = .ok x) : consA f (fun _ => .ok []) ρ = .ok [x] := ev_cons e rfl
theorem ev_bin (e1 : f ρ = .ok x) (e2 : g ρ = .ok y) (h : k x y = r) : bin f g k ρ = r := by rw [bin, e1, R.bind_ok, e2]; exact h
theorem ev_and (e1 : f ρ = .ok (.bl true)) (e2 : g ρ = r) : andV f g ρ = r := by rw [andV, e1]; exact e2
theorem ev_chn {h : Rho → R D} {l : D → D → R D} {z : D} (e1 : f ρ = .ok x) (e2 : g ρ = .ok y) (e3 : k x y = .ok (.bl true)) (e4 : h ρ = .ok z) (e5 : l y z = r) : chn f g h k l ρ = r := by
  rw [chn, e1, R.bind_ok, e2, R.bind_ok, e3, R.bind_ok]
  show (h ρ).bind _ = _
  rw [e4]; exact e5
theorem ev_tup (e : fa ρ = .ok ds) (h : ds.length ≤ 1000000 := by exact Nat.le_of_ble_eq_true rfl) : tupV fa ρ = .ok (.tup ds) := by rw [tupV, e, R.bind_ok, cap, if_pos h]
theorem ev_lst (e : fa ρ = .ok ds) (h : ds.length ≤ 1000000 := by exact Nat.le_of_ble_eq_true rfl) : lstV fa ρ = .ok (.lst ds) := by rw [lstV, e, R.bind_ok, cap, if_pos h]
theorem ev_rev (e : f ρ = .ok (.tup ds)) : revV f ρ = .ok (.tup ds.reverse) := by rw [revV, e]; rfl
theorem ev_seqT (e : f ρ = .ok (.tup ds)) : seqI f ρ = .ok ds := by rw [seqI, e]; rfl
theorem ev_seqL (e : f ρ = .ok (.lst ds)) : seqI f ρ = .ok ds := by rw [seqI, e]; rfl
theorem ev_rng {m : Nat} (e : fa ρ = .ok [.int (m : Int)]) (h : m < 2 ^ 62) : (fun ρ => (fa ρ).bind rng1) ρ = .ok ((List.range m).map fun (i : Nat) => D.int (i : Int)) := by
  show (fa ρ).bind rng1 = _
  rw [e, R.bind_ok, rng1, if_pos ⟨by have : (0 : Int) ≤ m := Int.natCast_nonneg m; omega, by omega⟩]
  simp [upto]
theorem ev_elt {ρ1 : Rho} (e1 : gt x ρ = .ok ρ1) (e2 : f ρ1 = .ok d) : eltV gt (fun _ => .ok true) f ρ x = .ok (some d) := by
  rw [eltV, e1, R.bind_ok, R.bind_ok, if_pos rfl, e2]; rfl
theorem ev_tst (e : f ρ = .ok (.bl b)) : tst f ρ = .ok b := by rw [tst, e]; rfl
theorem ev_not (e : p ρ = .ok b) : notT p ρ = .ok (!b) := by rw [notT, e]; rfl
theorem ev_orF (e1 : p ρ = .ok false) (e2 : q ρ = .ok b) : orT p q ρ = .ok b := by rw [orT, e1, R.bind_ok, if_neg (by decide)]; exact e2
theorem ev_andT (e1 : p ρ = .ok true) (e2 : q ρ = .ok b) : andT p q ρ = .ok b := by rw [andT, e1, R.bind_ok, if_pos rfl]; exact e2
theorem ev_andF (e1 : p ρ = .ok false) : andT p q ρ = .ok false := by rw [andT, e1, R.bind_ok, if_neg (by decide)]
theorem ev_ix {i : Nat} (h : xs[i]? = some d) : ixD (.tup xs) (.int (i : Int)) = .ok d := by
  obtain ⟨hi, e⟩ := List.getElem?_eq_some_iff.mp h
  rw [ixD, atI_nat hi, e]
theorem ev_seq (e1 : s ρ = .nx ρ') (e2 : t ρ' = o) : seqS s t ρ = o := by rw [seqS, e1]; exact e2
theorem ev_ret (e : f (thaw ρ) = .ok d) : retS f ρ = .rt d := by rw [retS, e]; rfl
theorem ev_asg (e : f ρ = .ok d) (e2 : gt d ρ = .ok ρ') : asgS f gt ρ = .nx ρ' := by rw [asgS, e]; show (match gt d ρ with | .ok ρ' => So.nx ρ' | _ => .bad) = _; rw [e2]
theorem ev_expr (e : f (thaw ρ) = .ok d) : exprS f ρ = .nx ρ := by rw [exprS, e]; rfl
theorem ev_ifT (e : p (thaw ρ) = .ok true) (e2 : s ρ = o) : ifS p s t ρ = o := by rw [ifS, e]; exact e2
theorem ev_ifF (e : p (thaw ρ) = .ok false) (e2 : t ρ = o) : ifS p s t ρ = o := by rw [ifS, e]; exact e2
theorem ev_rt {m : Nat} (e : s (ds.map (fun d => some (.val d)) ++ List.replicate m none) = .rt d) : runB m s ds = .ok d := by rw [runB, e]
theorem ev_nx {m : Nat} (e : s (ds.map (fun d => some (.val d)) ++ List.replicate m none) = .nx ρ) : runB m s ds = .ok .non := by rw [runB, e]
theorem ev_mul {i j : Int} (h : (-(2 ^ 64) < i ∧ i < 2 ^ 64) ∨ (-(2 ^ 64) < j ∧ j < 2 ^ 64)) : mulI (.int i) (.int j) = .ok (.int (i * j)) := by
  show (if _ then _ else _) = _
  rw [if_pos h]
theorem ev_div {i j : Int} (h : 0 < j ∧ j < 2 ^ 64) : divI (.int i) (.int j) = .ok (.int (i / j)) := by
  show (if _ then _ else _) = _
  rw [if_pos h]
theorem ev_mod {i j : Int} (h : 0 < j) : modI (.int i) (.int j) = .ok (.int (i % j)) := by
  show (if _ then _ else _) = _
  rw [if_pos h]
theorem ev_allL {α : Type} {l : List α} : allD [.lst (l.map fun _ => .bl true)] = .ok (.bl true) := by
  have := boolsOf_on (c := fun _ : α => true) (l := l)
  rw [allD, this]
  show R.ok (D.bl _) = _
  rw [all_true]
theorem ev_sumL {α : Type} {c : α → Int} {l : List α} : sumD [.lst (l.map fun a => .int (c a))] = .ok (.int (l.map c).sum) := by rw [sumD, intsOf_on]
theorem ev_sumT {α : Type} {c : α → Int} {l : List α} : sumD [.tup (l.map fun a => .int (c a))] = .ok (.int (l.map c).sum) := by rw [sumD, intsOf_on]
end
end Pu
namespace Pu
open PySem PySem.Spec L2
def g_drawn : Rho → So := (seqS (asgS (bin (fun _ => .ok (.int 7)) (fun ρ => getV ρ 1) mulI) (setV 3)) (seqS (ifS (tst (bin (fun ρ => getV ρ 0) (lstV (fun _ => .ok [])) neK)) (seqS (asgS (bin (fun ρ => getV ρ 0) (bin (fun ρ => getV ρ 1) (callV lenD (consA (fun ρ => getV ρ 0) (fun _ => .ok []))) modI) ixD) (setV 3)) (seqS (asgS (bin (fun ρ => getV ρ 1) (callV lenD (consA (fun ρ => getV ρ 0) (fun _ => .ok []))) divI) (setV 4)) (seqS (ifS (andT (tst (bin (fun ρ => getV ρ 3) (bin (fun _ => .ok (.int 10)) (fun _ => .ok (.int 18)) powI) geI)) (tst (bin (fun ρ => getV ρ 4) (fun _ => .ok (.int 60)) ltI))) (seqS (asgS (bin (fun ρ => getV ρ 3) (bin (fun _ => .ok (.int 10)) (fun _ => .ok (.int 18)) powI) divI) (setV 5)) (seqS (whS (andT (tst (bin (fun ρ => getV ρ 5) (fun _ => .ok (.int 0)) gtI)) (tst (bin (fun ρ => getV ρ 4) (fun _ => .ok (.int 0)) gtI))) (seqS (asgS (bin (fun ρ => getV ρ 5) (fun _ => .ok (.int 1000000)) divI) (setV 5)) (asgS (bin (fun ρ => getV ρ 4) (fun _ => .ok (.int 1)) subI) (setV 4))) 64) (ifS (tst (bin (fun ρ => getV ρ 5) (fun _ => .ok (.int 0)) gtI)) (retS (bin (bin (fun ρ => getV ρ 5) (fun _ => .ok (.int 1000000)) modI) (fun ρ => getV ρ 2) modI)) So.nx))) So.nx) (asgS (bin (fun ρ => getV ρ 3) (bin (fun _ => .ok (.int 6553)) (bin (fun ρ => getV ρ 1) (callV lenD (consA (fun ρ => getV ρ 0) (fun _ => .ok []))) divI) mulI) catD) (setV 3))))) So.nx) (seqS (asgS (bin (bin (bin (bin (fun ρ => getV ρ 3) (fun _ => .ok (.int 2147483563)) modI) (fun _ => .ok (.int 69069)) mulI) (bin (fun _ => .ok (.int 104723)) (bin (fun ρ => getV ρ 1) (fun _ => .ok (.int 1)) catD) mulI) catD) (fun _ => .ok (.int 2147483563)) modI) (setV 3)) (seqS (asgS (bin (bin (bin (fun ρ => getV ρ 3) (fun ρ => getV ρ 3) mulI) (bin (fun ρ => getV ρ 3) (fun _ => .ok (.int 3)) divI) catD) (fun _ => .ok (.int 2147483399)) modI) (setV 3)) (retS (bin (bin (bin (bin (bin (fun ρ => getV ρ 3) (fun ρ => getV ρ 3) mulI) (bin (fun ρ => getV ρ 3) (fun _ => .ok (.int 7)) divI) catD) (fun _ => .ok (.int 2147483647)) modI) (fun _ => .ok (.int 11)) divI) (fun ρ => getV ρ 2) modI))))))
def tailD : Rho → So := (seqS (asgS (bin (bin (bin (bin (fun ρ => getV ρ 3) (fun _ => .ok (.int 2147483563)) modI) (fun _ => .ok (.int 69069)) mulI) (bin (fun _ => .ok (.int 104723)) (bin (fun ρ => getV ρ 1) (fun _ => .ok (.int 1)) catD) mulI) catD) (fun _ => .ok (.int 2147483563)) modI) (setV 3)) (seqS (asgS (bin (bin (bin (fun ρ => getV ρ 3) (fun ρ => getV ρ 3) mulI) (bin (fun ρ => getV ρ 3) (fun _ => .ok (.int 3)) divI) catD) (fun _ => .ok (.int 2147483399)) modI) (setV 3)) (retS (bin (bin (bin (bin (bin (fun ρ => getV ρ 3) (fun ρ => getV ρ 3) mulI) (bin (fun ρ => getV ρ 3) (fun _ => .ok (.int 7)) divI) catD) (fun _ => .ok (.int 2147483647)) modI) (fun _ => .ok (.int 11)) divI) (fun ρ => getV ρ 2) modI))))
def blkD : Rho → So := (ifS (andT (tst (bin (fun ρ => getV ρ 3) (bin (fun _ => .ok (.int 10)) (fun _ => .ok (.int 18)) powI) geI)) (tst (bin (fun ρ => getV ρ 4) (fun _ => .ok (.int 60)) ltI))) (seqS (asgS (bin (fun ρ => getV ρ 3) (bin (fun _ => .ok (.int 10)) (fun _ => .ok (.int 18)) powI) divI) (setV 5)) (seqS (whS (andT (tst (bin (fun ρ => getV ρ 5) (fun _ => .ok (.int 0)) gtI)) (tst (bin (fun ρ => getV ρ 4) (fun _ => .ok (.int 0)) gtI))) (seqS (asgS (bin (fun ρ => getV ρ 5) (fun _ => .ok (.int 1000000)) divI) (setV 5)) (asgS (bin (fun ρ => getV ρ 4) (fun _ => .ok (.int 1)) subI) (setV 4))) 64) (ifS (tst (bin (fun ρ => getV ρ 5) (fun _ => .ok (.int 0)) gtI)) (retS (bin (bin (fun ρ => getV ρ 5) (fun _ => .ok (.int 1000000)) modI) (fun ρ => getV ρ 2) modI)) So.nx))) So.nx)
def wcD : Rho → R Bool := (andT (tst (bin (fun ρ => getV ρ 5) (fun _ => .ok (.int 0)) gtI)) (tst (bin (fun ρ => getV ρ 4) (fun _ => .ok (.int 0)) gtI)))
def wbD : Rho → So := (seqS (asgS (bin (fun ρ => getV ρ 5) (fun _ => .ok (.int 1000000)) divI) (setV 5)) (asgS (bin (fun ρ => getV ρ 4) (fun _ => .ok (.int 1)) subI) (setV 4)))
section
variable {S s0 s1 s2 s3 x y : Option Ent} {k m c : Int}
theorem tail_eq (hm : 0 < m) : ∃ v, tailD [S, some (.val (.int k)), some (.val (.int m)), some (.val (.int c)), x, y] = .rt (.int v) ∧ 0 ≤ v ∧ v < m := by
  refine ⟨_, ev_seq (ev_asg (ev_bin (ev_bin (ev_bin (ev_bin rfl rfl (ev_mod (by omega))) rfl (ev_mul (.inr ⟨by omega, by omega⟩))) (ev_bin rfl (ev_bin rfl rfl rfl) (ev_mul (.inl ⟨by omega, by omega⟩))) rfl) rfl (ev_mod (by omega))) rfl)
    (ev_seq (ev_asg (ev_bin (ev_bin (ev_bin rfl rfl (ev_mul (.inl ?b1))) (ev_bin rfl rfl (ev_div ⟨by omega, by omega⟩)) rfl) rfl (ev_mod (by omega))) rfl)
    (ev_ret (ev_bin (ev_bin (ev_bin (ev_bin (ev_bin rfl rfl (ev_mul (.inl ?b2))) (ev_bin rfl rfl (ev_div ⟨by omega, by omega⟩)) rfl) rfl (ev_mod (by omega))) rfl (ev_div ⟨by omega, by omega⟩)) rfl (ev_mod hm)))), Int.emod_nonneg _ (by omega), Int.emod_lt_of_pos _ hm⟩
  case b1 =>
    have h1 := Int.emod_nonneg (c % 2147483563 * 69069 + 104723 * (k + 1)) (b := 2147483563) (by omega)
    have h2 := Int.emod_lt_of_pos (c % 2147483563 * 69069 + 104723 * (k + 1)) (b := 2147483563) (by omega)
    constructor <;> omega
  case b2 =>
    generalize (c % 2147483563 * 69069 + 104723 * (k + 1)) % 2147483563 = z
    have h1 := Int.emod_nonneg (z * z + z / 3) (b := 2147483399) (by omega)
    have h2 := Int.emod_lt_of_pos (z * z + z / 3) (b := 2147483399) (by omega)
    constructor <;> omega
theorem ev_gt {i j : Int} : gtI (.int i) (.int j) = .ok (.bl (decide (j < i))) := rfl
theorem while_eq : ∀ {n : Nat} {t r : Int}, 0 ≤ t → t < n → ∃ t' r', whS wcD wbD n [s0, s1, s2, s3, some (.val (.int t)), some (.val (.int r))] = .nx [s0, s1, s2, s3, some (.val (.int t')), some (.val (.int r'))]
  | 0, t, r, h0, h1 => by omega
  | n + 1, t, r, h0, h1 => by
    rw [whS]
    by_cases hr : 0 < r
    · by_cases ht : 0 < t
      · obtain ⟨t', r', e⟩ := while_eq (n := n) (t := t - 1) (r := r / 1000000) (by omega) (by omega)
        refine ⟨t', r', ?_⟩
        have e1 : wcD (thaw [s0, s1, s2, s3, some (.val (.int t)), some (.val (.int r))]) = .ok true := ev_andT (ev_tst (ev_bin rfl rfl (by rw [ev_gt, decide_eq_true hr]))) (ev_tst (ev_bin rfl rfl (by rw [ev_gt, decide_eq_true ht])))
        have e2 : wbD [s0, s1, s2, s3, some (.val (.int t)), some (.val (.int r))] = .nx [s0, s1, s2, s3, some (.val (.int (t - 1))), some (.val (.int (r / 1000000)))] := ev_seq (ev_asg (ev_bin rfl rfl (ev_div ⟨by omega, by omega⟩)) rfl) (ev_asg (ev_bin rfl rfl rfl) rfl)
        simp only [e1, e2]
        exact e
      · refine ⟨t, r, ?_⟩
        have e1 : wcD (thaw [s0, s1, s2, s3, some (.val (.int t)), some (.val (.int r))]) = .ok false := ev_andT (ev_tst (ev_bin rfl rfl (by rw [ev_gt, decide_eq_true hr]))) (ev_tst (ev_bin rfl rfl (by rw [ev_gt, decide_eq_false ht])))
        simp only [e1]
    · refine ⟨t, r, ?_⟩
      have e1 : wcD (thaw [s0, s1, s2, s3, some (.val (.int t)), some (.val (.int r))]) = .ok false := ev_andF (ev_tst (ev_bin rfl rfl (by rw [ev_gt, decide_eq_false hr])))
      simp only [e1]
theorem pow18 : powI (.int 10) (.int 18) = .ok (.int 1000000000000000000) := by
  unfold powI iD
  simp only []
  rw [if_pos ⟨by decide, by decide, by decide⟩]; rfl
theorem blk_eq {t : Int} (hm : 0 < m) (ht : 0 ≤ t) : (∃ t' x', blkD [S, some (.val (.int k)), some (.val (.int m)), some (.val (.int c)), some (.val (.int t)), x] = .nx [S, some (.val (.int k)), some (.val (.int m)), some (.val (.int c)), some (.val (.int t')), x']) ∨
    ∃ v, blkD [S, some (.val (.int k)), some (.val (.int m)), some (.val (.int c)), some (.val (.int t)), x] = .rt (.int v) ∧ 0 ≤ v ∧ v < m := by
  by_cases h1 : 1000000000000000000 ≤ c
  · by_cases h2 : t < 60
    · have e : (andT (tst (bin (fun ρ => getV ρ 3) (bin (fun _ => .ok (.int 10)) (fun _ => .ok (.int 18)) powI) geI)) (tst (bin (fun ρ => getV ρ 4) (fun _ => .ok (.int 60)) ltI))) (thaw [S, some (.val (.int k)), some (.val (.int m)), some (.val (.int c)), some (.val (.int t)), x]) = .ok true :=
        ev_andT (ev_tst (ev_bin rfl (ev_bin rfl rfl pow18) (by show R.ok (D.bl (decide _)) = _; rw [decide_eq_true h1]))) (ev_tst (ev_bin rfl rfl (by show R.ok (D.bl (decide _)) = _; rw [decide_eq_true h2])))
      obtain ⟨t', r', ew⟩ := while_eq (s0 := S) (s1 := some (.val (.int k))) (s2 := some (.val (.int m))) (s3 := some (.val (.int c))) (n := 64) (t := t) (r := c / 1000000000000000000) ht (by omega)
      by_cases h3 : 0 < r'
      · exact .inr ⟨_, ev_ifT e (ev_seq (ev_asg (ev_bin rfl (ev_bin rfl rfl pow18) (ev_div ⟨by omega, by omega⟩)) rfl) (ev_seq ew (ev_ifT (ev_tst (ev_bin rfl rfl (by rw [ev_gt, decide_eq_true h3]))) (ev_ret (ev_bin (ev_bin rfl rfl (ev_mod (by omega))) rfl (ev_mod hm)))))), Int.emod_nonneg _ (by omega), Int.emod_lt_of_pos _ hm⟩
      · exact .inl ⟨t', some (.val (.int r')), ev_ifT e (ev_seq (ev_asg (ev_bin rfl (ev_bin rfl rfl pow18) (ev_div ⟨by omega, by omega⟩)) rfl) (ev_seq ew (ev_ifF (ev_tst (ev_bin rfl rfl (by rw [ev_gt, decide_eq_false h3]))) rfl)))⟩
    · exact .inl ⟨t, x, ev_ifF (ev_andT (ev_tst (ev_bin rfl (ev_bin rfl rfl pow18) (by show R.ok (D.bl (decide _)) = _; rw [decide_eq_true h1]))) (ev_tst (ev_bin rfl rfl (by show R.ok (D.bl (decide _)) = _; rw [decide_eq_false h2])))) rfl⟩
  · exact .inl ⟨t, x, ev_ifF (ev_andF (ev_tst (ev_bin rfl (ev_bin rfl rfl pow18) (by show R.ok (D.bl (decide _)) = _; rw [decide_eq_false h1])))) rfl⟩
end
theorem ev_seqR {ρ : Rho} {s t : Rho → So} {d : D} (e1 : s ρ = .rt d) : seqS s t ρ = .rt d := by rw [seqS, e1]
theorem ev_ixI {xs : List D} {i : Int} {d : D} (h : atI xs i = some d) : ixD (.lst xs) (.int i) = .ok d := by rw [ixD, h]
theorem drawn_eq {ns : List Int} {k m : Int} (hl : ns.length ≤ 1000000) (hk : 0 ≤ k) (hm : 0 < m) : ∃ v, runB 3 g_drawn [.lst (ns.map .int), .int k, .int m] = .ok (.int v) ∧ 0 ≤ v ∧ v < m := by
  have hd : dep (.lst (ns.map .int)) ≤ 40 := by
    rw [dep]
    have := deps_on (c := D.int) (n := 0) (l := ns) (fun a _ => by simp [dep])
    omega
  cases ns with
  | nil =>
    obtain ⟨v, e, h⟩ := tail_eq (S := some (.val (.lst []))) (k := k) (c := 7 * k) (x := none) (y := none) hm
    exact ⟨v, ev_rt (ev_seq (ev_asg (ev_bin rfl rfl (ev_mul (.inl ⟨by omega, by omega⟩))) rfl) (ev_seq (ev_ifF (ev_tst (ev_bin rfl (ev_lst rfl) (neK_same rfl hd))) rfl) e)), h⟩
  | cons a ns =>
    have hn : neK (.lst ((a :: ns).map .int)) (.lst []) = .ok (.bl true) := by
      rw [neK, if_pos hd]; rfl
    have hlen : (0 : Int) < (((a :: ns).map D.int).length : Int) := by rw [List.length_map, List.length_cons]; omega
    have hlen2 : (((a :: ns).map D.int).length : Int) < 2 ^ 64 := by rw [List.length_map]; omega
    obtain ⟨d, hd1, hd2⟩ := atI_int (xs := (a :: ns).map D.int) (i := k % (((a :: ns).map D.int).length : Int)) (Int.emod_nonneg _ (by omega)) (Int.emod_lt_of_pos _ hlen)
    obtain ⟨c, -, rfl⟩ := List.mem_map.mp hd1
    have ht : 0 ≤ k / (((a :: ns).map D.int).length : Int) := Int.ediv_nonneg hk (by omega)
    generalize hL : (((a :: ns).map D.int).length : Int) = L at *
    have hlenD : ∀ (S x1 x2 x3 x4 x5 : Option Ent), S = some (Ent.val (.lst ((a :: ns).map D.int))) → callV lenD (consA (fun ρ => getV ρ 0) (fun _ => .ok [])) [S, x1, x2, x3, x4, x5] = .ok (.int L) := by
      intro S x1 x2 x3 x4 x5 e
      subst e
      rw [← hL]
      exact ev_call (ev_one rfl) rfl
    rcases blk_eq (S := some (.val (.lst ((a :: ns).map .int)))) (k := k) (m := m) (c := c) (x := none) hm ht with ⟨t', x', e⟩ | ⟨v, e, h⟩
    · obtain ⟨v, e2, h⟩ := tail_eq (S := some (.val (.lst ((a :: ns).map .int)))) (k := k) (c := c + 6553 * (k / L)) (x := some (.val (.int t'))) (y := x') hm
      exact ⟨v, ev_rt (ev_seq (ev_asg (ev_bin rfl rfl (ev_mul (.inl ⟨by omega, by omega⟩))) rfl) (ev_seq (ev_ifT (ev_tst (ev_bin rfl (ev_lst rfl) hn))
        (ev_seq (ev_asg (ev_bin rfl (ev_bin rfl (hlenD _ _ _ _ _ _ rfl) (ev_mod hlen)) (ev_ixI hd2)) rfl) (ev_seq (ev_asg (ev_bin rfl (hlenD _ _ _ _ _ _ rfl) (ev_div ⟨hlen, hlen2⟩)) rfl) (ev_seq e (ev_asg (ev_bin rfl (ev_bin rfl (ev_bin rfl (hlenD _ _ _ _ _ _ rfl) (ev_div ⟨hlen, hlen2⟩)) (ev_mul (.inl ⟨by omega, by omega⟩))) rfl) rfl))))) e2)), h⟩
    · exact ⟨v, ev_rt (ev_seq (ev_asg (ev_bin rfl rfl (ev_mul (.inl ⟨by omega, by omega⟩))) rfl) (ev_seqR (ev_ifT (ev_tst (ev_bin rfl (ev_lst rfl) hn))
        (ev_seq (ev_asg (ev_bin rfl (ev_bin rfl (hlenD _ _ _ _ _ _ rfl) (ev_mod hlen)) (ev_ixI hd2)) rfl) (ev_seq (ev_asg (ev_bin rfl (hlenD _ _ _ _ _ _ rfl) (ev_div ⟨hlen, hlen2⟩)) rfl) (ev_seqR e)))))), h⟩
theorem forL_cons {ρ ρ1 ρ2 : Rho} {gt : D → Rho → R Rho} {b : Rho → So} {x : D} {xs : List D} {o : So} (e1 : gt x ρ = .ok ρ1) (e2 : b ρ1 = .nx ρ2) (e3 : forL gt b xs ρ2 = o) : forL gt b (x :: xs) ρ = o := by
  rw [forL]
  simp only [e1, e2]
  exact e3
theorem ev_for {ρ : Rho} {fi : Rho → R (List D)} {gt : D → Rho → R Rho} {b : Rho → So} {xs : List D} {o : So} (e1 : fi ρ = .ok xs) (e2 : forL gt b xs ρ = o) : forS fi gt b ρ = o := by
  rw [forS, e1]; exact e2
theorem ev_parO {ρ : Rho} {i k : Nat} {f : Rho → R D} {fa : Rho → R (List D)} {d : D} {ds : List D} (e1 : f ρ = .ok d) (e2 : fa ρ = .ok ds) (h : ds.length ≤ 1000000 := by exact Nat.le_of_ble_eq_true rfl) : parO i k f fa ρ = .nx ((ρ.set i (some (.val d))).set k (some (.lst ds))) := by
  unfold parO
  rw [e1]
  simp only [ofR, e2]
  rw [if_pos h]
theorem ev_parS {ρ : Rho} {i k : Nat} {f g : Rho → R D} {d e : D} (e1 : f ρ = .ok d) (e2 : g ρ = .ok e) : parS i k f g ρ = .nx ((ρ.set i (some (.val d))).set k (some (.val e))) := by
  unfold parS
  rw [e1]
  simp only [ofR, e2]
def dr (ns : List Int) (k m : Int) : Int := match runB 3 g_drawn [.lst (ns.map .int), .int k, .int m] with
  | .ok (.int v) => v
  | _ => 0
theorem dr_eq {ns : List Int} {k m : Int} (hl : ns.length ≤ 1000000) (hk : 0 ≤ k) (hm : 0 < m) : runB 3 g_drawn [.lst (ns.map .int), .int k, .int m] = .ok (.int (dr ns k m)) ∧ 0 ≤ dr ns k m ∧ dr ns k m < m := by
  obtain ⟨v, e, h⟩ := drawn_eq hl hk hm
  have : dr ns k m = v := by rw [dr, e]
  rw [this]
  exact ⟨e, h⟩
end Pu
namespace Pu
open PySem PySem.Spec L2
open PyProof.Rows hiding St
section
variable {X : Cx}
theorem op_cat0 : OpR X (binaryOp .Add) (fun x y H Q => ∃ a b ys, x = .ref a ∧ y = .ref b ∧ SqT X.K H a [] ∧ SqT X.K H b ys ∧ Q (.ref b) H) := by
  intro pins s σ H x y v u Q I rx ry h
  obtain ⟨a, b, ys, rfl, rfl, ha, hb, q⟩ := h
  cases rx
  cases ry
  obtain ⟨its, r1, p1, _⟩ := I.tuple ha
  obtain ⟨its2, r2, p2, _⟩ := I.tuple hb
  cases r1
  obtain ⟨⟨cls, dd, data, sl⟩, ho, hc, n, hd⟩ := id p1
  obtain ⟨⟨cls2, dd2, data2, sl2⟩, ho2, hc2, n2, hd2⟩ := id p2
  simp only at hc hd hc2 hd2
  subst hc hd hc2 hd2
  exact concat_meets ⟨_, ho, rfl⟩ ⟨_, ho2, rfl⟩ noFill_tuple_add seq_tuple_add PySem.F.slot_tuple_add PySem.F.entry_tuple_add (PySem.F.args_tuple_add_2 _ _)
      (tuple_addW0 a b _ _ n n2 dd dd2 sl sl2 rfl) ⟨ho, ho2, ⟨.ref b, H, I, rfl, q⟩⟩
def negD : D → R D
  | .int i => .ok (.int (-i))
  | _ => .bad
def negV (f : Rho → R D) : Rho → R D := fun ρ => (f ρ).bind negD
theorem de_neg {e : Expr} {f : Rho → R D} {pos : Pos} (he : DE X e f) : DE X (.UnaryOp .USub e pos) (negV f) := by
  refine PE.imp (pe_un un_neg he) fun σ H Q h => ?_
  obtain ⟨ρ, O, j, h⟩ := h
  refine go j h fun d v H1 e1 s1 r1 j1 h1 => ?_
  cases d with
  | int i => exact ⟨i, r1.int, fin h1 (rep_int _)⟩
  | _ => exact h1.elim
theorem op_catL : OpR X (binaryOp .Add) (fun x y H Q => ∃ a b xs ys, x = .ref a ∧ y = .ref b ∧ SqL X.K H a xs ∧ SqL X.K H b ys ∧ xs.length + ys.length ≤ sizeLine ∧ ∀ p, H p = none → Q (.ref p) (upd H p (.lst (xs ++ ys)))) := by
  intro pins s σ H x y v u Q I rx ry h
  obtain ⟨a, b, xs, ys, rfl, rfl, ha, hb, hz, q⟩ := h
  cases rx
  cases ry
  obtain ⟨its, r1, p1, _⟩ := I.list ha
  obtain ⟨its2, r2, p2, _⟩ := I.list hb
  obtain ⟨⟨cls, dd, data, sl⟩, n, ho, hc, hdd, hd⟩ := id p1
  obtain ⟨⟨cls2, dd2, data2, sl2⟩, n2, ho2, hc2, hdd2, hd2⟩ := id p2
  simp only at hc hd hc2 hd2
  subst hc hd hc2 hd2
  refine concat_meets ⟨_, ho, rfl⟩ ⟨_, ho2, rfl⟩ noFill_list_add seq_list_add PySem.F.slot_list_add PySem.F.entry_list_add (PySem.F.args_list_add_2 _ _)
      (list_addW a b _ _ n n2 dd dd2 sl sl2 (by rw [List.size_toArray, List.size_toArray, ← r1.length, ← r2.length]; exact hz)) ⟨ho, ho2, ?_⟩
  have ea : its.toArray ++ its2.toArray = (its ++ its2).toArray := by simp
  rw [ea]
  exact ⟨.ref _, _, I.lnew (t' := s.toks) (r1.append r2) (by rw [List.length_append]; omega), rfl, q _ I.fresh⟩
def addD : D → D → R D
  | .int i, .int j => .ok (.int (i + j))
  | .tup xs, .tup ys => if xs.length + ys.length ≤ 1000000 then .ok (.tup (xs ++ ys)) else .bad
  | .lst xs, .lst ys => if xs.length + ys.length ≤ 1000000 then .ok (.lst (xs ++ ys)) else .bad
  | _, _ => .bad
theorem od_addD : OpD X (binaryOp .Add) addD := by
  refine ⟨_, OpR.or op_add (OpR.or op_catT (OpR.or op_cat0 op_catL)), fun ρ O σ H Q x y dx dy j0 rx ry h => ?_⟩
  cases dx <;> cases dy <;> first
    | exact h.elim
    | skip
  · rename_i i j
    exact .inl ⟨i, j, rx.int, ry.int, fin h (rep_int _)⟩
  · rename_i xs ys
    have h : good X (rD X) O (if xs.length + ys.length ≤ 1000000 then .ok (.tup (xs ++ ys)) else .bad) σ H Q := h
    by_cases hc : xs.length + ys.length ≤ 1000000
    · rw [if_pos hc] at h
      obtain ⟨a, us, rfl, ha, r1⟩ := rx.tup
      obtain ⟨b, ws, rfl, hb, r2⟩ := ry.tup
      by_cases hx : us = []
      · subst hx
        have : xs = [] := List.eq_nil_of_length_eq_zero r1.length
        subst this
        exact .inr (.inr (.inl ⟨a, b, ws, rfl, rfl, ha, hb, fin h (rep_tup hb r2)⟩))
      · refine .inr (.inl ⟨a, b, us, ws, rfl, rfl, ha, hb, hx, ?_, fun z => ?_, fun z l hl => ?_⟩)
        · rw [← r1.length, ← r2.length]; exact Nat.le_trans hc sizeLine_ge
        · subst z
          have : ys = [] := List.eq_nil_of_length_eq_zero r2.length
          subst this
          rw [List.append_nil] at h
          exact fin h (rep_tup ha r1)
        · exact h _ _ (Same.upd hl) (Rep.new_tup hl (r1.append r2))
    · rw [if_neg hc] at h; exact h.elim
  · rename_i xs ys
    have h : good X (rD X) O (if xs.length + ys.length ≤ 1000000 then .ok (.lst (xs ++ ys)) else .bad) σ H Q := h
    by_cases hc : xs.length + ys.length ≤ 1000000
    · rw [if_pos hc] at h
      obtain ⟨a, us, rfl, ha, _, r1⟩ := rx.lst
      obtain ⟨b, ws, rfl, hb, _, r2⟩ := ry.lst
      refine .inr (.inr (.inr ⟨a, b, us, ws, rfl, rfl, ha, hb, ?_, fun l hl => ?_⟩))
      · rw [← r1.length, ← r2.length]; exact Nat.le_trans hc sizeLine_ge
      · exact h _ _ (Same.upd hl) (Rep.new_lst hl (j0.notO hl) (r1.append r2))
    · rw [if_neg hc] at h; exact h.elim
end
section
variable {prog : Program} {w : World} {A : Around} {E : Value → Shared → Prop} {s : Shared}
open HT in
end
section
variable {X : Cx} {e e1 : Expr} {lo hi : Option Expr} {f f1 : Rho → R D} {fl fu : Rho → R (Option Int)} {pos p2 : Pos}
theorem PO.imp {t t' : TO} (h : PO X lo t) (w : ∀ σ H Q, t' σ H Q → t σ H Q) : PO X lo t' := fun pins s σ H Q I q => h pins s σ H Q I (w σ H Q q)
end
end Pu
namespace Pu
open PySem PySem.Spec L2
open PyProof.Rows hiding St
def pickK {α : Type} (z : α) (sel : List (Sum Nat α)) (ws : List α) : List α := sel.map fun
  | .inl i => ws.getD i z
  | .inr c => c
inductive Sel : List (Sum Nat Value) → List (Sum Nat V) → List (Sum Nat D) → Prop
  | nil : Sel [] [] []
  | at (i : Nat) {a b c} : Sel a b c → Sel (.inl i :: a) (.inl i :: b) (.inl i :: c)
  | non {a b c} : Sel a b c → Sel (.inr .none :: a) (.inr .non :: b) (.inr .non :: c)
  | str (x : Str) (t : Tok) {a b c} : Sel a b c → Sel (.inr (.str x t) :: a) (.inr (.str x) :: b) (.inr (.str x) :: c)
  | int (x : Int) (t : Tok) {a b c} : Sel a b c → Sel (.inr (.int x t) :: a) (.inr (.int x) :: b) (.inr (.int x) :: c)
  | bl (x : Bool) {a b c} : Sel a b c → Sel (.inr (.bool x) :: a) (.inr (.bl x) :: b) (.inr (.bl x) :: c)
theorem vals_getD {zs : List V} {ws : List Value} (r : Vals zs ws) (i : Nat) : RelV (zs.getD i .non) (ws.getD i .none) := by
  induction r generalizing i with
  | nil => exact rfl
  | cons h _ ih =>
    cases i with
    | zero => exact h
    | succ i => exact ih i
theorem Sel.vals {a b c} (s : Sel a b c) {zs : List V} {ws : List Value} (r : Vals zs ws) : Vals (pickK .non b zs) (pickK .none a ws) := by
  induction s with
  | nil => exact .nil
  | «at» i _ ih => exact .cons (vals_getD r i) ih
  | non _ ih => exact .cons rfl ih
  | str x t _ ih => exact .cons ⟨t, rfl⟩ ih
  | int x t _ ih => exact .cons ⟨t, rfl⟩ ih
  | bl x _ ih => exact .cons rfl ih
section
variable {K : PySem.W.Frag} {O : Addr → Prop} {H : Hp}
end
section
variable {X : Cx} {k n : Nat} {f : Addr} {fd : FuncData} {ps ks : List Str} {F : List D → R D} {x : Str} {p pos kpos : Pos} {e : Expr} {es : List Expr} {kws : List Keyword} {fa fk : Rho → R (List D)} {fe : Rho → R D} {nm : Option Str}
theorem PK.imp {t t' : TA} (h : PK X kws t) (w : ∀ σ H Q, t' σ H Q → t σ H Q) : PK X kws t' := fun pos pins s σ H Q I q => h pos pins s σ H Q I (w σ H Q q)
def KB (K : PySem.W.Frag) (fd : FuncData) (ps ks : List Str) (sel : List (Sum Nat Value)) : Prop := ∀ (s : Shared) (us ws : List Value), K.In s.heap → us.length + sel.length = ps.length → ws.length = ks.length → BindsTo s fd ⟨us, ks.zip ws⟩ (ps.zip (us ++ pickK .none sel ws))
end
section
variable {X : Cx} {k n : Nat} {f : Addr} {fd : FuncData} {ps : List Str} {F : List D → R D} {x : Str} {p pos : Pos} {e : Expr} {es : List Expr} {fa : Rho → R (List D)}
end
theorem len0 {α : Type} {l : List α} (h : l.length = 0) : l = [] := List.eq_nil_of_length_eq_zero h
theorem lenS {α : Type} {l : List α} {n : Nat} (h : l.length = n + 1) : ∃ a m, l = a :: m ∧ m.length = n := by
  cases l with
  | nil => simp at h
  | cons a m => exact ⟨a, m, rfl, by simpa using h⟩
section
variable {X : Cx} {k m n : Nat} {fd : FuncData} {ps ks : List Str} {F : List D → R D} {x : Str} {p pos : Pos} {e : Expr} {es : List Expr} {kws : List Keyword} {fa fk : Rho → R (List D)}
end
section
variable {K : PySem.W.Frag} {kV doc pm cdv ct : Value} {an : Option Addr} {body : List Stmt} {scope : Scope} {d : Addr} {t : Tok} {q : Pos}
def trialArgs (q : Pos) : Arguments := { posonlyargs := [], args := [⟨"p", none, q⟩], vararg := none, kwonlyargs := [⟨"manner", none, q⟩, ⟨"marks", none, q⟩], kw_defaults := [some (.Constant (.str "worth") 0 q), some (.Constant .none 0 q)], kwarg := none, defaults := [] }
example : KB K (PySem.W.fnOf "f" "f" (trialArgs q) body scope .none kV doc pm an cdv ct) ["p", "manner", "marks"] ["marks", "manner"] [.inl 1, .inl 0] := by
  intro s us ws i hl hw
  have hl1 : us.length = 1 := by simpa using hl
  clear hl
  obtain ⟨u, us', rfl, hl2⟩ := lenS hl1
  clear hl1
  cases len0 hl2
  obtain ⟨w1, ws1, rfl, hw1⟩ := lenS hw
  clear hw
  obtain ⟨w2, ws2, rfl, hw2⟩ := lenS hw1
  clear hw1
  cases len0 hw2
  exact .of_eq rfl
end
end Pu
namespace Pu
open PySem PySem.Spec L2
open PyProof.Rows hiding St
section
variable {X : Cx}
end
end Pu
namespace Pu
open PySem PySem.Spec L2
open PyProof.Rows hiding St
section
variable {K : PySem.W.Frag} {O O' : Addr → Prop} {H : Hp}
end
section
variable {X : Cx} {e : Expr} {f : Rho → R D} {pos : Pos}
end
section
variable {prog : Program} {w : World} {A : Around} {E : Value → Shared → Prop} {s : Shared} {t : Addr}
end
section
variable {X : Cx}
theorem CallR.or {u : Value} {r r' : List V → Hp → VK → Prop} (h : CallR X u r) (h' : CallR X u r') : CallR X u (fun xs H Q => r xs H Q ∨ r' xs H Q) := by
  intro pins s σ H xs us Q I rr q
  rcases q with q | q
  · exact h pins s σ H xs us Q I rr q
  · exact h' pins s σ H xs us Q I rr q
end
end Pu
namespace Pu
open PySem PySem.Spec L2
open PyProof.Rows hiding St
theorem noFill_tuple_mul : fillsNumberSlot (.type "tuple") "mul" = pure false :=
  PySem.fillsNumberSlot_seq (id := "tuple.__mul__") (r := some (.builtin "tuple.__rmul__")) F.slot_tuple_mul.lookup (by decide +kernel) F.slot_tuple_rmul.lookup (by decide +kernel)
theorem repeat_tuple : seqRepeat? (.type "tuple") = pure (some (.builtin "tuple.__mul__")) := by
  unfold seqRepeat?
  rw [PySem.seqSlot_of (T := "tuple") (name := "__mul__") (id := "tuple.__mul__") F.slot_tuple_mul.lookup (by decide +kernel), PySem.seqSlot_of (T := "tuple") (name := "__rmul__") (id := "tuple.__rmul__") F.slot_tuple_rmul.lookup (by decide +kernel)]
  rfl
theorem int_rmul_tuple (a : Int) (t : Tok) (l : Addr) (items : Array Value) (n : Nat) (dd : Option Addr) (sl : Array (Option Value)) :
    Meets (Builtin.«int.__rmul__» ⟨[.int a t, .ref l], []⟩) (fun _ R s => s.heap.get? l = some { cls := .type "tuple", dict := dd, data := .seq items n, slots := sl } ∧ R (.ok (.ret Value.notImplemented)) s) :=
  .of_wp fun prog w A R s h => by obtain ⟨hp, g, d, tk, os⟩ := s; obtain ⟨hl, h⟩ := h; wp_walk; exact ⟨_, rfl, h⟩
theorem tuple_mul1 (l : Addr) (items : Array Value) (n : Nat) (dd : Option Addr) (sl : Array (Option Value)) (t : Tok) :
    Meets (Builtin.«tuple.__mul__» ⟨[.ref l, .int 1 t], []⟩) (fun _ R s => s.heap.get? l = some { cls := .type "tuple", dict := dd, data := .seq items n, slots := sl } ∧ R (.ok (.ret (.ref l))) { s with heap := s.heap, toks := s.toks }) :=
  .of_wp fun prog w A R s h => by obtain ⟨hp, g, d, tk, os⟩ := s; obtain ⟨hl, h⟩ := h; have f1 := AutoSeq1.idx_int; have hc0 : (items.isEmpty || (1 : Int) == 1) = true := (by simp); unfold Builtin.«tuple.__mul__»; wp_walk using wpAny_loadPart' hl; exact ⟨_, rfl, h⟩
theorem tuple_mulK (l : Addr) (items : Array Value) (n : Nat) (dd : Option Addr) (sl : Array (Option Value)) (k : Int) (t : Tok) (hf : ¬ (decide (k < -(2 ^ 63)) || decide (k ≥ 2 ^ 63)) = true) (hc0 : ¬ (items.isEmpty || k == 1) = true) (hc1 : ¬ (decide (k ≤ 0) || items.isEmpty) = true)
    (hc2 : ¬ (items.size : Int) * k > (2 ^ 63 - 1) / 8) (hc3 : ¬ Builtin.Tuple.tupleTooMany ((items.size : Int) * k) = true) (hsz : sizeOk (.seq (List.foldl (fun x1 x2 => x1 ++ x2) #[] (List.replicate k.toNat items)))) :
    Meets (Builtin.«tuple.__mul__» ⟨[.ref l, .int k t], []⟩) (fun _ R s => s.heap.get? l = some { cls := .type "tuple", dict := dd, data := .seq items n, slots := sl } ∧ R (.ok (.ret (.ref s.heap.objs.size))) { s with heap := s.heap.push { cls := Value.type "tuple", data := Data.seq (List.foldl (fun x1 x2 => x1 ++ x2) #[] (List.replicate k.toNat items)) }, toks := s.toks }) :=
  .of_wp fun prog w A R s h => by
    obtain ⟨hp, g, d, tk, os⟩ := s
    obtain ⟨hl, h⟩ := h
    have f1 := AutoSeq1.idx_int
    unfold Builtin.«tuple.__mul__»
    wp_walk using wpAny_loadPart' hl
    refine wpAny_ite_false (by simpa using hf) ?_
    wp_walk using wpAny_loadPart' hl
    refine wpAny_ite_false (by simpa using hc2) ?_
    wp_walk using wpAny_loadPart' hl
    refine wpAny_ite_false (by simpa [sizeOk] using hsz) ?_
    wp_walk using wpAny_loadPart' hl
    exact ⟨_, rfl, h⟩
section
variable {X : Cx}
theorem op_repT : OpR X (binaryOp .Mult) (fun x y H Q => ∃ a k xs, x = .ref a ∧ y = .int k ∧ SqT X.K H a xs ∧ xs ≠ [] ∧ 1 ≤ k ∧ k < 2 ^ 63 ∧ xs.length * k.toNat ≤ sizeLine ∧ (k = 1 → Q (.ref a) H) ∧
    (k ≠ 1 → ∀ p, H p = none → Q (.ref p) (upd H p (.tup (List.replicate k.toNat xs).flatten)))) := by
  intro pins s σ H x y v u Q I rx ry h
  obtain ⟨a, k, xs, rfl, rfl, hq, hx, h1, h2, hz, q1, q2⟩ := h
  cases rx
  obtain ⟨t, rfl⟩ := ry
  obtain ⟨its, r, p1, _⟩ := I.tuple hq
  obtain ⟨⟨cls, dd, data, sl⟩, ho, hc, n, hd⟩ := id p1
  simp only at hc hd
  subst hc hd
  have hlen := r.length
  have hne : its ≠ [] := fun z => hx (by rw [z] at r; cases r; rfl)
  have hpos : 0 < its.length := by cases its with | nil => exact absurd rfl hne | cons _ _ => simp
  have hemp : its.toArray.isEmpty = false := by cases its with | nil => exact absurd rfl hne | cons _ _ => simp
  refine wpAny_binaryOp_repeat_ref (T := "tuple") (U := "int") (by decide) ⟨_, ho, rfl⟩ (fun s' => typeIs_int s' k t) noFill_tuple_mul F.fills_int_mul F.slot_int_rmul repeat_tuple F.slot_int_index.lookup
    (call_meets F.slot_int_rmul (typeIs_int s k t) F.entry_int_rmul (F.args_int_rmul_2 _ _) (int_rmul_tuple k t a its.toArray n dd sl) ⟨ho, rfl, ⟨_, ho, rfl⟩, ?_⟩)
  by_cases hk : k = 1
  · subst hk
    exact call_meets F.slot_tuple_mul ⟨_, ho, rfl⟩ F.entry_tuple_mul (F.args_tuple_mul_2 _ _) (tuple_mul1 a its.toArray n dd sl t) ⟨ho, ⟨.ref a, H, I, rfl, q1 rfl⟩⟩
  · have hmul : (its.toArray.size : Int) * k = ((xs.length * k.toNat : Nat) : Int) := by
      rw [List.size_toArray, ← hlen, Int.natCast_mul, Int.toNat_of_nonneg (by omega)]
    have hnew : List.foldl (fun x1 x2 => x1 ++ x2) #[] (List.replicate k.toNat its.toArray) = (List.replicate k.toNat its).flatten.toArray := by
      have := foldl_rep its k.toNat []
      rw [List.nil_append] at this
      exact this
    have hs : sizeOk (.seq (List.foldl (fun x1 x2 => x1 ++ x2) #[] (List.replicate k.toNat its.toArray))) := by
      rw [hnew]
      show (List.replicate k.toNat its).flatten.toArray.size ≤ sizeLine
      rw [List.size_toArray, len_rep, ← hlen, Nat.mul_comm]; exact hz
    have hbig : (sizeLine : Nat) ≤ (2 ^ 63 - 1) / 8 := by decide
    refine call_meets F.slot_tuple_mul ⟨_, ho, rfl⟩ F.entry_tuple_mul (F.args_tuple_mul_2 _ _) (tuple_mulK a its.toArray n dd sl k t (by simp; omega) (by rw [hemp]; simp [hk]) (by rw [hemp]; simp; omega) (by rw [hmul]; omega) (by rw [hmul]; unfold Builtin.Tuple.tupleTooMany; intro z; have z := of_decide_eq_true z; omega) hs) ⟨ho, ?_⟩
    rw [hnew]
    refine ⟨.ref s.heap.objs.size, _, I.laid (t' := s.toks) (o := .tup (List.replicate k.toNat xs).flatten) (fun b ob q => Heap.get?_push_of_some _ q) (Nat.le_refl _) ?_, rfl, q2 hk _ (I.hok.fresh (Nat.le_refl _))⟩
    exact ⟨by rw [len_rep, Nat.mul_comm]; exact hz, _, r.rep k.toNat, IsTup.new _ _⟩
theorem reps_rep {K : PySem.W.Frag} {O : Addr → Prop} {H : Hp} {ds : List D} {xs : List V} (r : Reps K O H ds xs) : ∀ k : Nat, Reps K O H (List.replicate k ds).flatten (List.replicate k xs).flatten
  | 0 => .nil
  | k + 1 => by rw [List.replicate_succ, List.replicate_succ, List.flatten_cons, List.flatten_cons]; exact r.append (reps_rep r k)
def mulD : D → D → R D
  | .int i, .int j => mulI (.int i) (.int j)
  | .tup ds, .int k => if ds ≠ [] ∧ 1 ≤ k ∧ k < 2 ^ 63 ∧ ds.length * k.toNat ≤ 1000000 then .ok (.tup (List.replicate k.toNat ds).flatten) else .bad
  | _, _ => .bad
theorem od_mulD : OpD X (binaryOp .Mult) mulD := by
  obtain ⟨r0, o0, c0⟩ := od_mul (X := X)
  refine ⟨_, OpR.or o0 op_repT, fun ρ O σ H Q x y dx dy j0 rx ry h => ?_⟩
  cases dx <;> cases dy <;> first
    | exact h.elim
    | skip
  · exact .inl (c0 ρ O σ H Q x y _ _ j0 rx ry h)
  · rename_i ds k
    have h : good X (rD X) O (if ds ≠ [] ∧ 1 ≤ k ∧ k < 2 ^ 63 ∧ ds.length * k.toNat ≤ 1000000 then .ok (.tup (List.replicate k.toNat ds).flatten) else .bad) σ H Q := h
    by_cases hc : ds ≠ [] ∧ 1 ≤ k ∧ k < 2 ^ 63 ∧ ds.length * k.toNat ≤ 1000000
    · rw [if_pos hc] at h
      obtain ⟨a, us, rfl, ha, r1⟩ := rx.tup
      obtain ⟨h0, h1, h2, h3⟩ := hc
      refine .inr ⟨a, k, us, rfl, ry.int, ha, fun z => h0 (by have := r1.length; rw [z] at this; exact List.eq_nil_of_length_eq_zero this), h1, h2, by rw [← r1.length]; exact Nat.le_trans h3 sizeLine_ge, fun z => ?_, fun z l hl => ?_⟩
      · subst z
        have e : (List.replicate (1 : Int).toNat ds).flatten = ds := by simp
        rw [e] at h
        exact fin h (rep_tup ha r1)
      · exact h _ _ (Same.upd hl) (Rep.new_tup hl (reps_rep r1 _))
    · rw [if_neg hc] at h; exact h.elim
end
end Pu
namespace Pu
open PySem PySem.Spec L2
open PyProof.Rows hiding St
section
variable {K : PySem.W.Frag} {O : Addr → Prop} {H : Hp}
end
section
variable {X : Cx}
end
end Pu
namespace Pu
open PySem PySem.Spec L2
open PyProof.Rows hiding St
def SIt : Bool → Heap → Addr → Addr → Nat → Prop
  | true, h, it, l, k => h.IsTupleIter it l k
  | false, h, it, l, k => h.IsListIter it l k
def SSq : Bool → Heap → Addr → Array Value → Prop
  | true, h, l, xs => h.IsTuple l xs
  | false, h, l, xs => h.IsList l xs
def itC (t : Bool) : String := if t then "tuple_iterator" else "list_iterator"
def Sq : Bool → PySem.W.Frag → Hp → Addr → List V → Prop
  | true, K, H, a, xs => SqT K H a xs
  | false, K, H, a, xs => SqL K H a xs
theorem SIt.of {t : Bool} {h h' : Heap} {it l : Addr} {k : Nat} (x : SIt t h it l k) (q : ∀ o, h.get? it = some o → h'.get? it = some o) : SIt t h' it l k := by
  cases t <;> (obtain ⟨o, e, r⟩ := x; exact ⟨o, q o e, r⟩)
theorem SIt.obj {t : Bool} {h : Heap} {it l : Addr} {k : Nat} (x : SIt t h it l k) : ∃ o, h.get? it = some o ∧ ∀ v, o.data ≠ .cell v := by
  cases t <;> (obtain ⟨o, e, c, d⟩ := x; exact ⟨o, e, fun v z => by rw [d] at z; cases z⟩)
theorem SIt.new {t : Bool} {h : Heap} {l : Addr} {it : Addr} (e : h.get? it = some { cls := .type (itC t), data := .fields #[.ref l, .int 0 0] }) : SIt t h it l 0 := by
  cases t <;> exact ⟨_, e, rfl, rfl⟩
theorem SSq.of {t : Bool} {h h' : Heap} {l : Addr} {xs : Array Value} (x : SSq t h l xs) (q : ∀ o, h.get? l = some o → h'.get? l = some o) : SSq t h' l xs := by
  cases t <;> (obtain ⟨o, e, r⟩ := x; exact ⟨o, q o e, r⟩)
section
variable {prog : Program} {w : World} {A : Around} {E : Value → Shared → Prop} {s : Shared}
end
section
variable {X : Cx} {pins : List (Addr × Obj)} {σ : St} {H : Hp} {s : Shared}
theorem _root_.L2.Inv.fp {b : Addr} {h' : Heap} (I : Inv X pins σ H s) (f : FpOk X pins H b) (sb : Heap.SameBut b s.heap h') : Inv X pins σ H { s with heap := h' } :=
  I.turned (t' := s.toks) (fun c o hc e => (sb.2 c hc).trans e) f.1 f.2.1 f.2.2.2.1 f.2.2.2.2.1 f.2.2.2.2.2
theorem _root_.L2.FpOk.upd {b p : Addr} {o : HO} (f : FpOk X pins H b) (n : b ≠ p) : FpOk X pins (L2.upd H p o) b := ⟨by rw [upd_ne n]; exact f.1, f.2⟩
end
end Pu
namespace Pu
open PySem PySem.Spec L2
open PyProof.Rows hiding St
section
variable {X : Cx} {pins : List (Addr × Obj)} {σ : St} {H : Hp} {s : Shared} {A' : Around} {E : Value → Shared → Prop}
end
end Pu
namespace Pu
open PySem PySem.Spec L2
open PyProof.Rows hiding St
section
variable {prog : Program} {w : World} {A : Around} {E : Value → Shared → Prop} {s : Shared}
end
section
variable {X : Cx} {tgs : List Expr} {kk : Nat} {pp : Pos} {a b : Expr} {p pos : Pos}
end
section
variable {K : PySem.W.Frag} {O : Addr → Prop} {H : Hp}
structure Src (K : PySem.W.Frag) (O : Addr → Prop) (H : Hp) (t : Bool) (a : Addr) (ds : List D) : Prop where
  ex : ∃ vs, Sq t K H a vs ∧ Reps K O H ds vs
  no : t = false → ¬ O a
theorem Src.go {O' : Addr → Prop} {H' : Hp} {t : Bool} {a : Addr} {ds : List D} (s : Src K O H t a ds) (q : Rch K O H O' H') : ∃ vs, Sq t K H' a vs ∧ Reps K O' H' ds vs := by
  obtain ⟨vs, h, r⟩ := s.ex
  cases t with
  | true => exact ⟨vs, SqT.ext q.ext h, r.go q⟩
  | false => exact ⟨vs, SqL.ext q.ext (s.no rfl) h, r.go q⟩
theorem Src.same {H' : Hp} {t : Bool} {a : Addr} {ds : List D} (s : Src K O H t a ds) (q : Same H H') : Src K O H' t a ds := ⟨s.go (Same.rch q), s.no⟩
end
section
variable {X : Cx} {tgs : List Expr} {kk : Nat} {pp : Pos} {a b : Expr} {p pos : Pos} {fa : Rho → R (List D)}
end
end Pu
namespace Pu
open PySem PySem.Spec L2
open PyProof.Rows hiding St
section
variable {X : Cx} {pins : List (Addr × Obj)} {σ : St} {H : Hp} {s : Shared} {A' : Around} {E : Value → Shared → Prop}
end
section
variable {prog : Program} {w : World} {A : Around} {E : Value → Shared → Prop} {s : Shared}
end
section
variable {X : Cx} {tgs : List Expr} {kk : Nat} {pp : Pos} {a b c : Expr} {p pos : Pos}
end
section
variable {K : PySem.W.Frag} {O : Addr → Prop} {H : Hp}
end
section
variable {X : Cx} {tgs : List Expr} {kk : Nat} {pp : Pos} {a b c : Expr} {p pos : Pos} {fa : Rho → R (List D)}
end
end Pu
namespace Pu
open PySem PySem.Spec L2
open PyProof.Rows hiding St
def srt (ns : List Int) : List Int := ns.mergeSort fun a b => decide (a ≤ b)
theorem srt_perm (ns : List Int) : (srt ns).Perm ns := List.mergeSort_perm _ _
theorem srt_rise (ns : List Int) : (srt ns).Pairwise (· ≤ ·) := by
  have h := List.pairwise_mergeSort (le := fun a b : Int => decide (a ≤ b)) (fun a b c h1 h2 => by simp at *; omega) (fun a b => by simp; omega) ns
  exact h.imp fun h => by simpa using h
theorem rise_one {a b : List Int} (p : a.Perm b) (ha : a.Pairwise (· ≤ ·)) (hb : b.Pairwise (· ≤ ·)) : a = b := by
  induction a generalizing b with
  | nil => exact (List.nil_perm.mp p).symm
  | cons x a ih =>
    cases b with
    | nil => exact absurd (List.perm_nil.mp p) (by simp)
    | cons y b =>
      have ha' := List.pairwise_cons.mp ha
      have hb' := List.pairwise_cons.mp hb
      have h1 : x = y := by
        rcases List.mem_cons.mp (p.mem_iff.mp (List.mem_cons_self (a := x) (l := a))) with h | h
        · exact h
        · rcases List.mem_cons.mp (p.mem_iff.mpr (List.mem_cons_self (a := y) (l := b))) with k | k
          · exact k.symm
          · have := ha'.1 y k
            have := hb'.1 x h
            omega
      subst h1
      rw [ih (List.perm_cons x |>.mp p) ha'.2 hb'.2]
theorem srt_of {a b : List Int} (p : a.Perm b) : srt a = srt b := rise_one ((srt_perm a).trans (p.trans (srt_perm b).symm)) (srt_rise a) (srt_rise b)
theorem srt_uniq {a b : List Int} (p : a.Perm b) (h : a.Pairwise (· ≤ ·)) : a = srt b := rise_one (p.trans (srt_perm b).symm) h (srt_rise b)
end Pu
namespace Pu
open PySem PySem.Spec L2
open PyProof.Rows hiding St
section
variable {X : Cx}
theorem intVals : ∀ {ns : List Int} {its : List Value}, Vals (ns.map V.int) its → IntsAre its ns
  | [], _, r => by cases r; exact .nil
  | n :: ns, _, r => by
    cases r with
    | cons h t => obtain ⟨tk, rfl⟩ := h; exact .cons n tk (intVals t)
theorem valsInt : ∀ {ns : List Int} {its : List Value}, IntsAre its ns → Vals (ns.map V.int) its
  | _, _, .nil => .nil
  | _, _, .cons n t h => .cons ⟨t, rfl⟩ (valsInt h)
theorem reps_ints {K : PySem.W.Frag} {O : Addr → Prop} {H : Hp} : ∀ {ds : List D} {ns : List Int} {vs : List V}, intsOf ds = some ns → Reps K O H ds vs → vs = ns.map V.int
  | [], ns, vs, e, r => by cases e; exact r.nil_inv
  | d :: ds, ns, vs, e, r => by
    obtain ⟨x, t, rfl, h1, h2⟩ := r.cons_inv
    cases d with
    | int i =>
      have e : (intsOf ds).map (i :: ·) = some ns := e
      cases q : intsOf ds with
      | none => rw [q] at e; cases e
      | some l => rw [q] at e; cases e; rw [h1.int, reps_ints q h2]; rfl
    | _ => cases e
theorem reps_of_ints {K : PySem.W.Frag} {O : Addr → Prop} {H : Hp} : ∀ {ns : List Int}, Reps K O H (ns.map D.int) (ns.map V.int)
  | [] => .nil
  | _ :: _ => .cons (rep_int _) reps_of_ints
variable {pos : Pos}
end
end Pu
namespace Pu
open PySem PySem.Spec L2
open PyProof.Rows hiding St
section
variable {X : Cx} {pins : List (Addr × Obj)} {σ : St} {H : Hp} {s : Shared} {A' : Around} {E : Value → Shared → Prop}
end
section
variable {prog : Program} {w : World} {A : Around} {E : Value → Shared → Prop} {s : Shared}
end
section
variable {X : Cx} {tgs : List Expr} {kk : Nat} {pp : Pos} {a : Expr} {p pos : Pos} {fa : Rho → R (List D)}
end
end Pu
namespace Pu
open PySem PySem.Spec L2
open PyProof.Rows hiding St
section
variable {prog : Program} {w : World} {A : Around} {E : Value → Shared → Prop} {s : Shared}
end
section
variable {X : Cx} {a : Expr} {p pos p2 pos2 : Pos} {fa : Rho → R (List D)}
end
end Pu
namespace Pu
open PySem PySem.Spec L2
open PyProof.Rows hiding St
section
variable {X : Cx} {e : Expr} {f : Rho → R D} {pos : Pos}
end
end Pu
namespace Pu
open PySem PySem.Spec L2
open PyProof.Rows hiding St
section
variable {X : Cx}
theorem op_isNB : OpR X (compareOp .IsNot) (fun x y H Q => ∃ b c, x = .bl b ∧ y = .bl c ∧ Q (.bl (b != c)) H) := by
  intro pins s σ H x y v u Q I rx ry h
  obtain ⟨b, c, rfl, rfl, q⟩ := h
  cases rx
  cases ry
  exact isnot_bool (fin_bl I q rfl)
def isNB : D → D → R D
  | .bl b, .bl c => .ok (.bl (b != c))
  | _, _ => .bad
theorem od_isNB : OpD X (compareOp .IsNot) isNB := by
  refine ⟨_, op_isNB, fun ρ O σ H Q x y dx dy j0 rx ry h => ?_⟩
  cases dx <;> cases dy <;> first
    | exact h.elim
    | exact ⟨_, _, rx.bl, ry.bl, fin h (rep_bl _)⟩
end
end Pu
namespace Pu
open PySem PySem.Spec L2
open PyProof.Rows hiding St
section
variable {X : Cx}
end
end Pu
namespace Pu
open PySem PySem.Spec L2
open PyProof.Rows hiding St
def okN (F : List D → R D) (n : Nat) (ds : List D) : R D := if ds.length = n then F ds else .bad
def instE (sub : Str → Str → Bool) (i : Nat) (t : Str) : Rho → R D := fun ρ => match ρ[i]? with
  | some (some (.obj (.exc c))) => if sub c c = true then .ok (.bl (sub c t)) else .bad
  | _ => .bad
def tryS (sub : Str → Str → Bool) (t : Str) (i : Nat) (g h : Rho → So) : Rho → So := fun ρ => match g ρ with
  | .ex c ρ1 => if sub c t = true then (match h (ρ1.set i (some (.obj (.exc c)))) with
    | .rt d => .rt d
    | _ => .bad) else .bad
  | o => o
section
variable {ρ ρ1 : Rho} {fa : Rho → R (List D)} {F : List D → R D} {ds : List D} {n : Nat} {d : D} {c : Str} {f : Rho → R D} {gt : D → Rho → R Rho} {p : Rho → R Bool} {s t : Rho → So} {o : So}
theorem ev_fnX {r : R D} (e1 : fa ρ = .ok ds) (e2 : F ds = r) (h : ds.length = n := by rfl) : callV (okN F n) fa ρ = r := by rw [callV, e1, R.bind_ok, okN, if_pos h, e2]
end
end Pu
namespace Pu
open PySem PySem.Spec L2
open PyProof.Rows hiding St
structure Landed (fs : List Addr) (h h' : Heap) (a C : Addr) (T : Option Addr) (t' : Addr) : Prop where
  exc : Exc h' a C (some t')
  old : T = some t' ∨ h.get? t' = none
  keep : ∀ b o, h.get? b = some o → b ≠ a → T ≠ some b → b ∉ fs → h'.get? b = some o
  slot : ∀ b o, h.get? b = some o → b ∈ fs → ∃ sl, h'.get? b = some { o with slots := sl }
section
variable {M : Model} {A : Around} {E : Value → Shared → Prop} {s : Shared}
theorem funFrames_on {h h1 b0 b1 : Heap} : ∀ {l : List PySem.Env}, h.FunFrames b0 l → (∀ b ∈ frs l, b1.get? b = none) → (∀ b o, h.get? b = some o → b ∈ frs l → h1.get? b = some o) → h1.FunFrames b1 l
  | [], _, _, _ => trivial
  | env :: r, hl, hn, hs => by
    obtain ⟨hk, ⟨L, o, hf, _, ho, hd⟩, hr⟩ := hl
    have e : frs (env :: r) = L :: frs r := by unfold frs; rw [List.filterMap_cons, hf]
    rw [e] at hn hs
    exact ⟨hk, ⟨L, o, hf, hn L List.mem_cons_self, hs L o ho List.mem_cons_self, hd⟩, funFrames_on hr (fun b hb => hn b (List.mem_cons_of_mem _ hb)) fun b o q hb => hs b o q (List.mem_cons_of_mem _ hb)⟩
theorem mapF_dict {o : Obj} {g : Array Value → Array Value} : (o.mapFields g).dict = o.dict := by
  obtain ⟨c, d, dt, sl⟩ := o
  cases dt <;> rfl
theorem entry_exc {env : PySem.Env} {outer : List PySem.Env} {L a C : Addr} {oe : Obj} {vs : Array Value} {hd0 : Value} {had : Bool} {b0 : Heap} {Q : Unit → Shared → Prop} (hfr : A.frames = some (env :: outer)) (hl : s.heap.FunFrames b0 (env :: outer)) (hf : env.frame = some L)
    (he : s.heap.get? a = some oe) (hc : oe.cls = .ref C) (hn : oe.dict = none) (hv : oe.data = .fields vs) (hz : 1 < vs.size)
    (h : ∀ h' t', Landed (frs (env :: outer)) s.heap h' a C none t' → Q () { s with heap := h' }) :
    wpAny M A (do let x ← frameOf env; let y ← entryPlaceOf L had; let z ← EntryCells.newEntry hd0 x .none (rawInt L) .none y; setField (.ref a) 1 z) (fun _ s' => wpAny M A (setFlight (.ref a) none) Q E s') E s := by
  have na : a ∉ frs (env :: outer) := fun z => by
    obtain ⟨_, o', ho', hd'⟩ := hl.mem z
    rw [he] at ho'; cases ho'
    exact hd' vs hv
  refine wpAny_bind (wpAny_frameOf_fun hfr hl hf fun g1 sl1 => wpAny_bind (wpAny_entryPlaceOf fun pl ok => ?_))
  unfold EntryCells.newEntry newFields
  refine wpAny_bind (wpAny_newObj_type ?_ (ok.sizeOk5 _ _ _ _ _))
  have e1 : g1.get? a = some oe := (sl1.2.1 a na).trans he
  generalize hob : ({ cls := .type "traceback", dict := none, data := .fields ([hd0, .ref L, .none, rawInt L, .none] ++ (if pl.isEmpty then List.replicate 6 Value.none else pl)).toArray } : Obj) = ob
  have hobd : ob.data = .fields ([hd0, .ref L, .none, rawInt L, .none] ++ (if pl.isEmpty then List.replicate 6 Value.none else pl)).toArray := by rw [← hob]
  have hobf : ob.isFreed = false := by rw [← hob]; rfl
  have e2 : (g1.push ob).get? a = some oe := Heap.get?_push_of_some ob e1
  refine wpAny_setField e2 hv hz ?_
  have nT : g1.objs.size ≠ a := Nat.ne_of_gt (Heap.lt_size e1)
  have d3 := Obj.data_mapFields hv (·.setIfInBounds 1 (Value.ref g1.objs.size))
  have e3 := Heap.get?_update_self (Obj.mapFields (·.setIfInBounds 1 (Value.ref g1.objs.size))) e2 (Obj.isFreed_of_fields d3)
  have T3 := (Heap.get?_update_other (g1.push ob) (Obj.mapFields (·.setIfInBounds 1 (Value.ref g1.objs.size))) (Ne.symm nT)).trans (Heap.get?_push_size g1 hobf)
  unfold setFlight
  refine wpAny_bind (wpAny_field e3 d3 (x := .ref g1.objs.size) (by simp [hz]) ?_)
  rw [if_pos (show (Value.ref g1.objs.size != Value.none) = true from by simp)]
  have hsz : 3 < (([hd0, .ref L, .none, rawInt L, .none] ++ (if pl.isEmpty then List.replicate 6 Value.none else pl)).toArray).size := by
    rw [List.size_toArray, List.length_append]
    show 3 < 5 + _
    omega
  refine wpAny_setField T3 hobd hsz (h _ g1.objs.size ⟨⟨_, _, (Heap.get?_update_other _ _ nT).trans e3, (Obj.cls_mapFields _ _).trans hc, mapF_dict.trans hn, d3, by simp [hz], nT, _, _, Heap.get?_update_self _ T3 (Obj.isFreed_of_fields (Obj.data_mapFields hobd _)), Obj.data_mapFields hobd _, ?_⟩, .inr (Heap.get?_none_of_le (by rw [sl1.1]; exact Nat.le_refl _)), fun b o hb n1 _ n3 => ?_, fun b o hb hm => ?_⟩)
  · rw [Array.getElem?_setIfInBounds, if_pos rfl, if_pos hsz]; rfl
  · have q1 : g1.get? b = some o := (sl1.2.1 b n3).trans hb
    rw [Heap.get?_update_other _ _ (Nat.ne_of_gt (Heap.lt_size q1)), Heap.get?_update_other _ _ (Ne.symm n1)]
    exact Heap.get?_push_of_some _ q1
  · obtain ⟨sl, q1⟩ := sl1.2.2 b o hb
    refine ⟨sl, ?_⟩
    rw [Heap.get?_update_other _ _ (Nat.ne_of_gt (Heap.lt_size q1)), Heap.get?_update_other _ _ (fun z => na (by rw [z]; exact hm))]
    exact Heap.get?_push_of_some _ q1
theorem note_exc {env : PySem.Env} {outer : List PySem.Env} {L a C : Addr} {T : Option Addr} {b0 : Heap} {Q : Unit → Shared → Prop} (hfr : A.frames = some (env :: outer)) (hl : s.heap.FunFrames b0 (env :: outer)) (hf : env.frame = some L) (x : Exc s.heap a C T)
    (h : ∀ h' t', Landed (frs (env :: outer)) s.heap h' a C T t' → Q () { s with heap := h' }) : wpAny M A (noteFrame (.ref a) env) (fun _ s2 => wpAny M A (setFlight (.ref a) none) Q E s2) E s := by
  obtain ⟨oe, vs, he, hc, hn, hd, hx⟩ := x
  unfold noteFrame
  simp only [hf]
  cases T with
  | none =>
    have h1 : vs[1]? = some Value.none := hx
    refine wpAny_bind (wpAny_field he hd h1 ?_)
    rw [if_neg (by decide)]
    exact entry_exc hfr hl hf he hc hn hd (Array.getElem?_eq_some_iff.mp h1).1 h
  | some t =>
    obtain ⟨h1, hne, ot, ts, ht, hdt, h3⟩ := hx
    have nt : t ∉ frs (env :: outer) := fun z => by
      obtain ⟨_, o', ho', hd'⟩ := hl.mem z
      rw [ht] at ho'; cases ho'
      exact hd' ts hdt
    refine wpAny_bind (wpAny_field he hd h1 ?_)
    rw [if_pos (show (Value.ref t != Value.none) = true from by simp)]
    refine wpAny_bind (wpAny_field ht hdt h3 ?_)
    rw [if_neg (show ¬ ((Value.none == rawInt L) = true) from by simp [rawInt])]
    refine wpAny_bind (wpAny_setField ht hdt (Array.getElem?_eq_some_iff.mp h3).1 ?_)
    have other : ∀ b o, s.heap.get? b = some o → b ≠ t → (s.heap.update t (Obj.mapFields (·.setIfInBounds 3 Value.none))).get? b = some o := fun b o q hb => (Heap.get?_update_other _ _ (Ne.symm hb)).trans q
    refine entry_exc (s := { s with heap := s.heap.update t (Obj.mapFields (·.setIfInBounds 3 Value.none)) }) (b0 := b0) hfr (funFrames_on hl (fun b hb => (hl.mem hb).1) fun b o q hb => other b o q fun z => nt (z ▸ hb)) hf (other a oe he (Ne.symm hne)) hc hn hd (Array.getElem?_eq_some_iff.mp h1).1 fun h' t' ld => ?_
    refine h h' t' ⟨ld.exc, ?_, fun b o q n1 n2 n3 => ld.keep b o (other b o q fun z => n2 (by rw [z])) n1 (by simp) n3, fun b o q hm => ld.slot b o (other b o q fun z => nt (z ▸ hm)) hm⟩
    by_cases z : t' = t
    · exact .inl (by rw [z])
    · refine .inr ?_
      rcases ld.old with q | q
      · cases q
      · cases q2 : s.heap.get? t' with
        | none => rfl
        | some o =>
          have q3 := other t' o q2 z
          have q : (s.heap.update t (Obj.mapFields (·.setIfInBounds 3 Value.none))).get? t' = none := q
          rw [q] at q3; cases q3
theorem leave_exc {env : PySem.Env} {outer : List PySem.Env} {L a C : Addr} {T : Option Addr} {b0 : Heap} {Q : Unit → Shared → Prop} (hfr : A.frames = some (env :: outer)) (hl : s.heap.FunFrames b0 (env :: outer)) (hf : env.frame = some L) (x : Exc s.heap a C T)
    (h : ∀ h' t', Landed (frs (env :: outer)) s.heap h' a C T t' → Q () { s with heap := h' }) : wpAny M A (leaving env (.ref a)) Q E s := by
  unfold leaving
  exact wpAny_bind (note_exc hfr hl hf x h)
end
section
variable {P : Program} {w : World} {fs fs' : List Addr} {H H' H0 : Hp} {s s' s0 : Shared} {a C : Addr} {T : Option Addr} {h' : Heap} {t' : Addr}
theorem ObjOk.ex {H : Hp} {h : Heap} {a : Addr} {o : HO} (x : ObjOk P w H h a o) : ∃ ob, h.get? a = some ob := by
  induction o with
  | lst xs => obtain ⟨_, _, _, _, e⟩ := x; exact ⟨_, e⟩
  | tup xs => obtain ⟨_, _, _, ob, e, _⟩ := x; exact ⟨_, e⟩
  | dK kvs => obtain ⟨_, _, _, _, ob, _, _, e, _⟩ := x; exact ⟨_, e⟩
  | dT kvs => obtain ⟨_, _, _, _, ob, _, _, e, _⟩ := x; exact ⟨_, e⟩
  | set S n => obtain ⟨ob, _, _, _, e, _⟩ := x; exact ⟨_, e⟩
  | ins C dx fs => obtain ⟨_, _, _, e, _⟩ := x; exact ⟨_, e⟩
  | own y => exact x
  | xd fs => obtain ⟨_, ⟨_, _, _, e, _⟩, _⟩ := x; exact ⟨_, e⟩
  | rng lo hi => obtain ⟨_, _, _, e⟩ := x; exact ⟨_, e⟩
  | frz ob u ih => exact ⟨_, x.1⟩
  | tbl ps => obtain ⟨_, e, _⟩ := x; exact ⟨_, e⟩
  | met f y => exact ⟨_, x⟩
  | ext φ => exact x.2.1
theorem hok_none {h : Heap} {b : Addr} (x : HOk P w H h) (e : h.get? b = none) : H b = none := by
  cases q : H b with
  | none => rfl
  | some u =>
    obtain ⟨o, z⟩ := ObjOk.ex (x b u q)
    rw [e] at z; cases z
theorem Landed.hok {h : Heap} (ld : Landed fs h h' a C T t') (x : HOk P w H h) (ha : H a = none) (ht : ∀ t, T = some t → H t = none) (hf : ∀ b ∈ fs, H b = none) : HOk P w H h' := fun b u e => by
  have ne : ∀ c v, H c = some v → c ≠ a ∧ T ≠ some c ∧ c ∉ fs := fun c v q => ⟨fun z => (by rw [z, ha] at q; cases q), fun z => (by rw [ht c z] at q; cases q), fun z => (by rw [hf c z] at q; cases q)⟩
  refine (x b u e).stay (fun c v hc q => ?_) (fun _ q => q) (fun _ _ q => q) fun _ _ _ _ q => q
  rcases hc with rfl | hc
  · obtain ⟨n1, n2, n3⟩ := ne _ _ e
    exact ld.keep _ _ q n1 n2 n3
  · obtain ⟨n1, n2, n3⟩ := ne _ _ hc
    exact ld.keep _ _ q n1 n2 n3
theorem Rsd.land (r : Rsd P w fs H s a C T s' H') (hs : ∀ b ∈ fs', b ∈ fs) (ld : Landed fs' s'.heap h' a C T t') (hf : ∀ b ∈ fs, H' b = none) : Rsd P w fs H s a C (some t') { s' with heap := h' } H' := by
  have ne : ∀ b o, s.heap.get? b = some o → b ≠ a ∧ T ≠ some b := fun b o q => ⟨fun z => (by rw [z, r.na] at q; cases q), fun z => (by rw [(r.nt b z).1] at q; cases q)⟩
  have any : ∀ b o, s.heap.get? b = some o → ∀ o', s'.heap.get? b = some o' → ∃ sl, h'.get? b = some { o' with slots := sl } := fun b o q o' q' => by
    by_cases hb : b ∈ fs'
    · exact ld.slot b o' q' hb
    · exact ⟨o'.slots, ld.keep b o' q' (ne b o q).1 (ne b o q).2 hb⟩
  refine ⟨r.same, ⟨fun b o q n hb hx => ?_, fun b o q n hb hx => ?_, r.un.free, fun b o q hx => ?_, r.un.tups, r.un.frzs, r.un.tbls⟩, ld.hok r.hok r.ha (fun t z => (r.nt t z).2) fun b hb => hf b (hs b hb), r.os, r.bare, ld.exc, r.na, r.ha, fun t z => ?_⟩
  · exact ld.keep b o (r.un.keep b o q n hb hx) (ne b o q).1 (ne b o q).2 fun z => hb (hs b z)
  · obtain ⟨sl, e⟩ := r.un.slot b o q n hb hx
    obtain ⟨sl', e'⟩ := any b o q _ e
    exact ⟨sl', e'⟩
  · obtain ⟨o', e⟩ := r.un.there b o q hx
    obtain ⟨sl', e'⟩ := any b o q _ e
    exact ⟨_, e'⟩
  · cases z
    rcases ld.old with z | z
    · exact r.nt t' z
    · refine ⟨?_, hok_none r.hok z⟩
      cases q : s.heap.get? t' with
      | none => rfl
      | some o =>
        obtain ⟨o', e⟩ := r.un.there t' o q (by simp)
        rw [z] at e; cases e
theorem Rsd.from {X : Cx} {pins : List (Addr × Obj)} {σ : St} (I : Inv X pins σ H s) (hex : X.ex = []) (r : Rsd X.prog X.w (frs X.stack) H s a C T s' H') (sm : Same X.H₀ H) : Rsd X.prog X.w X.fs X.H₀ X.s₀ a C T s' H' := by
  have J : Inv X pins σ H' s' := I.call' r.os r.un r.hok r.bare fun b z => absurd z (by simp)
  have b := J.base
  rw [hex] at b
  have no : ∀ c, s.heap.get? c = none → X.s₀.heap.get? c = none := fun c e => by
    cases q : X.s₀.heap.get? c with
    | none => rfl
    | some o =>
      obtain ⟨o', e'⟩ := I.base.there c o q (by rw [hex]; simp)
      rw [e] at e'; cases e'
  exact ⟨sm.trans r.same, b, r.hok, J.os, r.bare, r.exc, no a r.na, r.ha, fun t z => ⟨no t (r.nt t z).1, (r.nt t z).2⟩⟩
end
end Pu
namespace Pu
open PySem PySem.Spec L2
open PyProof.Rows hiding St
def CX1 (P : Program) (w : World) : CXT := fun outer H s E e s' => ∃ a C T H', e = .ref a ∧ E (.ref C) none H' ∧ Rsd P w (frs outer) H s a C T s' H'
def spX (K : PySem.W.Frag) (n : Nat) (F : List D → R D) : Sp := fun vs H Q E => ∃ O ds, Reps K O H ds vs ∧ ds.length = n ∧ (∀ a, O a → ∃ o, H a = some o) ∧ match F ds with
  | .ok d => ∀ v H', Same H H' → Rep K O H' d v → Q v H'
  | .err c => ∀ C H', PySem.W.nsIn K mainGlobals c = some (some (.ref C)) → E (.ref C) none H'
  | .bad => False
section
variable {P : Program} {w : World} {K : PySem.W.Frag} {mg : Str → Option Value} {base : Heap}
theorem fnX {x qual : Str} {st : Stmt} {f : Addr} {fd : FuncData} {N ps : List Str} {k n m : Nat} {g : Rho → So} (Fn : Fun K x qual st f fd) (S : FnScope N ps (defScope st)) (hn : ps.length = n) (hm : N.length = n + m)
    (hb : ∀ (cdv : Value) (A : Around) (outer : List PySem.Env) (s : Shared) (H : Hp) (E : XK), Room k (A.deeper (envOfC qual (defScope st) s.heap.objs.size f cdv)) → DSs (cxOf (CX1 P w) P w K mg base N qual (defScope st) f cdv A outer s H E) (defBody st) g) :
    FnOk P w K mg base (CX1 P w) (k + 1) f fd ps (spX K n (runB m g)) := by
  obtain ⟨oc, od, kV, doc, pm, an, cdv, ct, osl, rfl, lk, hcd⟩ := Fn.ex
  refine fn_of lk hcd S (fun vs H Q E h => ?_) fun A outer s H vs Q E hr h => ?_
  · obtain ⟨O, ds, r, hl, _⟩ := h
    rw [hn, ← hl, r.length]
  · obtain ⟨O, ds, r, hl, al, h⟩ := h
    refine ⟨_, hb cdv A outer s H E hr, H, O, O, ds.map (fun d => some (.val d)) ++ List.replicate m none, ?_, ?_⟩
    · have hst : L2.start N vs = vs.map some ++ List.replicate m none := by
        unfold L2.start
        rw [show N.length - vs.length = m by rw [← r.length]; omega]
      refine ⟨Same.refl _, .refl, fun _ z => z, ⟨⟨fun i e q => ?_, fun i k e e' v _ hi _ oi => ?_⟩, al, ?_, ?_⟩, fun i e a q ho => ?_⟩
      · obtain ⟨v, h1, h2, _⟩ := map_rep r m i e q
        exact ⟨v, by rw [hst]; exact h1, h2⟩
      · obtain ⟨_, _, _, h3⟩ := map_rep r m i e hi
        rw [h3] at oi; cases oi
      · show (L2.start N vs).length = N.length
        rw [hst, List.length_append, List.length_map, List.length_replicate, ← r.length]; omega
      · show (ds.map (fun d => some (Ent.val d)) ++ List.replicate m none).length = N.length
        rw [List.length_append, List.length_map, List.length_replicate]; omega
      · obtain ⟨_, _, _, h3⟩ := map_rep r m i e q
        rw [h3] at ho; cases ho
    · unfold runB at h
      cases e2 : g (ds.map (fun d => some (.val d)) ++ List.replicate m none) with
      | rt d => rw [e2] at h; exact fun v H' s' r' => h v H' s' r'
      | nx ρ' => rw [e2] at h; exact fun σ' H' O' j' _ => h .non H' j'.same rep_non
      | bk _ => rw [e2] at h; exact h.elim
      | ct _ => rw [e2] at h; exact h.elim
      | bad => rw [e2] at h; exact h.elim
      | ex c ρ' =>
        rw [e2] at h
        intro σ' H' O' j' H1 pins s1 a C T s2 H2 sm I hC rs
        have J : Inv (cxOf (CX1 P w) P w K mg base N qual (defScope st) f cdv A outer s H E) pins σ' H2 s2 := I.call' rs.os rs.un rs.hok rs.bare fun b z => absurd z (by simp)
        have rs0 : Rsd P w (frs outer) H s a C T s2 H2 := Rsd.from I rfl rs (j'.same.trans sm)
        refine leave_exc (b0 := base) (L := s.heap.objs.size) (outer := outer) J.ok.frames J.stack rfl rs.exc fun h' t' ld => ?_
        refine ⟨a, C, some t', H2, rfl, h C H2 hC, ?_⟩
        have ne : ∀ b o, s.heap.get? b = some o → b ≠ a ∧ T ≠ some b := fun b o q => ⟨fun z => (by rw [z, rs0.na] at q; cases q), fun z => (by rw [(rs0.nt b z).1] at q; cases q)⟩
        have nL : ∀ b o, s.heap.get? b = some o → b ≠ s.heap.objs.size := fun b o q => Nat.ne_of_lt (Heap.lt_size q)
        have fr : ∀ b, b ∈ frs (envOfC qual (defScope st) s.heap.objs.size f cdv :: outer) → b = s.heap.objs.size ∨ b ∈ frs outer := fun b hb => List.mem_cons.mp hb
        have fr' : ∀ b, b ∈ frs outer → b ∈ frs (envOfC qual (defScope st) s.heap.objs.size f cdv :: outer) := fun b hb => List.mem_cons_of_mem _ hb
        have hfree : ∀ b, b ∈ frs (envOfC qual (defScope st) s.heap.objs.size f cdv :: outer) → H2 b = none := J.stkFree
        refine ⟨rs0.same, ⟨fun b o q n hb hx => ?_, fun b o q n hb hx => ?_, rs0.un.free, fun b o q hx => ?_, rs0.un.tups, rs0.un.frzs, rs0.un.tbls⟩, ld.hok rs0.hok rs0.ha (fun t z => (rs0.nt t z).2) hfree, rs0.os, rs0.bare, ld.exc, rs0.na, rs0.ha, fun t z => ?_⟩
        · exact ld.keep b o (rs0.un.keep b o q n hb hx) (ne b o q).1 (ne b o q).2 fun z => (fr b z).elim (nL b o q) hb
        · obtain ⟨sl, e⟩ := rs0.un.slot b o q n hb hx
          obtain ⟨sl', e'⟩ := ld.slot b _ e (fr' b hb)
          exact ⟨sl', e'⟩
        · obtain ⟨o', e⟩ := rs0.un.there b o q hx
          by_cases hb : b ∈ frs (envOfC qual (defScope st) s.heap.objs.size f cdv :: outer)
          · obtain ⟨sl', e'⟩ := ld.slot b _ e hb
            exact ⟨_, e'⟩
          · exact ⟨o', ld.keep b o' e (ne b o q).1 (ne b o q).2 hb⟩
        · cases z
          rcases ld.old with z | z
          · exact rs0.nt t' z
          · refine ⟨?_, hok_none rs0.hok z⟩
            cases q : s.heap.get? t' with
            | none => rfl
            | some o =>
              obtain ⟨o', e⟩ := rs0.un.there t' o q (by simp)
              rw [z] at e; cases e
end
def FnX (P : Program) (w : World) (K : PySem.W.Frag) (mg : Str → Option Value) (base : Heap) (k : Nat) (x : Str) (n : Nat) (F : List D → R D) : Prop :=
  ∃ f fd ps, FnOk P w K mg base (CX1 P w) k f fd ps (spX K n F) ∧ mg x = some (.ref f) ∧ PySem.W.keepIn K (.ref f) = true ∧ Binds K fd ps []
theorem fnX_of {P : Program} {w : World} {K : PySem.W.Frag} {mg : Str → Option Value} {base : Heap} {x qual : Str} {st : Stmt} {f : Addr} {fd : FuncData} {N ps : List Str} {k n m : Nat} {g : Rho → So} (Fn : Fun K x qual st f fd) (hmg : mg x = some (.ref f)) (hb : Binds K fd ps []) (S : FnScope N ps (defScope st)) (hn : ps.length = n) (hm : N.length = n + m)
    (hbody : ∀ (cdv : Value) (A : Around) (outer : List PySem.Env) (s : Shared) (H : Hp) (E : XK), Room k (A.deeper (envOfC qual (defScope st) s.heap.objs.size f cdv)) → DSs (cxOf (CX1 P w) P w K mg base N qual (defScope st) f cdv A outer s H E) (defBody st) g) :
    FnX P w K mg base (k + 1) x n (runB m g) := ⟨f, fd, ps, fnX Fn S hn hm hbody, hmg, Fn.kp, hb⟩
section
variable {X : Cx} {k n m : Nat} {F : List D → R D} {x : Str} {p pos : Pos} {e : Expr} {es : List Expr} {fa : Rho → R (List D)}
theorem de_fnX (G : FnX X.prog X.w X.K X.mg X.base k x n F) (hr : Room m X.A) (hkm : k ≤ m) (ha : DA X (e :: es) fa) (hg : Gl X x := by rfl)
    (hdb : (x == ("__debug__" : Str)) = false := by decide) (he : starEach (e :: es) X.env = (false, eval e X.env) :: starEach es X.env := by rfl) (hpl : (backTo pos (starEach es X.env)).any (·.1) = false := by rfl) :
    DE X (.Call (.Name x p) (e :: es) [] pos) (callV (okN F n) fa) := by
  obtain ⟨f, fd, ps, ok, hm, hk, hb⟩ := G
  intro pins s σ H Q I h
  obtain ⟨ρ, O, j, h⟩ := h
  refine wpAny_Call_Name_kw (ld_glob I hg hm ?_ hdb)
  have key : tG X (rDs X) fa σ H (fun vs H1 => ∃ ds, Same H H1 ∧ Reps X.K O H1 ds vs ∧ In X O H1 ρ σ ∧ good X (rD X) O (okN F n ds) σ H1 Q) := go j h fun ds vs H1 e1 s1 r1 j1 h1 => ⟨ds, s1, r1, j1, h1⟩
  refine PySem.W.callWith_K (h₀ := X.base) I.ok.mod.kin hk (thn (ha pos pins s σ H _ I key) fun us s1 ⟨vs, H1, I1, r, q⟩ => ⟨I1.kIn, ?_⟩) he hpl
  obtain ⟨ds, sm, r1, j1, h1⟩ := q
  unfold okN at h1
  by_cases hl : ds.length = n
  · rw [if_pos hl] at h1
    have sp : spX X.K n F vs H1 Q fun u _ _ => ∃ c C, F ds = .err c ∧ u = .ref C ∧ PySem.W.nsIn X.K mainGlobals c = some (some (.ref C)) := by
      refine ⟨O, ds, r1, hl, j1.al, ?_⟩
      cases q : F ds with
      | ok d => rw [q] at h1; exact h1
      | bad => rw [q] at h1; exact h1
      | err c => exact fun C _ hC => ⟨c, C, rfl, rfl, hC⟩
    have hll : us.length = ps.length := by rw [← r.length]; exact ok.len _ _ _ _ sp
    have hbb := hb s1 us I1.kIn (by rw [List.append_nil]; exact hll)
    rw [List.append_nil] at hbb
    refine wpAny_call (codeAny_mono ((ok.mono hkm).run X.A X.stack s1 H1 ⟨us, []⟩ us vs Q _ hr I1.env0 hbb r sp) fun r s' hq => ?_)
    cases r with
    | error ev =>
      obtain ⟨a, C, T, H', rfl, hE, rs⟩ := hq
      obtain ⟨c, C', q, z, hC⟩ := hE
      cases z
      rw [q] at h1
      exact h1 H1 pins s1 a C T s' H' (Same.refl _) I1 hC rs
    | ok fl =>
      cases fl with
      | ret u => exact I1.after hq
      | next => exact False.elim hq
      | brk => exact False.elim hq
      | cont => exact False.elim hq
  · rw [if_neg hl] at h1; exact h1.elim
end
end Pu
namespace Pu
open PySem PySem.Spec L2
open PyProof.Rows hiding St
abbrev mroV : List Value := [.type "ValueError", .type "Exception", .type "BaseException", .type "object"]
structure XCl (K : PySem.W.Frag) (mg : Str → Option Value) (c : Str) (C : Addr) : Prop where
  ns : PySem.W.nsIn K mainGlobals c = some (some (.ref C))
  mg : mg c = some (.ref C)
  ex : PySem.W.excIn K C mroV "ValueError.__new__" = true
theorem excObj {K : PySem.W.Frag} {h : Heap} {C : Addr} {bmB : List Value} {newId : String} (X : K.In h) (q : PySem.W.excIn K C bmB newId = true) :
    ∃ bm N nm qn bs hdct sn sub ab col dd k0 k1 k2 k3 k5 mN, h.get? C = some (excClassObj nm qn C N bs bm hdct sn sub ab col dd k0 k1 k2 k3 k5 newId) ∧ h.Ns N mN ∧ mN "__init__" = none ∧ OwnTail h bmB bm := by
  unfold PySem.W.excIn at q
  split at q
  · rename_i d0 cd sl0 e0
    split at q
    · rename_i C1 b1 a0 a1 a2 a3 n1 a5 e1 e2
      simp only [Bool.and_eq_true, beq_iff_eq, Bool.not_eq_true'] at q
      obtain ⟨⟨⟨⟨⟨rfl, rfl⟩, z1⟩, z2⟩, z3⟩, z4⟩ := q
      obtain ⟨v1, v2, v3, v4, v5, v6, v7, v8, v9, v10, v11⟩ := cd
      dsimp only at e1 z1 z3 z4
      subst e1 z1
      obtain ⟨l0⟩ := sl0
      simp only at e2
      subst e2
      exact ⟨b1, v4, v1, v5, v2, v6, v7, v8, v9, v10, d0, a0, a1, a2, a3, a5, _, X _ _ e0, .of_isNs (PySem.W.isNs_of_in X z3), PySem.W.nsMap_none_of_in X z3 z4, PySem.W.tail_of_in X z2⟩
    · cases q
  · cases q
section
variable {X : Cx} {c : Str} {C : Addr} {np cpos pos : Pos} {e : Expr} {fa : Rho → R (List D)}
theorem ds_raise (hc : X.calm = true) (hx : XCl X.K X.mg c C) (ha : DA X [e] fa) (hfa : ∀ ρ, ∃ ds, fa ρ = .ok ds ∧ ds.length ≤ 1000000) (hg : Gl X c := by rfl) (hdb : (c == ("__debug__" : Str)) = false := by decide)
    (he : starEach [e] X.env = (false, eval e X.env) :: starEach [] X.env := by rfl) (hpl : (backTo cpos (starEach [e] X.env)).any (·.1) = false := by rfl) :
    DS X (.Raise (some (.Call (.Name c np) [e] [] cpos)) none pos) (fun ρ => .ex c ρ) := by
  intro pins s σ H E I h
  obtain ⟨H0, O0, O, ρ, j, h⟩ := h
  obtain ⟨bm, N, nm, qn, bs, hdct, sn, sub, ab, col, dd, k0, k1, k2, k3, k5, mN, o1, o2, o3, o4⟩ := excObj I.mod.kin hx.ex
  obtain ⟨ds, ef, dl⟩ := hfa ρ
  have key : tG X (rDs X) fa σ H (fun vs H1 => ds.length = vs.length ∧ Same H H1) := ⟨ρ, O, j.inn, by rw [ef]; exact fun vs H1 s1 r1 => ⟨r1.length, s1⟩⟩
  refine wpAny_Raise_call_subU (C := C) (nm := nm) (q := qn) (N := N) (bs := bs) (bm := bm) (hdct := hdct) (sn := sn) (sub := sub) (ab := ab) (col := col) (dd := dd) (k0 := k0) (k1 := k1) (k2 := k2) (k3 := k3) (k5 := k5)
    PySem.F.excBase_ValueError (by rfl) PySem.F.excBase_ValueError (mN := mN) (o4.hasType PySem.F.excBase_ValueError.hasBase) (I.ok.hd hc) hpl o3 (ld_glob I hg hx.mg ⟨rfl, ?_⟩ hdb)
  have hA := ha cpos pins s σ H _ I key
  rw [he] at hA ⊢
  refine Calls.evalArgs_plain (wpAny_mono hA (fun us s1 ⟨vs, H1, I1, r, hl, sm⟩ => ?_) fun _ _ z => z)
  refine ⟨rfl, ?_, I1.bk _ _ o1, o2.keeps I1.bk, o4.keeps I1.bk, fun h' ev hm => ?_⟩
  · show us.length ≤ sizeLine
    rw [← r.length, ← hl]
    exact Nat.le_trans dl sizeLine_ge
  · obtain ⟨t, ht, _, _⟩ := hm.there
    exact h σ H1 O (j.grow sm) H1 pins s1 ev C none _ H1 (Same.refl _) I1 hx.ns ⟨Same.refl _, Un.kept hm.keeps, I1.hok.kept hm.keeps, rfl, I1.bare, ⟨_, _, ht, rfl, rfl, rfl, rfl⟩, hm.new, hok_none I1.hok hm.new, fun _ z => by cases z⟩
end
section
variable {X : Cx} {pins : List (Addr × Obj)} {σ : St} {H : Hp} {s : Shared}
theorem _root_.L2.Inv.track {a : Addr} {o : Obj} (I : Inv X pins σ H s) (ha : H a = none) (ho : s.heap.get? a = some o) (n0 : X.s₀.heap.get? a = none) (nL : a ≠ X.env.locals) (nc : ∀ x c, X.env.cells.lookup x = some c → c ≠ a) (np : ∀ p ∈ X.pn ++ pins, p.1 ≠ a) :
    Inv X pins σ (upd H a (.frz o (.own a))) s := by
  have old : ∀ b u, H b = some u → upd H a (.frz o (.own a)) b = some u := fun b u q => by rw [upd_ne (ne_of_none q ha)]; exact q
  refine ⟨I.ok, I.os, I.bare, ⟨I.base.keep, I.base.slot, fun b ob q n hx => ?_, I.base.there, fun b xs q => old _ _ (I.base.tups b xs q), fun b ob u q => old _ _ (I.base.frzs b ob u q), fun b ps q => ?_⟩, I.loc, I.cell, ?_, fun x c q => ?_, fun p hp => ?_, fun b u q => ?_, I.len⟩
  · rw [upd_ne (fun z => by rw [z, n0] at q; cases q)]
    exact I.base.free b ob q n hx
  · obtain ⟨more, e⟩ := I.base.tbls b ps q
    exact ⟨more, old _ _ e⟩
  · rw [upd_ne (Ne.symm nL)]; exact I.free
  · rw [upd_ne (nc x c q)]; exact I.freeC x c q
  · obtain ⟨e, n, r⟩ := I.pin p hp
    exact ⟨e, by rw [upd_ne (np p hp)]; exact n, r⟩
  · by_cases hb : b = a
    · subst hb
      rw [upd_same] at q; cases q
      exact ⟨ho, o, ho⟩
    · rw [upd_ne hb] at q
      exact (I.hok b u q).stay (fun _ _ _ z => z) (fun c z => old _ _ z) (fun c xs z => old _ _ z) fun c o u _ z => old _ _ z
theorem _root_.L2.Inv.gone {h' : Heap} {m' : Str → Option Value} {t' : Nat} (I : Inv X pins σ H s) (hn : h'.Ns X.env.locals m') (hs : Heap.SameBut X.env.locals s.heap h') : Inv X pins (List.replicate X.N.length none) H { s with heap := h', toks := t' } := by
  have to : ∀ b ob, X.s₀.heap.get? b = some ob → b ≠ X.env.locals := fun b ob q => Nat.ne_of_lt (Nat.lt_of_lt_of_le (Heap.lt_size q) I.ok.above)
  refine ⟨I.ok, I.os, I.bare, ⟨fun b ob q n hb hx => ?_, fun b ob q n hb hx => ?_, I.base.free, fun b ob q hx => ?_, I.base.tups, I.base.frzs, I.base.tbls⟩, ⟨m', hn, fun i x v _ e2 _ => ?_⟩, fun x c q => ?_, I.free, I.freeC, fun p hp => ?_, fun b u q => ?_, by simp⟩
  · exact (hs.2 b (to b ob q)).trans (I.base.keep b ob q n hb hx)
  · obtain ⟨sl, e⟩ := I.base.slot b ob q n hb hx
    exact ⟨sl, (hs.2 b (to b ob q)).trans e⟩
  · obtain ⟨o', e⟩ := I.base.there b ob q hx
    exact ⟨o', (hs.2 b (to b ob q)).trans e⟩
  · rw [List.getElem?_replicate] at e2
    split at e2 <;> cases e2
  · obtain ⟨v, z⟩ := I.cell x c q
    exact ⟨v, z.sameBut hs (I.cne x c q)⟩
  · obtain ⟨e, n, ne, r⟩ := I.pin p hp
    exact ⟨(hs.2 p.1 ne).trans e, n, ne, r⟩
  · refine (I.hok b u q).stay (fun c w' hc z => (hs.2 c ?_).trans z) (fun _ z => z) (fun _ _ z => z) fun _ _ _ _ z => z
    rintro rfl
    rcases hc with hc | hc
    · rw [← hc, I.free] at q; cases q
    · rw [I.free] at hc; cases hc
abbrev _root_.L2.Cx.inH (X : Cx) (a : Addr) : Cx := { X with A := X.A.mark (some (.ref a)), calm := false, xe := fun _ _ => False }
theorem _root_.L2.Inv.inH (I : Inv X pins σ H s) (a : Addr) : Inv (X.inH a) pins σ H s :=
  ⟨⟨I.ok.mod, I.ok.kind, I.ok.glob, I.ok.blt, I.ok.above, I.ok.inj, I.ok.has, I.ok.cab, fun z => Bool.noConfusion z, I.ok.frames, I.ok.stk, I.ok.exf, I.ok.bs, I.ok.bsz, I.ok.noex, I.ok.exfs, I.ok.funs, I.ok.frf⟩, I.os, I.bare, I.base, I.loc, I.cell, I.free, I.freeC, I.pin, I.hok, I.len⟩
theorem _root_.L2.Inv.outH {a : Addr} (ok : X.Ok) (I : Inv (X.inH a) pins σ H s) : Inv X pins σ H s := ⟨ok, I.os, I.bare, I.base, I.loc, I.cell, I.free, I.freeC, I.pin, I.hok, I.len⟩
theorem At.cx {Y : Cx} {H0 : Hp} {O0 O : Addr → Prop} {ρ : Rho} (j : At X H0 O0 O H ρ σ) (hK : Y.K = X.K) (hN : Y.N = X.N) : At Y H0 O0 O H ρ σ :=
  ⟨j.same, by rw [hK]; exact j.rch, j.sub, ⟨by rw [hK]; exact j.inn.env, j.inn.al, by rw [hN]; exact j.inn.len, by rw [hN]; exact j.inn.lenR⟩, j.mine⟩
theorem At.setO {H0 : Hp} {O0 O : Addr → Prop} {ρ : Rho} (j : At X H0 O0 O H ρ σ) {i : Nat} (hi : i < X.N.length) {t : Ob} {v : V} (r : RepO X.K H t v) : At X H0 O0 O H (ρ.set i (some (.obj t))) (σ.set i (some v)) := by
  have h1 : i < ρ.length := by rw [j.inn.lenR]; exact hi
  have h2 : i < σ.length := by rw [j.inn.len]; exact hi
  refine ⟨j.same, j.rch, j.sub, ⟨⟨fun k e q => ?_, fun k l e e' u hkl hk hl ok ol sk sl => ?_⟩, j.inn.al, by rw [List.length_set]; exact j.inn.len, by rw [List.length_set]; exact j.inn.lenR⟩, fun k e a q ho hs => ?_⟩
  · by_cases hki : k = i
    · subst hki
      rw [List.getElem?_set_self h1] at q; cases q
      exact ⟨v, List.getElem?_set_self h2, r⟩
    · rw [List.getElem?_set_ne (Ne.symm hki)] at q ⊢
      exact j.inn.env.get k e q
  · by_cases hki : k = i
    · subst hki
      rw [List.getElem?_set_self h1] at hk; cases hk; cases ok
    · by_cases hli : l = i
      · subst hli
        rw [List.getElem?_set_self h1] at hl; cases hl; cases ol
      · rw [List.getElem?_set_ne (Ne.symm hki)] at hk sk
        rw [List.getElem?_set_ne (Ne.symm hli)] at hl sl
        exact j.inn.env.sep k l e e' u hkl hk hl ok ol sk sl
  · by_cases hki : k = i
    · subst hki
      rw [List.getElem?_set_self h1] at q; cases q; cases ho
    · rw [List.getElem?_set_ne (Ne.symm hki)] at q hs
      exact j.mine k e a q ho hs
end
abbrev _root_.L2.Cx.inT (X : Cx) (E : Value → Shared → Prop) (pn : List (Addr × Obj)) : Cx := { X with xe := E, pn := pn }
section
variable {X : Cx} {pins : List (Addr × Obj)} {σ : St} {H : Hp} {s : Shared} {E : Value → Shared → Prop}
theorem _root_.L2.Inv.inT (I : Inv X pins σ H s) (E : Value → Shared → Prop) : Inv (X.inT E (X.pn ++ pins)) [] σ H s :=
  ⟨⟨I.ok.mod, I.ok.kind, I.ok.glob, I.ok.blt, I.ok.above, I.ok.inj, I.ok.has, I.ok.cab, I.ok.hd, I.ok.frames, I.ok.stk, I.ok.exf, I.ok.bs, I.ok.bsz, I.ok.noex, I.ok.exfs, I.ok.funs, I.ok.frf⟩, I.os, I.bare, I.base, I.loc, I.cell, I.free, I.freeC, fun p hp => I.pin p (by rw [List.append_nil] at hp; exact hp), I.hok, I.len⟩
theorem _root_.L2.Inv.outT {p1 : List (Addr × Obj)} (ok : X.Ok) (I : Inv (X.inT E (X.pn ++ pins)) p1 σ H s) : Inv X pins σ H s :=
  ⟨ok, I.os, I.bare, I.base, I.loc, I.cell, I.free, I.freeC, fun p hp => I.pin p (List.mem_append_left _ hp), I.hok, I.len⟩
theorem _root_.L2.SP.outT {D : Ends} {f : Flow} {s' : Shared} (ok : X.Ok) (h : SP (X.inT E (X.pn ++ pins)) [] D f s') : SP X pins D f s' := by
  cases f with
  | next => obtain ⟨σ', H', I, q⟩ := h; exact ⟨σ', H', I.outT ok, q⟩
  | brk => obtain ⟨σ', H', I, q⟩ := h; exact ⟨σ', H', I.outT ok, q⟩
  | cont => obtain ⟨σ', H', I, q⟩ := h; exact ⟨σ', H', I.outT ok, q⟩
  | ret u => obtain ⟨v, σ', H', I, r, q⟩ := h; exact ⟨v, σ', H', I.outT ok, r, q⟩
end
section
variable {X : Cx} {t n : Str} {CT : Addr} {np hpos pos : Pos} {body suite : List Stmt} {b₀ : Stmt} {g h : Rho → So} {sub : Str → Str → Bool}
theorem ds_try (i : Nat) (hN : X.N.Nodup) (hst : X.stack = X.env :: X.outer) (hfr : X.env.frame = some X.env.locals) (hex : X.ex = []) (hm : X.mg t = some (.ref CT))
    (hx : ∀ c C, sub c t = true → PySem.W.nsIn X.K mainGlobals c = some (some (.ref C)) → PySem.W.exmOne X.K (.ref C) (.ref CT) = some true)
    (hb : ∀ E pn, DSs (X.inT E pn) body g) (hh : ∀ a, DSs (X.inH a) (b₀ :: suite) h) (hg : Gl X t := by rfl) (hi : X.N[i]? = some n := by rfl) (hl : X.env.kindOf n = some .local := by rfl) (hdb : (t == ("__debug__" : Str)) = false := by decide) :
    DS X (.Try body [.ExceptHandler (some (.Name t np)) (some n) (b₀ :: suite) hpos] [] [] pos) (tryS sub t i g h) := by
  intro pins s σ H E I q
  obtain ⟨H0, O0, O, ρ, j, q⟩ := q
  refine wpAny_Try_except ?_
  have hin : i < X.N.length := (List.getElem?_eq_some_iff.mp hi).1
  have hcls : (X.env.scope.kind == .class || (X.env.scope.kind == .module && X.env.locals != X.env.globals)) = false := by rw [I.ok.kind]; rfl
  refine wpAny_mono (hb _ (X.pn ++ pins) [] s σ H E (I.inT _) ⟨H0, O0, O, ρ, j.cx rfl rfl, ?_⟩) (fun f s1 z => ?_) fun _ _ z => z
  · -- the body's ends
    unfold tryS at q
    cases eg : g ρ with
    | bad => rw [eg] at q; exact q
    | nx ρ1 => rw [eg] at q; exact fun σ' H' O' j' r' => q σ' H' O' (j'.cx rfl rfl) r'
    | bk ρ1 => rw [eg] at q; exact fun σ' H' O' j' r' => q σ' H' O' (j'.cx rfl rfl) r'
    | ct ρ1 => rw [eg] at q; exact fun σ' H' O' j' r' => q σ' H' O' (j'.cx rfl rfl) r'
    | rt d => rw [eg] at q; exact q
    | ex c ρ1 =>
      rw [eg] at q
      simp only at q
      by_cases hs : sub c t = true
      · rw [if_pos hs] at q
        intro σ1 H1' O1 j1 H1 pins1 s1 a C T s2 H2 sm I1w hC rs
        have I1 : Inv X pins σ1 H1 s1 := I1w.outT I.ok
        have J1 : Inv X pins σ1 H2 s2 := I1.call' rs.os rs.un rs.hok rs.bare fun b z => absurd z (by simp)
        refine note_exc (b0 := X.base) (outer := X.outer) (by rw [J1.ok.frames, hst]) (by have := J1.stack; rwa [hst] at this) hfr rs.exc fun h3 t3 ld => ?_
        have fsub : ∀ b ∈ frs (X.env :: X.outer), b ∈ frs X.stack := fun b z => by rw [hst]; exact z
        have r3 : Rsd X.prog X.w (frs X.stack) H1 s1 a C (some t3) { s2 with heap := h3 } H2 := Rsd.land rs fsub ld J1.stkFree
        have J3 : Inv X pins σ1 H2 { s2 with heap := h3 } := I1.call' r3.os r3.un r3.hok r3.bare fun b z => absurd z (by simp)
        obtain ⟨oe, vs, x1, x2, x3, x4, x5, x6, ot, ts, y1, y2, y3⟩ := r3.exc
        refine wpAny_handleBy_cons (codeAny_handlers_test (ld_glob (X := X.inH a) (J3.inH a) hg hm ?_ hdb)) (by intro z; cases z)
        have LT : PySem.W.Looks (model X.prog X.w) h3 (typeOf (.ref a)) (.ref C) := x2 ▸ (PySem.W.Looks.ld x1).andThen .now
        refine (PySem.W.exm_one J3.kIn LT (hx c C hs hC)).here ?_
        simp only [if_true]
        refine codeAny_handlers_suite_as ?_
        refine wpAny_setFlight_none x1 x4 x5 y1 y2 (Array.getElem?_eq_some_iff.mp y3).1 ?_
        have same3 : h3.update t3 (Obj.mapFields (·.setIfInBounds 3 Value.none)) = h3 := Heap.update_setField_same h3 t3 ot ts 3 Value.none y1 y2 y3
        show wpAny _ _ _ _ _ { s2 with heap := h3.update t3 (Obj.mapFields (·.setIfInBounds 3 Value.none)) }
        rw [same3]
        have na1 : ∀ b ob, s1.heap.get? b = some ob → b ≠ a := fun b ob z e => by rw [e, rs.na] at z; cases z
        have K3 : Inv X pins σ1 (upd H2 a (.frz oe (.own a))) { s2 with heap := h3 } := by
          refine J3.track r3.ha x1 ?_ ?_ (fun y cc z => ?_) fun p hp => ?_
          · cases z : X.s₀.heap.get? a with
            | none => rfl
            | some ob =>
              obtain ⟨o', e⟩ := I1.base.there a ob z (by rw [hex]; simp)
              rw [rs.na] at e; cases e
          · intro z
            obtain ⟨m, ⟨ob, _, _, e, _⟩, _⟩ := I1.loc
            exact na1 _ _ e z.symm
          · obtain ⟨v, ob, e, _⟩ := I1.cell y cc z
            exact na1 _ _ e
          · exact na1 _ _ (I1.pin p hp).1
        refine store_ok (X := X.inH a) (v := .ref a) (K3.inH a) hN hi (.inl hl) rfl (fun s4 J4 => ?_) (.inr hl)
        have jx : At X H0 O0 O1 H1' ρ1 σ1 := j1.cx rfl rfl
        have sm3 : Same H1' (upd H2 a (.frz oe (.own a))) := (sm.trans rs.same).trans (Same.upd r3.ha)
        have j4 : At (X.inH a) H0 O0 O1 (upd H2 a (.frz oe (.own a))) (ρ1.set i (some (.obj (.exc c)))) (σ1.set i (some (.ref a))) :=
          ((jx.grow sm3).setO (t := .exc c) (v := .ref a) hin ⟨a, oe, C, rfl, upd_same, x2, x3, ⟨vs, x4⟩, hC⟩).cx rfl rfl
        cases eh : h (ρ1.set i (some (.obj (.exc c)))) with
        | rt d =>
          rw [eh] at q
          refine wpAny_mono (hh a pins s4 _ _ { nx := fun _ _ => False, rt := E.rt } J4 ⟨H0, O0, O1, _, j4, by rw [eh]; exact q⟩) (fun f s5 z => ?_) fun _ _ z => z.elim
          cases f with
          | next => obtain ⟨_, _, _, z⟩ := z; exact z.elim
          | brk => obtain ⟨_, _, _, z⟩ := z; exact z.elim
          | cont => obtain ⟨_, _, _, z⟩ := z; exact z.elim
          | ret u =>
            obtain ⟨v, σ5, H5, J5, r5, q5⟩ := z
            have J5' : Inv X pins σ5 H5 s5 := J5.outH I.ok
            obtain ⟨m, hn, _⟩ := J5'.loc
            exact wpAny_nameGoes hl hn hcls fun h6 m6 hn6 hs6 => ⟨v, _, H5, J5'.gone hn6 hs6, r5, q5⟩
        | bad => rw [eh] at q; exact q.elim
        | nx _ => rw [eh] at q; exact q.elim
        | bk _ => rw [eh] at q; exact q.elim
        | ct _ => rw [eh] at q; exact q.elim
        | ex _ _ => rw [eh] at q; exact q.elim
      · rw [if_neg hs] at q; exact q.elim
  · cases f with
    | next => exact wpAny_execs_nil (z.outT I.ok)
    | brk => exact z.outT I.ok
    | cont => exact z.outT I.ok
    | ret u => exact z.outT I.ok
end
structure XIn (K : PySem.W.Frag) (C : Addr) : Prop where
  g1 : PySem.W.findIn K (.ref C) "__getattribute__" = some (some (.builtin "BaseException.__getattribute__"))
  g2 : PySem.W.findIn K (.ref C) "__getattr__" = some none
  cl : (PySem.W.clsIn K C).isSome = true
  ha : PySem.W.findIn K (.ref C) "__class__" = some (some (.builtin "object.__class__"))
  hn : PySem.W.specialIn K (.builtin "object.__class__") "__get__" = some (some (.builtin "getset_descriptor.__get__"))
  ht : PySem.W.takesIn K (.builtin "object.__class__") = some true
  hm : PySem.W.mroIn K C (.type "object") = some true
  hb : PySem.W.mroIn K C (.type "BaseException") = some true
section
variable {prog : Program} {w : World} {A : Around} {E : Value → Shared → Prop} {s : Shared} {K : PySem.W.Frag} {x C : Addr} {ox : Obj} {od : Option Obj}
theorem find_data {K : PySem.W.Frag} {C : Addr} {od : Option Obj} {name : Str} {a g : Value} (hc : (PySem.W.clsIn K C).isSome = true) (ha : PySem.W.findIn K (.ref C) name = some (some a)) (hg : PySem.W.specialIn K a "__get__" = some (some g)) (ht : PySem.W.takesIn K a = some true) : PySem.W.findObj K C od name = some (.bind g a) := by
  obtain ⟨cd, e⟩ := Option.isSome_iff_exists.mp hc
  unfold PySem.W.findObj
  rw [e, Option.bind_some, ha, Option.bind_some]
  simp [hg, ht]
theorem exc_class {Q : Option Value → Shared → Prop} (X : K.In s.heap) (I : PySem.W.InstAt s.heap x ox C od) (F : XIn K C) (h : Q (some (.ref C)) { s with toks := s.toks + 1 }) : wpAny (model prog w) A (getAttr? (.ref x) "__class__") Q E s := by
  obtain ⟨hh, g, d, t, os⟩ := s
  have L0 := I.type (M := model prog w)
  have L1 := PySem.W.looks_findIn (M := model prog w) X F.g1
  have L2 := PySem.W.looks_findIn (M := model prog w) X F.g2
  have L4 := PySem.W.looks_find (M := model prog w) X I (find_data (od := od) F.cl F.ha F.hn F.ht)
  have LB := PySem.W.looks_mroIn (M := model prog w) X F.hb
  have f3 := PySem.F.attrBase_ValueError.ga.bind (.ref x)
  unfold getAttr? getAttrBy? getAttrBy
  refine wpAny_bind (wpAny_mkText (wpAny_bind (wpAny_attempt (wpAny_holding (wpAny_bind (L0.at (wpAny_bind (L1.at ?_))))))))
  have hx1 : (onTheHeap (Value.ref C) && Value.builtin "BaseException.__getattribute__" == Value.builtin "object.__getattribute__") = false := by
    rw [show (Value.builtin "BaseException.__getattribute__" == Value.builtin "object.__getattribute__") = false from by decide +kernel]; exact Bool.and_false _
  dsimp only
  rw [hx1, if_neg Bool.false_ne_true]
  unfold getAttrByItsOwn hookBefore
  rw [if_pos (show onTheHeap (Value.ref C) = true from rfl)]
  refine wpAny_bind (L2.at (wpAny_bind (wpAny_attempt (wpAny_holding ?_))))
  unfold callGetattribute
  rw [Bool.false_and, if_neg Bool.false_ne_true]
  unfold boundAndCalled
  rw [f3]
  refine wpAny_bind (wpAny_pure ?_)
  refine wpAny_call (codeAny_call_builtin PySem.F.attrBase_ValueError.ga.plain PySem.F.entry_bexc_ga ?_)
  have hk : builtinKind "BaseException.__getattribute__" = some .slot := by decide +kernel
  have hsp : splitId "BaseException.__getattribute__" = some ("BaseException", "__getattribute__") := by decide +kernel
  have ha := PySem.F.args_bexc_ga (.ref x) (.str (Str.ofString "__class__") t)
  simp only [checkBuiltinCall, hk, hsp, List.cons_append, List.nil_append]
  unfold isInstance
  refine wpAny_bind (wpAny_bind (L0.at (LB.at ?_)))
  rw [Bool.not_true, if_neg Bool.false_ne_true]
  refine wpAny_of_eq (a := ()) ha ?_
  unfold Builtin.«object.__getattribute__»
  refine wpAny_bind (wpAny_pure ?_)
  refine wpAny_bind (wpAny_pure ?_)
  refine wpAny_bind (L0.at (wpAny_bind (L4.at ?_)))
  show wpAny _ _ (holding [Value.builtin "object.__class__"] (call (Value.builtin "getset_descriptor.__get__") [Value.builtin "object.__class__", .ref x, .ref C]) >>= ret) _ _ _
  refine wpAny_bind (wpAny_holding (wpAny_call (PySem.W.class_get (s := ⟨hh, g, d, t + 1, os⟩) (od := od) X I F.hm (wpAny_pure ?_))))
  exact PySem.W.handed_on rfl (wpAny_pure h)
theorem kitx_exc (F : XIn K C) : PySem.W.KitX K (.ref x) (.ref C) (fun h => PySem.W.InstAt h x ox C od) where
  ty := fun _ _ _ I => I.type
  it := fun _ _ X _ => by
    obtain ⟨cd, hcd⟩ := Option.isSome_iff_exists.mp F.cl
    unfold PySem.W.clsIn at hcd
    split at hcd
    · rename_i v1 v2 v3 v4 ho
      intro A' Q' E' s' k q
      unfold isType loadHead
      exact wpAny_bind (wpAny_loadPart (k _ _ (X _ _ ho)) (wpAny_pure q))
    · cases hcd
  ne := fun h tp dd its n sl X htp => by
    obtain ⟨cd, hcd⟩ := Option.isSome_iff_exists.mp F.cl
    refine Bool.eq_false_iff.mpr fun q => ?_
    have e : C = tp := Value.ref.inj (beq_iff_eq.mp q)
    subst e
    unfold PySem.W.clsIn at hcd
    split at hcd
    · rename_i v1 v2 v3 v4 ho
      cases (X _ _ ho).symm.trans htp
    · cases hcd
  ca := fun X I k => exc_class X I F k
end
section
variable {X : Cx} {sub : Str → Str → Bool}
theorem call_instE {T : Str} {vt : V} {ut : Value} (hut : ∀ u, RelV vt u → u = ut) (hq : ∀ c C, sub c c = true → PySem.W.nsIn X.K mainGlobals c = some (some (.ref C)) → XIn X.K C ∧ PySem.W.kitOne X.K (.ref C) ut = some (sub c T)) :
    CallR X (.builtin "isinstance") (fun xs H Q => ∃ x c, xs = [x, vt] ∧ sub c c = true ∧ RepO X.K H (.exc c) x ∧ Q (.bl (sub c T)) H) := by
  intro pins s σ H xs us Q I r h
  obtain ⟨x, c, rfl, hc, ⟨a, o, C, rfl, hH, h1, h2, ⟨vs, h3⟩, h4⟩, q⟩ := h
  obtain ⟨u, u2, rfl, rx, r2⟩ := vals2 r
  cases (show u = Value.ref a from rx)
  cases hut u2 r2
  obtain ⟨F, e⟩ := hq c C hc h4
  obtain ⟨ho, _⟩ := I.hok a _ hH
  refine PySem.W.kia_one (kitx_exc (x := a) (ox := o) (od := none) F) I.kIn ⟨ho, h1, by unfold PySem.W.notCls; rw [h3], by rw [h2]; trivial⟩ e (fun z => nomatch z) fun tk => ⟨.bl _, H, I.tok _, rfl, q⟩
theorem de_instE (i : Nat) {T n : Str} {vt : V} {ut : Value} {p p1 p2 pos : Pos} (hg : Gl X "isinstance") (hm : X.mg "isinstance" = none) (hT : PE X (.Name T p2) (tC vt)) (hut : ∀ u, RelV vt u → u = ut)
    (hq : ∀ c C, sub c c = true → PySem.W.nsIn X.K mainGlobals c = some (some (.ref C)) → XIn X.K C ∧ PySem.W.kitOne X.K (.ref C) ut = some (sub c T))
    (hN : X.N[i]? = some n := by rfl) (hv : Vis X.env.scope n := by first | exact Or.inl rfl | exact Or.inr (Or.inl rfl) | exact Or.inr (Or.inr rfl)) (hd : (n == ("__debug__" : Str)) = false := by decide) (hcd : (n == ("__classdict__" : Str)) = false := by decide)
    (hs : starEach [.Name n p1, .Name T p2] X.env = (false, eval (.Name n p1) X.env) :: starEach [.Name T p2] X.env := by rfl) (hs2 : starEach [.Name T p2] X.env = (false, eval (.Name T p2) X.env) :: starEach [] X.env := by rfl) (hpl : (backTo pos (starEach [.Name T p2] X.env)).any (·.1) = false := by rfl) :
    DE X (.Call (.Name "isinstance" p) [.Name n p1, .Name T p2] [] pos) (instE sub i T) := by
  refine PE.imp (pe_callB (call_instE (T := T) hut hq) hg hm boot_isinstance (pa_cons (pe_var hN hv hd hcd) (pa_cons hT pa_nil hs2) hs) (by decide) (by decide) hs hpl) fun σ H Q h => ?_
  obtain ⟨ρ, O, j, h⟩ := h
  unfold instE at h
  cases q : ρ[i]? with
  | none => rw [q] at h; exact h.elim
  | some oe =>
    rw [q] at h
    cases oe with
    | none => exact h.elim
    | some en =>
      cases en with
      | val _ => exact h.elim
      | lst _ => exact h.elim
      | dic _ => exact h.elim
      | obj t =>
        cases t with
        | fn _ => exact h.elim
        | exc c =>
          have h : good X (rD X) O (if sub c c = true then .ok (.bl (sub c T)) else .bad) σ H Q := h
          by_cases hc : sub c c = true
          · rw [if_pos hc] at h
            obtain ⟨v, hv1, hv2⟩ := j.env.get i _ q
            exact ⟨v, hv1, v, c, rfl, hc, hv2, fin h (rep_bl _)⟩
          · rw [if_neg hc] at h; exact h.elim
end
end Pu
namespace Pu
open PySem PySem.Spec L2
open PyProof.Rows hiding St
def Itv (K : PySem.W.Frag) (l : Addr) (n : Nat) : It :=
  ⟨fun i H => ∃ xs x, SqL K H l xs ∧ xs.length = n ∧ i < n ∧ xs[n - 1 - i]? = some x, fun i H x H' => H' = H ∧ ∀ xs, SqL K H l xs → xs[n - 1 - i]? = some x, fun i _ => n ≤ i⟩
section
variable {X : Cx} {tg a : Expr} {p pos : Pos} {fa : Rho → R (List D)}
theorem YR.rev {K : PySem.W.Frag} {O : Addr → Prop} {H : Hp} {a : Addr} {ds : List D} {xs : List V} (h : SqL K H a xs) (n : ¬ O a) (r : Reps K O H ds xs) : YR K O H (Itv K a xs.length) ds.reverse := by
  intro O' H' q
  have h' : SqL K H' a xs := SqL.ext q.ext n h
  have r' := r.go q
  intro i
  refine ⟨fun d e => ?_, fun e => ?_⟩
  · have hi : i < ds.length := by
      have := (List.getElem?_eq_some_iff.mp e).1
      simpa using this
    rw [List.getElem?_reverse (by simpa using hi)] at e
    have hl := r.length
    obtain ⟨v, e1, rv⟩ := r'.get e
    rw [hl] at e1
    refine ⟨⟨xs, v, h', rfl, by omega, e1⟩, fun x H2 y => ?_⟩
    obtain ⟨eH, y⟩ := y
    subst eH
    have := y xs h'
    rw [e1] at this; cases this
    exact ⟨Same.refl _, rv⟩
  · show xs.length ≤ i
    rw [← r.length]
    simpa using e
end
section
variable {X : Cx}
end
end Pu
namespace Pu
open PySem PySem.Spec L2
def ddp : List Int → List Int
  | [] => []
  | x :: l => if x ∈ l then ddp l else x :: ddp l
theorem mem_ddp {c : Int} : ∀ {l : List Int}, c ∈ ddp l ↔ c ∈ l
  | [] => Iff.rfl
  | x :: l => by
    have ih := mem_ddp (c := c) (l := l)
    rw [ddp]
    by_cases h : x ∈ l
    · rw [if_pos h, ih, List.mem_cons]
      exact ⟨.inr, fun z => z.elim (fun e => by rw [e]; exact h) id⟩
    · rw [if_neg h, List.mem_cons, List.mem_cons, ih]
theorem ddp_nd : ∀ {l : List Int}, (ddp l).Nodup
  | [] => .nil
  | x :: l => by
    rw [ddp]
    by_cases h : x ∈ l
    · rw [if_pos h]; exact ddp_nd
    · rw [if_neg h]; exact List.nodup_cons.mpr ⟨fun z => h (mem_ddp.mp z), ddp_nd⟩
def sortSetD : List D → R D
  | [.lst ds] => match intsOf ds with
    | some ns => if ns.length < 64 then .ok (.lst ((srt (ddp ns)).map .int)) else .bad
    | none => .bad
  | _ => .bad
def cntD : D → D → R D
  | .lst ds, .int i => match intsOf ds with
    | some ns => .ok (.int (ns.count i : Nat))
    | none => .bad
  | _, _ => .bad
def cntV (f g : Rho → R D) : Rho → R D := fun ρ => (f ρ).bind fun x => match x with
  | .lst ds => (g ρ).bind fun y => cntD (.lst ds) y
  | _ => .bad
theorem intsOf_m (ns : List Int) : intsOf (ns.map D.int) = some ns := by simpa using intsOf_on (c := fun i : Int => i) (l := ns)
theorem ev_sortSet {l : List Int} (h : l.length < 64) : sortSetD [.lst (l.map .int)] = .ok (.lst ((srt (ddp l)).map .int)) := by
  rw [sortSetD, intsOf_m]
  show (if _ then _ else _) = _
  rw [if_pos h]
theorem ev_cnt {l : List Int} {i : Int} : cntD (.lst (l.map .int)) (.int i) = .ok (.int (l.count i : Nat)) := by
  rw [cntD, intsOf_m]
theorem ev_cntV {f g : Rho → R D} {ρ : Rho} {l : List Int} {i : Int} (e1 : f ρ = .ok (.lst (l.map .int))) (e2 : g ρ = .ok (.int i)) : cntV f g ρ = .ok (.int (l.count i : Nat)) := by
  rw [cntV, e1, R.bind_ok]
  show (g ρ).bind _ = _
  rw [e2, R.bind_ok, ev_cnt]
theorem tal_srt (l : List Int) : tal l = (srt (ddp l)).map fun c => (c, (l.count c : Int)) := by
  have nd : (srt (ddp l)).Nodup := ((srt_perm _).nodup_iff).mpr ddp_nd
  have hr : (srt (ddp l)).Pairwise (· < ·) := by
    have := List.Pairwise.and (srt_rise (ddp l)) nd
    exact this.imp fun {a b} h => by have h1 := h.1; have h2 := h.2; omega
  refine rise_ext (tal_rise l) (List.pairwise_map.mpr hr) fun k v => ?_
  rw [tal_mem, List.mem_map]
  constructor
  · rintro ⟨rfl, h⟩
    refine ⟨k, (srt_perm _).mem_iff.mpr (mem_ddp.mpr ?_), rfl⟩
    exact List.count_pos_iff.mp (by omega)
  · rintro ⟨c, hc, e⟩
    cases e
    have := List.count_pos_iff.mpr (mem_ddp.mp ((srt_perm _).mem_iff.mp hc))
    exact ⟨rfl, by omega⟩
end Pu
namespace Pu
open PySem PySem.Spec PySem.W L2
open PyProof.Rows hiding St
section
variable {X : Cx} {e1 e2 : Expr} {f g : Rho → R D}
theorem mt_count : MtR X "list.count" (fun x xs H Q => ∃ l, ∃ ns : List Int, ∃ k : Int, x = .ref l ∧ xs = [.int k] ∧ SqL X.K H l (ns.map V.int) ∧ Q (.int (ns.count k : Nat)) H) := by
  intro pins s σ H x xs v us Q I rx rv h
  obtain ⟨l, ns, k, rfl, rfl, hq, q⟩ := h
  cases rx
  obtain ⟨u, rfl, ru⟩ := rv.one
  obtain ⟨t, rfl⟩ := ru
  obtain ⟨its, r', pl, hz⟩ := I.list hq
  refine count_list_ints pl.isList (intVals r') ?_
  exact ⟨.int _, H, I.tok _, ⟨_, rfl⟩, q⟩
theorem de_count {apos cpos : Pos} (h1 : DE X e1 f) (h2 : DE X e2 g)
    (hbase : attributeBase e1 "count" X.env (eval e1 X.env) = eval e1 X.env := by rfl)
    (hfew : ((backTo cpos (starEach [e2] X.env)).all (fun x => !x.1) && (backToKw cpos (keywordEach [] X.env)).all (fun x => x.1.isSome)
      && decide ([e2].length + ([] : List Keyword).length + (if ([] : List Keyword).isEmpty then 0 else 1) < 30)) = true := by rfl)
    (hline : (apos.endLine == cpos.line) = true := by rfl) (hs1 : starEach [e2] X.env = (false, eval e2 X.env) :: starEach [] X.env := by rfl) (hplain : (backTo cpos (starEach [] X.env)).any (·.1) = false := by rfl) :
    DE X (.Call (.Attribute e1 "count" apos) [e2] [] cpos) (cntV f g) := by
  refine PE.imp (pe_bm PySem.F.plainAttrs_list PySem.F.slot_list_count PySem.F.type_list_count mt_count h1 (pa_cons h2 pa_nil hs1) hbase hfew hline hs1 hplain) fun σ H Q h => ?_
  obtain ⟨ρ, O, j, h⟩ := h
  refine go j h fun d v H1 e1 s1 r1 j1 h1 => ?_
  cases d with
  | lst ds =>
    obtain ⟨a, xs, rfl, hq, hna, rs⟩ := r1.lst
    refine ⟨.inl ⟨rfl, xs, hq⟩, ?_⟩
    refine go j1 h1 fun dy y H2 e2 s2 r2 j2 h2 => ?_
    obtain ⟨a', xs', ea, hq', _, rs'⟩ := (r1.same s2).lst
    cases ea
    cases dy with
    | int k =>
      have h2 : good X (rD X) O (match intsOf ds with | some ns => .ok (.int (ns.count k : Nat)) | none => .bad) σ H2 Q := h2
      cases q : intsOf ds with
      | none => rw [q] at h2; exact h2.elim
      | some ns =>
        rw [q] at h2
        have e := reps_ints q rs'
        subst e
        exact ⟨a, ns, k, rfl, by rw [r2.int], hq', fin h2 (rep_int _)⟩
    | _ => exact h2.elim
  | _ => exact h1.elim
end
end Pu
namespace Pu
open PySem
abbrev Ris (xs : Array Nat) : Prop := xs.toList.Pairwise (· < ·)
theorem Ris.get {xs : Array Nat} (h : Ris xs) {i k : Nat} (hik : i < k) (hk : k < xs.size) : xs[i]'(by omega) < xs[k] := by
  have := List.pairwise_iff_getElem.mp h i k (by simpa using Nat.lt_trans hik hk) (by simpa using hk) hik
  simpa using this
theorem below_go {xs : Array Nat} (hr : Ris xs) {j : Nat} : ∀ {fuel lo hi : Nat}, lo ≤ hi → hi ≤ xs.size → hi ≤ lo + fuel → (∀ i (h : i < xs.size), i < lo → xs[i] < j) → (∀ i (h : i < xs.size), hi ≤ i → j ≤ xs[i]) →
    SetTable.below.go xs j fuel lo hi ≤ xs.size ∧ (∀ i (h : i < xs.size), i < SetTable.below.go xs j fuel lo hi → xs[i] < j) ∧ ∀ i (h : i < xs.size), SetTable.below.go xs j fuel lo hi ≤ i → j ≤ xs[i]
  | 0, lo, hi, h1, h2, h3, a, b => by
    have e : lo = hi := by omega
    subst e
    rw [SetTable.below.go]
    exact ⟨h2, a, b⟩
  | fuel + 1, lo, hi, h1, h2, h3, a, b => by
    rw [SetTable.below.go]
    by_cases h : lo < hi
    · rw [if_pos h]
      have hm1 : lo ≤ (lo + hi) / 2 := by omega
      have hm2 : (lo + hi) / 2 < hi := by omega
      have hms : (lo + hi) / 2 < xs.size := by omega
      have eg : xs.getD ((lo + hi) / 2) j = xs[(lo + hi) / 2] := by simp [Array.getD, hms]
      show (if xs.getD ((lo + hi) / 2) j < j then _ else _) ≤ _ ∧ _
      by_cases hx : xs.getD ((lo + hi) / 2) j < j
      · simp only [if_pos hx]
        refine below_go hr (by omega) h2 (by omega) (fun i hi' hl => ?_) b
        by_cases e : i = (lo + hi) / 2
        · subst e; rw [← eg]; exact hx
        · have := hr.get (i := i) (k := (lo + hi) / 2) (by omega) hms
          rw [eg] at hx; omega
      · simp only [if_neg hx]
        refine below_go hr hm1 (by omega) (by omega) a fun i hi' hl => ?_
        by_cases e : i = (lo + hi) / 2
        · subst e; rw [← eg]; omega
        · have := hr.get (i := (lo + hi) / 2) (k := i) (by omega) hi'
          rw [eg] at hx; omega
    · rw [if_neg h]
      have e : lo = hi := by omega
      subst e
      exact ⟨h2, a, b⟩
theorem below_ok {xs : Array Nat} (hr : Ris xs) (j : Nat) : SetTable.below xs j ≤ xs.size ∧ (∀ i (h : i < xs.size), i < SetTable.below xs j → xs[i] < j) ∧ ∀ i (h : i < xs.size), SetTable.below xs j ≤ i → j ≤ xs[i] := by
  unfold SetTable.below
  exact below_go hr (Nat.zero_le _) (Nat.le_refl _) (by omega) (fun i _ h => absurd h (Nat.not_lt_zero _)) fun i h q => absurd h (by omega)
theorem below_zero {xs : Array Nat} (hr : Ris xs) : SetTable.below xs 0 = 0 := by
  obtain ⟨h1, h2, _⟩ := below_ok hr 0
  cases e : SetTable.below xs 0 with
  | zero => rfl
  | succ k =>
    have := h2 0 (by omega) (by omega)
    omega
theorem below_next {xs : Array Nat} (hr : Ris xs) {i : Nat} (hi : i < xs.size) : SetTable.below xs (xs[i] + 1) = i + 1 := by
  obtain ⟨h1, h2, h3⟩ := below_ok hr (xs[i] + 1)
  have a : i < SetTable.below xs (xs[i] + 1) := by
    by_cases h : i < SetTable.below xs (xs[i] + 1)
    · exact h
    · have := h3 i hi (by omega)
      omega
  by_cases h : SetTable.below xs (xs[i] + 1) = i + 1
  · exact h
  · have hs : i + 1 < xs.size := by omega
    have b := h2 (i + 1) hs (by omega)
    have c := hr.get (i := i) (k := i + 1) (by omega) hs
    omega
theorem insertAt_list {α : Type} (xs : Array α) (p : Nat) (x : α) (hp : p ≤ xs.size) : (SetTable.insertAt xs p x).toList = xs.toList.take p ++ x :: xs.toList.drop p := by
  unfold SetTable.insertAt
  simp only [Array.toList_append, Array.toList_push, Array.toList_extract, List.extract_eq_drop_take, List.drop_zero, Nat.sub_zero, List.append_assoc, List.singleton_append]
  congr 2
  exact List.take_of_length_le (by simp)
theorem insertAt_ris {xs : Array Nat} (hr : Ris xs) {j : Nat} (hj : xs[SetTable.below xs j]? ≠ some j) : Ris (SetTable.insertAt xs (SetTable.below xs j) j) := by
  obtain ⟨h1, h2, h3⟩ := below_ok hr j
  unfold Ris
  rw [insertAt_list _ _ _ h1, List.pairwise_append]
  refine ⟨hr.sublist (List.take_sublist _ _), List.pairwise_cons.mpr ⟨fun b hb => ?_, hr.sublist (List.drop_sublist _ _)⟩, fun a ha b hb => ?_⟩
  · obtain ⟨i, hi, rfl⟩ := List.mem_iff_getElem.mp hb
    have hi' : SetTable.below xs j + i < xs.size := by simpa [Nat.add_comm] using (by simpa using hi : i < xs.size - SetTable.below xs j) |> fun h => (by omega : SetTable.below xs j + i < xs.size)
    have e : (xs.toList.drop (SetTable.below xs j))[i] = xs[SetTable.below xs j + i] := by simp
    rw [e]
    have g := h3 _ hi' (by omega)
    cases i with
    | zero =>
      have ne : xs[SetTable.below xs j] ≠ j := fun z => hj (by rw [Array.getElem?_eq_getElem (by omega), z])
      have g : j ≤ xs[SetTable.below xs j] := g
      show j < xs[SetTable.below xs j]
      omega
    | succ k =>
      have c := hr.get (i := SetTable.below xs j) (k := SetTable.below xs j + (k + 1)) (by omega) hi'
      have g0 := h3 (SetTable.below xs j) (by omega) (Nat.le_refl _)
      omega
  · obtain ⟨i, hi, rfl⟩ := List.mem_iff_getElem.mp ha
    have hi' : i < SetTable.below xs j ∧ i < xs.size := by simp at hi; omega
    have e : (xs.toList.take (SetTable.below xs j))[i] = xs[i]'hi'.2 := by simp
    rw [e]
    have g := h2 i hi'.2 hi'.1
    rcases List.mem_cons.mp hb with rfl | hb
    · exact g
    · obtain ⟨k, hk, rfl⟩ := List.mem_iff_getElem.mp hb
      have hk' : SetTable.below xs j + k < xs.size := by simp at hk; omega
      have e2 : (xs.toList.drop (SetTable.below xs j))[k] = xs[SetTable.below xs j + k] := by simp
      rw [e2]
      have := h3 _ hk' (by omega)
      omega
end Pu
namespace Pu
open PySem
structure TOk (t : SetTable) : Prop where
  dm : t.dummies = #[]
  rs : t.plain = true → Ris t.place
theorem has_nil {j : Nat} : SetTable.has #[] j = false := by
  unfold SetTable.has
  simp
theorem slot_nd {t : SetTable} (h : t.dummies = #[]) (j : Nat) : t.slot j ≠ .dummy := by
  unfold SetTable.slot
  simp only [h, has_nil]
  split
  · exact fun z => nomatch z
  · simp
theorem adv_dummy {t : SetTable} {p : SetTable.Probe} : (t.advance p).dummy = p.dummy := by
  unfold SetTable.advance
  split <;> rfl
theorem probe_empty {t : SetTable} (hd : t.dummies = #[]) {hashAt : Nat → Int} {h : Int} (hn : ∀ i, (hashAt i == h) = false) : ∀ {fuel : Nat} {p : SetTable.Probe} {m : SetTable.Met}, SetTable.probe.go t hashAt h fuel p = some m → ∃ j, m = .empty j p.dummy ∧ t.slot j = .empty
  | 0, p, m, e => by rw [SetTable.probe.go] at e; cases e
  | fuel + 1, p, m, e => by
    rw [SetTable.probe.go] at e
    cases q : t.slot p.j with
    | empty => rw [q] at e; cases e; exact ⟨_, rfl, q⟩
    | dummy => exact absurd q (slot_nd hd _)
    | live i =>
      rw [q] at e
      simp only [hn i, Bool.false_eq_true, if_false] at e
      obtain ⟨j, e1, e2⟩ := probe_empty hd hn e
      exact ⟨j, by rw [e1, adv_dummy], e2⟩
theorem free_ok {t : SetTable} (hd : t.dummies = #[]) {h : Int} {j : Nat} {b : Bool} (e : t.freeSlot h = some (j, b)) : b = false ∧ t.slot j = .empty := by
  unfold SetTable.freeSlot at e
  unfold SetTable.probe at e
  cases q : SetTable.probe.go t (fun _ => h + 1) h (10 * SetTable.turns t.mask) (t.probeStart h) with
  | none => rw [q] at e; cases e
  | some m =>
    obtain ⟨k, e1, e2⟩ := probe_empty hd (hashAt := fun _ => h + 1) (fun _ => by simpa using (by omega : ¬ h + 1 = h)) q
    subst e1
    rw [q] at e
    cases e
    exact ⟨rfl, e2⟩
theorem slot_place {t : SetTable} {j : Nat} (e : t.slot j = .empty) : t.place[SetTable.below t.place j]? ≠ some j := fun z => by
  unfold SetTable.slot at e
  simp only [z, beq_self_eq_true, if_true] at e
  cases e
theorem standIn_ok {t : SetTable} {n : Nat} : TOk (t.standIn n) ∧ (t.standIn n).led = t.led := ⟨⟨rfl, fun z => by cases z⟩, rfl⟩
theorem orStandIn_ok {t : SetTable} {n : Nat} (k : TOk t) : TOk (t.orStandIn n) ∧ (t.orStandIn n).led = t.led := by
  unfold SetTable.orStandIn
  split
  · exact ⟨k, rfl⟩
  · exact standIn_ok
theorem put_ok {t : SetTable} (k : TOk t) {j : Nat} (e : t.slot j = .empty) : TOk (t.put j).1 ∧ (t.put j).1.led = t.led := by
  refine ⟨⟨?_, fun hp => ?_⟩, rfl⟩
  · show (if SetTable.has t.dummies j then _ else t.dummies) = #[]
    rw [k.dm, has_nil]; rfl
  · exact insertAt_ris (k.rs hp) (slot_place e)
theorem layNew_ok {t : SetTable} (k : TOk t) {es : Array (Int × Value)} {h : Int} {x : Value} : TOk (layNew t es h x).2.1 ∧ (layNew t es h x).2.1.led = t.led ∧ (layNew t es h x).2.2.1 = false := by
  unfold layNew
  cases q : t.freeSlot h with
  | none => exact ⟨standIn_ok.1, standIn_ok.2, rfl⟩
  | some jb =>
    obtain ⟨j, b⟩ := jb
    obtain ⟨rfl, e⟩ := free_ok k.dm q
    obtain ⟨k1, l1⟩ := put_ok k e
    have := orStandIn_ok (n := (SetTable.insertAt es (t.put j).2 (h, x)).size) k1
    exact ⟨this.1, this.2.trans l1, rfl⟩
theorem live_ris {β : Type} {g : Nat → Option β} : ∀ {l : List Nat}, l.Pairwise (· < ·) → ((l.filterMap fun j => (g j).map (j, ·)).map (·.1)).Pairwise (· < ·)
  | [], _ => .nil
  | j :: l, h => by
    obtain ⟨h1, h2⟩ := List.pairwise_cons.mp h
    cases q : g j with
    | none => rw [List.filterMap_cons_none (by simp [q])]; exact live_ris h2
    | some b =>
      rw [List.filterMap_cons_some (b := (j, b)) (by simp [q]), List.map_cons]
      refine List.pairwise_cons.mpr ⟨fun k hk => ?_, live_ris h2⟩
      obtain ⟨⟨a, c⟩, hm, rfl⟩ := List.mem_map.mp hk
      obtain ⟨i, hi, e⟩ := List.mem_filterMap.mp hm
      cases qi : g i with
      | none => rw [qi] at e; cases e
      | some d => rw [qi] at e; cases e; exact h1 _ hi
theorem relaid_ok {t t' : SetTable} {hs : Array Int} {n : Nat} {o : Array Nat} (e : t.relaid hs n = some (t', o)) : TOk t' ∧ t'.led = t.led := by
  unfold SetTable.relaid SetTable.laid at e
  cases q : SetTable.layClean (SetTable.sizeAbove n - 1) hs with
  | none => rw [q] at e; cases e
  | some owner =>
    rw [q] at e
    cases e
    exact ⟨⟨rfl, fun _ => by show (List.toArray _).toList.Pairwise _; exact live_ris List.pairwise_lt_range⟩, rfl⟩
theorem relayAll_ok {t : SetTable} {es : Array (Int × Value)} {n : Nat} : TOk (relayAll t es n).2.1 ∧ (relayAll t es n).2.1.led = t.led := by
  unfold relayAll
  cases q : t.relaid (es.map (·.1)) n with
  | none => exact standIn_ok
  | some r =>
    obtain ⟨t', o⟩ := r
    simp only
    split
    · exact relaid_ok q
    · exact standIn_ok
end Pu
namespace Pu
open PySem PySem.Spec PySem.W L2
open PyProof.Rows hiding St
section
variable {prog : Program} {w : World} {A : Around} {E : Value → Shared → Prop} {s : Shared}
def SOk (prog : Program) (w : World) (h : Heap) (a : Addr) (S : Int → Bool) (n : Nat) (led : Bool) : Prop :=
  ∃ (o : Obj) (es : Array (Int × Value)) (ep : Nat) (t : SetTable), h.get? a = some o ∧ o.ExactSet ∧ o.data = .set es ep t ∧ ElemsOf (intKind prog w) es.toList ∧ (∀ k, S k = true ↔ ∃ e ∈ es.toList, (intKind prog w).is k e.2 = true) ∧ es.size < scanBound ∧ t.fits es.size = true ∧ es.size = n ∧ TOk t ∧ t.led = led
theorem SOk.store {h : Heap} {a : Addr} {o : Obj} {es es' : Array (Int × Value)} {ep : Nat} {t t' : SetTable} {S : Int → Bool} {led : Bool} (ho : h.get? a = some o) (hx : o.ExactSet) (hd : o.data = .set es ep t)
    (h1 : ElemsOf (intKind prog w) es'.toList) (h2 : ∀ k, S k = true ↔ ∃ e ∈ es'.toList, (intKind prog w).is k e.2 = true) (h3 : es'.size < scanBound) (h4 : t'.fits es'.size = true) (k : TOk t') (hl : t'.led = led) :
    (h.update a (Obj.putSet es' t')).get? a = some { o with data := .set es' (ep + 1) t' } ∧ SOk prog w (h.update a (Obj.putSet es' t')) a S es'.size led := by
  obtain ⟨g, _⟩ := SetOf_store (knd := intKind prog w) ho hx hd h1 h2 h3 h4
  exact ⟨g, _, es', ep + 1, t', g, hx, rfl, h1, h2, h3, h4, rfl, k, hl⟩
theorem sok_add {a : Addr} {S : Int → Bool} {n : Nat} {k : Int} {tk : Tok} {led : Bool} {Q : Bool → Shared → Prop} (z : SOk prog w s.heap a S n led) (hn : n + 1 < scanBound)
    (h : ∀ h', Heap.SameBut a s.heap h' → SOk prog w h' a (fun j => S j || decide (j = k)) (if S k then n else n + 1) led → Q (!S k) { s with heap := h' }) :
    wpAny (model prog w) A (setAddHashed a (.int k tk) ((intKind prog w).hash k)) Q E s := by
  have hkey : (intKind prog w).is k (.int k tk) = true := intKind_is _ _ _ _
  obtain ⟨o, es, ep, t, ho, hx, hd, he, hm, hb, hf, rfl, kt, hl⟩ := z
  unfold setAddHashed setAddHashedIn
  refine wpAny_holding (wpAny_bind (wpAny_setState_of ho hd hf ?_))
  show wpAny _ _ (if byScan (.int k tk) es = true then _ else _) _ _ _
  rw [if_pos (byScan_of rfl hb he)]
  unfold setAddByScan
  refine wpAny_bind (wpAny_bind (wpAny_rule (wpAny_bind (wpAny_setScan_of hkey ho hd hf he ?_))))
  have rules : ∀ (b : Bool) {s1 : Shared} {Q1 : Unit → Shared → Prop}, Q1 () s1 → wpAny (model prog w) A (match b with | true => rule "set.scan.the-table-gave-way" | false => pure ()) Q1 E s1 := fun b s1 Q1 q => by
    cases b
    · exact wpAny_pure q
    · exact wpAny_rule q
  cases hr : List.findIdx? (fun e => (intKind prog w).is k e.2) es.toList with
  | some j =>
    obtain ⟨hj, pj, _⟩ := List.findIdx?_eq_some_iff_getElem.mp hr
    have hS : S k = true := (hm k).mpr ⟨_, List.getElem_mem hj, pj⟩
    have q := h s.heap (Heap.SameBut.refl a s.heap) ⟨o, es, ep, t, ho, hx, hd, he, fun i => by
      rw [Bool.or_eq_true, decide_eq_true_eq, ← hm i]
      exact ⟨fun y => y.elim id fun e => by rw [e]; exact hS, .inl⟩, hb, hf, by rw [if_pos hS], kt, hl⟩
    rw [hS] at q
    exact wpAny_pure (wpAny_pure q)
  | none =>
    have hS : S k = false := by
      cases e : S k with
      | false => rfl
      | true =>
        obtain ⟨y, hy, py⟩ := (hm k).mp e
        rw [List.findIdx?_eq_none_iff.mp hr y hy] at py; cases py
    have pm := layNew_perm t es ((intKind prog w).hash k) (.int k tk)
    have ft := layNew_fits t es ((intKind prog w).hash k) (.int k tk)
    obtain ⟨k1, l1, d1⟩ := layNew_ok kt (es := es) (h := (intKind prog w).hash k) (x := .int k tk)
    generalize layNew t es ((intKind prog w).hash k) (.int k tk) = L at pm ft k1 l1 d1 ⊢
    obtain ⟨es1, t1, wd, gv⟩ := L
    have d1 : wd = false := d1
    subst d1
    have pm : es1.toList.Perm (es.toList ++ [((intKind prog w).hash k, .int k tk)]) := by simpa using pm
    have el1 := (he.push hkey rfl).perm pm
    have mm1 : ∀ i, (S i || decide (i = k)) = true ↔ ∃ e ∈ es1.toList, (intKind prog w).is i e.2 = true := mem_push_iff hkey hm pm
    have sz1 : es1.size = es.size + 1 := by rw [← Array.length_toList, pm.length_eq, List.length_append, Array.length_toList]; rfl
    have b1 : es1.size < scanBound := by omega
    refine wpAny_bind (rules gv ?_)
    have fin : ∀ h', Heap.SameBut a s.heap h' → SOk prog w h' a (fun j => S j || decide (j = k)) es1.size led → Q true { s with heap := h' } := fun h' sb y => by
      have q := h h' sb
      rw [hS] at q
      exact q (by rw [if_neg (by decide)]; rw [sz1] at y; exact y)
    obtain ⟨g1, z1⟩ := SOk.store (prog := prog) (w := w) ho hx hd el1 mm1 b1 ft k1 (l1.trans hl)
    have sb1 := Heap.SameBut.update s.heap a (Obj.putSet es1 t1)
    have core : wpAny (model prog w) A (do
        storeSet a es1 t1
        if (!false && t1.tooFull) = true then
          match relayAll t1 es1 (SetTable.grown es1.size) with
          | (es, t, gave) => do
            (match gave with | true => rule "set.scan.the-table-gave-way" | false => pure ())
            storeSet a es t
            pure (some true)
        else pure (some true)) (fun r s' => wpAny (model prog w) A (match r with | some added => pure added | none => setAddHashedIn a (Value.int k tk) ((intKind prog w).hash k) 99999) Q E s') E s := by
      refine wpAny_bind (wpAny_storeSet_of ho hd ?_ (fits_of_scanBound b1))
      by_cases tf : (!false && t1.tooFull) = true
      · rw [if_pos tf]
        have pm2 := relayAll_perm t1 es1 (SetTable.grown es1.size)
        have ft2 := relayAll_fits t1 es1 (SetTable.grown es1.size)
        obtain ⟨k2, l2⟩ := relayAll_ok (t := t1) (es := es1) (n := SetTable.grown es1.size)
        generalize relayAll t1 es1 (SetTable.grown es1.size) = L2 at pm2 ft2 k2 l2 ⊢
        obtain ⟨es2, t2, g2⟩ := L2
        have sz2 : es2.size = es1.size := by rw [← Array.length_toList, pm2.length_eq, Array.length_toList]
        have b2 : es2.size < scanBound := by rw [sz2]; exact b1
        obtain ⟨_, z2⟩ := SOk.store (prog := prog) (w := w) (S := fun j => S j || decide (j = k)) g1 hx rfl (el1.perm pm2) (fun i => (mm1 i).trans ⟨fun ⟨e, m, p⟩ => ⟨e, pm2.mem_iff.mpr m, p⟩, fun ⟨e, m, p⟩ => ⟨e, pm2.mem_iff.mp m, p⟩⟩) b2 ft2 k2 (l2.trans (l1.trans hl))
        rw [sz2] at z2
        exact wpAny_bind (rules g2 (wpAny_bind (wpAny_storeSet_of g1 rfl (wpAny_pure (wpAny_pure (fin _ (sb1.trans (Heap.SameBut.update _ a _)) z2))) (fits_of_scanBound b2))))
      · rw [if_neg tf]
        exact wpAny_pure (wpAny_pure (fin _ sb1 z1))
    by_cases tp : t1.plain = true
    · show wpAny _ _ (if t1.plain = true then _ else _) _ _ _
      rw [if_pos tp]
      refine wpAny_bind ?_
      rw [hashByValue_scannable 8 (x := .int k tk) rfl]
      exact wpAny_pure core
    · show wpAny _ _ (if t1.plain = true then _ else _) _ _ _
      rw [if_neg tp]
      exact wpAny_bind (wpAny_pure core)
end
end Pu
namespace Pu
open PySem PySem.Spec PySem.W L2
open PyProof.Rows hiding St
section
variable {prog : Program} {w : World} {A : Around} {E : Value → Shared → Prop} {s : Shared}
theorem SOk.congr {h : Heap} {a : Addr} {S S' : Int → Bool} {n n' : Nat} {led : Bool} (z : SOk prog w h a S n led) (e : ∀ k, S k = S' k) (en : n = n') : SOk prog w h a S' n' led := by
  cases funext e; cases en; exact z
theorem SOk.move {h h' : Heap} {a : Addr} {S : Int → Bool} {n : Nat} {led : Bool} (z : SOk prog w h a S n led) (k : ∀ o, h.get? a = some o → h'.get? a = some o) : SOk prog w h' a S n led := by
  obtain ⟨o, es, ep, t, ho, r⟩ := z
  exact ⟨o, es, ep, t, k o ho, r⟩
end
section
variable {prog : Program} {w : World} {A : Around} {R : Result → Shared → Prop} {I : Addr} {fp wr : List Addr} {G : Array GenState → Array GenState → Prop} {n : Nat} {P : Nat → Value → Prop} {St : Nat → Shared → Prop} {led : Bool}
theorem sok_loop (W : WalksS prog w A.in1 I fp wr G n P St) (a : Addr) (ha : a ∉ fp) (val : Nat → Int) (hv : ∀ i v, P i v → ∃ t, v = .int (val i) t) (hb : n + 1 < scanBound) :
    ∀ (k i : Nat) (s : Shared), n - i = k → i ≤ n → St i s → SOk prog w s.heap a (fun j => (firstMet val i).any (· == j)) (firstMet val i).length led →
      (∀ s', Moved (a :: wr) G s s' → SOk prog w s'.heap a (fun j => (firstMet val n).any (· == j)) (firstMet val n).length led → R (.ok (.ret .none)) s') →
      codeAny (model prog w) A (.builtin "set.update.loop" ⟨[.ref a, .ref I], []⟩) R s
  | 0, i, s, hk, hi, st, z, r => by
    have e : i = n := by omega
    subst e
    refine codeAny_builtin F.entry_set_update_loop ?_
    rw [Around.under_plainId F.plain_set_update_loop]
    refine wpAny_bind (m := pyNext (.ref I)) (W.done s _ _ st fun s' mv => wpAny_pure ?_)
    exact r s' (mv.mono fun b m => List.mem_cons_of_mem _ m) (z.move fun o ho => mv.heap a o (fun m => ha (W.sub _ m)) ho)
  | k + 1, i, s, hk, hi, st, z, r => by
    have lt : i < n := by omega
    refine codeAny_builtin F.entry_set_update_loop ?_
    rw [Around.under_plainId F.plain_set_update_loop]
    refine wpAny_bind (m := pyNext (.ref I)) (W.item i s _ _ lt st fun v s1 pv st1 mv => ?_)
    obtain ⟨t, rfl⟩ := hv i v pv
    have z1 := z.move (h' := s1.heap) fun o ho => mv.heap a o (fun m => ha (W.sub _ m)) ho
    refine wpAny_bind (m := holding [Value.int (val i) t] (setAdd a (.int (val i) t))) (wpAny_holding ?_)
    unfold setAdd
    refine wpAny_holding (wpAny_bind ((intKind prog w).pyHash (k := val i) (intKind_is _ _ _ _) ?_))
    refine sok_add (s := { s1 with toks := s1.toks + 1 }) z1 (by have := firstMet_length_le val i; omega) fun h' sb z2 => ?_
    have z3 := z2.congr (S' := fun j => (firstMet val (i + 1)).any (· == j)) (n' := (firstMet val (i + 1)).length) (fun j => by rw [firstMet_succ, step_any]) (by rw [firstMet_succ, step_length])
    refine wpAny_pure ⟨plainId_quiet F.plain_set_update_loop _, sok_loop W a ha val hv hb k (i + 1) _ (by omega) lt (W.frame _ s1 _ _ st1 (Nat.le_succ _) fun b m o e => ?_) z3 fun s2 mv2 z4 => ?_⟩
    · rw [sb.2 b fun q => ha (q ▸ m)]; exact e
    · refine r s2 (Moved.trans W.gtrans ((mv.mono fun b m => List.mem_cons_of_mem _ m).then_heap (Nat.le_succ _) fun b o m e => ?_) mv2) z4
      rw [sb.2 b fun q => m (q ▸ List.mem_cons_self)]; exact e
end
end Pu
namespace Pu
open PySem PySem.Spec PySem.W L2
open PyProof.Rows hiding St
section
variable {prog : Program} {w : World} {A : Around} {E : Value → Shared → Prop} {s : Shared}
def seto (w : World) : Obj := { cls := .type "set", dict := none, data := .set #[] 0 (.fresh 0 0 (!w.params.followText "set-order")) }
theorem seto_ok {h : Heap} {a : Addr} (e : h.get? a = some (seto w)) : SOk prog w h a (fun _ => false) 0 (!w.params.followText "set-order") :=
  ⟨_, #[], 0, _, e, ⟨rfl, rfl, rfl⟩, rfl, fun e m => by simp at m, fun k => by simp, by decide, rfl, rfl, ⟨rfl, fun _ => .nil⟩, rfl⟩
theorem set_made (x : Value) {Q : Value → Shared → Prop} (h : Q (.ref s.heap.objs.size) { s with heap := s.heap.push (seto w) }) :
    codeAny (model prog w) A (.call (.builtin "set.__new__") ⟨[.type "set", x], []⟩) (wants Q E) s := by
  refine codeAny_of_tree ?_
  refine wpAny_bind (m := checkBuiltinCall "set.__new__" ⟨[.type "set", x], []⟩) (wpAny_of_eq (F.newCall_set_1 x) (wpAny_pure ⟨plainId_quiet F.plain_set_new _, codeAny_builtin F.entry_set_new ?_⟩))
  rw [Around.under_plainId F.plain_set_new]
  unfold Builtin.«set.__new__» Builtin.Frozenset.newClass
  have hsub := sub_set_self
  obtain ⟨hp, g, d, tk, os⟩ := s
  dsimp only
  wp_walk
  refine wpAny_askSetting (wpAny_pure ?_)
  show wpAny _ _ (newObj (.type "set") (.set #[] 0 (.fresh 0 0 (!w.params.followText "set-order")))) _ _ _
  unfold newObj
  exact wpAny_bind (wpAny_alloc (wpAny_pure (wpAny_pure h)))
theorem set_of_list {l : Addr} {its : Array Value} {ns : List Int} {Q : Value → Shared → Prop} (hh : A.handled = none) (hl : s.heap.IsList l its) (hi : IntsAre its.toList ns) (hb : its.size + 1 < scanBound)
    (h : ∀ (h' : Heap) (tk : Nat), SOk prog w h' s.heap.objs.size (fun j => (firstMet (fun i => ns.getD i 0) its.size).any (· == j)) (firstMet (fun i => ns.getD i 0) its.size).length (!w.params.followText "set-order") →
      (∀ b o, s.heap.get? b = some o → h'.get? b = some o) → Q (.ref s.heap.objs.size) { s with heap := h', toks := tk }) :
    wpAny (model prog w) A (call (.type "set") [.ref l]) Q E s := by
  obtain ⟨c, tl, hmro⟩ := F.called_set.mro
  have k1 := F.called_set.made
  have k2 := F.called_set.sub
  have k3 := F.called_set.notType
  have k4 := F.called_set.canCreate
  have k5 := F.typeCall_set_1 (.ref l)
  refine wpAny_call (codeAny_of_tree (wpAny_pure ⟨Code.quiet_builtin _ (by decide +kernel), codeAny_builtin F.entry_type_call ?_⟩))
  rw [Around.under_plain (weight_type_call_type "set" [.ref l] []) rfl]; repeat (any_goals (first | assumption | wp_step))
  refine codeAny_mono (set_made (.ref l) (E := E) (Q := fun v s1 => v = .ref s.heap.objs.size ∧ s1 = { s with heap := s.heap.push (seto w) }) ⟨rfl, rfl⟩) fun r s1 hr => ?_
  match r, hr with
  | .error e, hr => exact hr
  | .ok (.ret obj), hr =>
    obtain ⟨rfl, rfl⟩ := hr
    have got : (s.heap.push (seto w)).get? s.heap.objs.size = some (seto w) := Heap.get?_push_size _ rfl
    have isS : Shared.TypeIs { s with heap := s.heap.push (seto w) } (.ref s.heap.objs.size) "set" := ⟨_, got, rfl⟩
    have i1 := F.called_set.init.lookup
    have i2 := F.called_set.init.bind (.ref s.heap.objs.size)
    repeat (any_goals (first | assumption | wp_step))
    refine codeAny_mono (codeAny_call_builtin (R := wants (fun v s2 => v = .none ∧ ∃ h' tk, s2 = { s with heap := h', toks := tk } ∧ SOk prog w h' s.heap.objs.size (fun j => (firstMet (fun i => ns.getD i 0) its.size).any (· == j)) (firstMet (fun i => ns.getD i 0) its.size).length (!w.params.followText "set-order") ∧
        ∀ b o, s.heap.get? b = some o → h'.get? b = some o) E) F.called_set.init.plain F.entry_set_init (check_set_init_1 isS ?_)) fun r2 s2 hr2 => ?_
    · obtain ⟨⟨oc, od, odt, osl⟩, ho, hc, m, hd⟩ := hl
      have hc : oc = .type "list" := hc
      have hd : odt = .seq its m := hd
      subst hc hd
      have lt := Heap.lt_size ho
      have ho1 : (s.heap.push (seto w)).get? l = some { cls := .type "list", dict := od, data := .seq its m, slots := osl } := Heap.get?_push_of_some _ ho
      have hl1 : (s.heap.push (seto w)).IsList l its := ⟨_, ho1, rfl, m, rfl⟩
      have u1 := F.sub_list_set
      have u2 := F.sub_list_frozenset
      have u3 : (Value.type "list" == Value.type "dict") = false := by decide
      unfold Builtin.«set.__init__» noKeywords Builtin.Frozenset.updateFrom; generalize hPI : pyIter = PI
      wp_walk
      subst hPI
      refine wpAny_pyIter_list hl1 (wpAny_bind (wpAny_runValue ?_))
      have sz : (s.heap.push (seto w)).objs.size = s.heap.objs.size + 1 := Heap.size_push ..
      refine sok_loop (led := !w.params.followText "set-order") ((Walks.list (by simp [hh]) _ l (by rw [sz]; exact Nat.ne_of_lt (Nat.lt_succ_of_lt lt)) its).toS) s.heap.objs.size (fun q => ?_) (fun i => ns.getD i 0)
        (fun i v e => IntsAre.int_at hi i v (by rw [Array.getElem?_toList]; exact e)) hb (its.size - 0) 0 _ (by omega) (Nat.zero_le _) ⟨⟨_, Heap.get?_push_size _ rfl, rfl, rfl⟩, hl1.push _⟩ (seto_ok (Heap.get?_push_of_some _ got)) fun s3 mv z => ?_
      · rw [sz] at q
        rcases List.mem_cons.mp q with q | q
        · exact absurd q (Nat.ne_of_lt (Nat.lt_succ_self _))
        · exact absurd (List.mem_singleton.mp q) (Nat.ne_of_gt lt)
      · obtain ⟨h3, g3, d3, t3, o3⟩ := s3
        cases (show g3 = s.gens from mv.gens)
        cases (show d3 = s.drawn from mv.drawn)
        cases (show o3 = s.os from mv.os)
        refine wpAny_pure (wpAny_pure ⟨rfl, h3, t3, rfl, z, fun b o e => ?_⟩)
        have bl := Heap.lt_size e
        refine mv.heap b o (fun q => ?_) (Heap.get?_push_of_some _ (Heap.get?_push_of_some _ e))
        rcases List.mem_cons.mp q with q | q
        · exact absurd q (Nat.ne_of_lt bl)
        · rw [sz] at q; exact absurd (List.mem_singleton.mp q) (Nat.ne_of_lt (Nat.lt_succ_of_lt bl))
    · match r2, hr2 with
      | .error e, hr2 => exact hr2
      | .ok (.ret v), hr2 =>
        obtain ⟨rfl, h', tk, rfl, z, kp⟩ := hr2
        repeat (any_goals (first | assumption | wp_step))
        exact h _ _ z kp
      | .ok .next, hr2 => exact hr2.elim
      | .ok .brk, hr2 => exact hr2.elim
      | .ok .cont, hr2 => exact hr2.elim
  | .ok .next, hr => exact hr.elim
  | .ok .brk, hr => exact hr.elim
  | .ok .cont, hr => exact hr.elim
end
end Pu
namespace Pu
open PySem PySem.Spec PySem.W L2
open PyProof.Rows hiding St
theorem entry_setIter : entryFor table "set.__iter__" = some Builtin.«frozenset.__iter__» := entryFor_alias (id' := "frozenset.__iter__") (by kernel_rfl) rfl (by decide +kernel) (by kernel_rfl)
theorem entry_setNext : entryFor table "set_iterator.__next__" = some Builtin.«set_iterator.__next__» := entryFor_of_tree (by kernel_rfl)
theorem slot_setNext : Slot "set_iterator" "__next__" "set_iterator.__next__" :=
  .of (owner := "set_iterator") (n := "__next__") (by rw [typeLookup_type, builtinLookup_eq_fast]; kernel_rfl) (by decide +kernel) (by decide +kernel) (by decide +kernel)
    (by first | exact .inl (by decide +kernel) | exact .inr (by decide +kernel)) (by rw [isSubtype_type]; kernel_rfl)
section
variable {prog : Program} {w : World} {A : Around} {E : Value → Shared → Prop} {s : Shared}
def SetIt (h : Heap) (it : Addr) (first : Value) (i : Nat) (a : Addr) (n ep : Nat) : Prop :=
  ∃ (o : Obj), h.get? it = some o ∧ o.cls = .type "set_iterator" ∧ o.data = .fields #[first, rawInt i, .ref a, rawInt n, rawInt ep]
theorem iter_slots {a : Addr} {o : Obj} {es : Array (Int × Value)} {ep : Nat} {t : SetTable} {Q : Value → Shared → Prop} (ho : s.heap.get? a = some o) (hc : o.cls = .type "set") (hd : o.data = .set es ep t) (hf : t.fits es.size = true)
    (hp : w.params.followText "set-order" = true ∨ t.plain = true ∨ es.size ≤ 1)
    (h : ∀ h', SetIt h' s.heap.objs.size (rawInt 0) 0 a es.size ep → (∀ b o, s.heap.get? b = some o → h'.get? b = some o) → h'.objs.size = s.heap.objs.size + 1 → Q (.ref s.heap.objs.size) { s with heap := h' }) :
    wpAny (model prog w) A (pyIter (.ref a)) Q E s := by
  refine wpAny_pyIter_slot ⟨o, ho, hc⟩ F.slot_set_iter (wpAny_call_entry F.slot_set_iter ⟨o, ho, hc⟩ entry_setIter ?_ (F.args_set_iter_1 _))
  show wpAny _ _ (Builtin.Frozenset.sizeOf a >>= _) _ _ s
  unfold Builtin.Frozenset.sizeOf
  refine wpAny_bind (wpAny_bind (wpAny_setEntries_of ho hd hf (wpAny_pure ?_)))
  refine wpAny_bind (m := setDrawn a) ?_
  unfold setDrawn setsByText
  refine wpAny_bind (wpAny_setState_of ho hd hf (wpAny_bind (wpAny_bind (wpAny_askSetting (wpAny_pure (wpAny_pure ?_))))))
  have nd : (!w.params.followText "set-order" && (!t.plain && decide (es.size > 1))) = false := by
    rcases hp with e | e | e
    · rw [e]; rfl
    · rw [e]; simp
    · rw [decide_eq_false (by omega)]; simp
  show wpAny _ _ (if (!w.params.followText "set-order" && (!t.plain && decide (es.size > 1))) = true then _ else _) _ _ _
  rw [nd, if_neg (by decide)]
  refine wpAny_bind (wpAny_pure ?_)
  refine wpAny_bind (m := setEpoch a) (wpAny_setEpoch_of ho hd hf ?_)
  refine wpAny_bind (wpAny_newObj_type (wpAny_pure ⟨_, rfl, "set_iterator", _, ⟨_, Heap.get?_push_size _ rfl, rfl⟩, slot_setNext.lookup, h _ ⟨_, Heap.get?_push_size _ rfl, rfl, rfl⟩ (fun b o e => Heap.get?_push_of_some _ e) (Heap.size_push ..)⟩))
end
end Pu
namespace Pu
open PySem PySem.Spec PySem.W L2
open PyProof.Rows hiding St
theorem args_setNext (a : Value) : argsOk "set_iterator.__next__" ⟨[a], []⟩ := by
  unfold argsOk; rw [signature?_of (id := "set_iterator.__next__") (n := "__next__".toList.reverse) (o := "set_iterator".toList.reverse) (by kernel_rfl) (show _ = some Manifest.sig_set_iterator by kernel_rfl)]; kernel_rfl
section
variable {prog : Program} {w : World} {A : Around} {E : Value → Shared → Prop} {s : Shared}
theorem SetIt.ty {it a : Addr} {f : Value} {i n ep : Nat} (h : SetIt s.heap it f i a n ep) : s.TypeIs (.ref it) "set_iterator" := let ⟨o, h1, h2, _⟩ := h; ⟨o, h1, h2⟩
theorem next_slots {it a : Addr} {o : Obj} {es : Array (Int × Value)} {ep i slot j : Nat} {t : SetTable} {e : Int × Value} {Q : Option Value → Shared → Prop} (hit : SetIt s.heap it (rawInt slot) i a es.size ep) (hne : it ≠ a) (ho : s.heap.get? a = some o) (hd : o.data = .set es ep t) (hf : t.fits es.size = true)
    (hp : w.params.followText "set-order" = false) (hl : t.led = true) (hpl : t.plain = true ∨ es.size ≤ 1) (hb : SetTable.below t.place slot = i) (he : es[i]? = some e) (hj : t.place[i]? = some j)
    (hQ : ∀ h', SetIt h' it (rawInt (j + 1 : Nat)) (i + 1) a es.size ep → Heap.SameBut it s.heap h' → Q (some e.2) { s with heap := h' }) :
    wpAny (model prog w) A (pyNext (.ref it)) Q E s := by
  obtain ⟨oi, hi, hc, hdi⟩ := id hit
  unfold pyNext
  refine wpAny_bind (wpAny_attempt (wpAny_callSpecial?_slot (name := Str.ofString "__next__") hit.ty slot_setNext (wpAny_call_entry slot_setNext hit.ty entry_setNext ?_ (args_setNext _))))
  show wpAny _ _ (fieldsOf (.ref it) >>= _) _ _ s
  refine wpAny_bind (wpAny_fieldsOf hi hdi ?_)
  refine wpAny_bind (m := setEntries a) (wpAny_setEntries_of ho hd hf ?_)
  show wpAny _ _ (if (((es.size : Nat) : Int) != ((es.size : Nat) : Int)) = true then _ else _) _ _ _
  rw [if_neg (by simp)]
  refine wpAny_bind (m := setNext a ((slot : Nat) : Int).toNat ((i : Nat) : Int).toNat ((ep : Nat) : Int).toNat) ?_
  unfold setNext setsByText
  refine wpAny_bind (wpAny_setState_of ho hd hf (wpAny_bind (wpAny_bind (wpAny_askSetting (wpAny_pure ?_)))))
  have nd : (!t.plain && decide (es.size > 1)) = false := by
    rcases hpl with q | q
    · rw [q]; rfl
    · rw [decide_eq_false (by omega)]; simp
  show wpAny _ _ (if w.params.followText "set-order" = true then _ else _) _ _ _
  rw [hp, if_neg (by decide)]
  show wpAny _ _ (if (!t.plain && decide (es.size > 1)) = true then _ else _) _ _ _
  rw [nd, if_neg (by decide)]
  show wpAny _ _ ((if (!t.led && !es.isEmpty) = true then unsupported "set:maker-not-led" else pure ()) >>= _) _ _ _
  rw [hl]
  refine wpAny_bind (wpAny_pure (wpAny_pure ?_))
  have es1 : (match es[SetTable.below t.place ((slot : Nat) : Int).toNat]?, t.place[SetTable.below t.place ((slot : Nat) : Int).toNat]? with | some (_, x), some j => some (x, j + 1) | _, _ => none) = some (e.2, j + 1) := by
    rw [Int.toNat_natCast, hb, he, hj]
  show wpAny _ _ (match (match es[SetTable.below t.place ((slot : Nat) : Int).toNat]?, t.place[SetTable.below t.place ((slot : Nat) : Int).toNat]? with | some (_, x), some j => some (x, j + 1) | _, _ => none) with | some (x, next) => _ | none => _) _ _ _
  rw [es1]
  refine wpAny_bind (wpAny_setField hi hdi (by simp) ?_)
  have g1 := Heap.get?_update_self (Obj.mapFields fun x => x.setIfInBounds 0 (rawInt ((j + 1 : Nat) : Int))) hi (Obj.isFreed_of_fields (Obj.data_mapFields hdi _))
  have d1 := Obj.data_mapFields hdi (fun x => x.setIfInBounds 0 (rawInt ((j + 1 : Nat) : Int)))
  refine wpAny_bind (wpAny_setField g1 d1 (by simp) (wpAny_pure ⟨_, rfl, wpAny_pure (hQ _ ⟨_, Heap.get?_update_self _ g1 (Obj.isFreed_of_fields (Obj.data_mapFields d1 _)), ?_, ?_⟩ ((Heap.SameBut.update ..).trans (Heap.SameBut.update ..)))⟩))
  · exact (Obj.cls_mapFields ..).trans ((Obj.cls_mapFields ..).trans hc)
  · rw [Obj.data_mapFields d1]
    simp [rawInt]
end
end Pu
namespace Pu
open PySem PySem.Spec PySem.W L2
open PyProof.Rows hiding St
section
variable {prog : Program} {w : World} {A : Around} {E : Value → Shared → Prop} {s : Shared}
theorem next_text {it a : Addr} {o : Obj} {es : Array (Int × Value)} {ep i slot : Nat} {t : SetTable} {e : Int × Value} {Q : Option Value → Shared → Prop} (hit : SetIt s.heap it (rawInt slot) i a es.size ep) (hne : it ≠ a) (ho : s.heap.get? a = some o) (hd : o.data = .set es ep t) (hf : t.fits es.size = true)
    (hp : w.params.followText "set-order" = true) (he : (pickOrder (w.params.setOrder a ep) es)[i]? = some e)
    (hQ : ∀ h', SetIt h' it (rawInt slot) (i + 1) a es.size ep → Heap.SameBut it s.heap h' → Q (some e.2) { s with heap := h' }) :
    wpAny (model prog w) A (pyNext (.ref it)) Q E s := by
  obtain ⟨oi, hi, hc, hdi⟩ := id hit
  unfold pyNext
  refine wpAny_bind (wpAny_attempt (wpAny_callSpecial?_slot (name := Str.ofString "__next__") hit.ty slot_setNext (wpAny_call_entry slot_setNext hit.ty entry_setNext ?_ (args_setNext _))))
  show wpAny _ _ (fieldsOf (.ref it) >>= _) _ _ s
  refine wpAny_bind (wpAny_fieldsOf hi hdi ?_)
  refine wpAny_bind (m := setEntries a) (wpAny_setEntries_of ho hd hf ?_)
  show wpAny _ _ (if (((es.size : Nat) : Int) != ((es.size : Nat) : Int)) = true then _ else _) _ _ _
  rw [if_neg (by simp)]
  refine wpAny_bind (m := setNext a ((slot : Nat) : Int).toNat ((i : Nat) : Int).toNat ((ep : Nat) : Int).toNat) ?_
  unfold setNext setsByText
  refine wpAny_bind (wpAny_setState_of ho hd hf (wpAny_bind (wpAny_bind (wpAny_askSetting (wpAny_pure ?_)))))
  show wpAny _ _ (if w.params.followText "set-order" = true then _ else _) _ _ _
  rw [hp, if_pos rfl]
  show wpAny _ _ (if (ep != ((ep : Nat) : Int).toNat) = true then _ else _) _ _ _
  rw [if_neg (by simp)]
  refine wpAny_bind (m := setWalk a) ?_
  unfold setWalk setsByText
  refine wpAny_bind (wpAny_setState_of ho hd hf (wpAny_bind (wpAny_bind (wpAny_askSetting (wpAny_pure ?_)))))
  show wpAny _ _ (if w.params.followText "set-order" = true then _ else _) _ _ _
  rw [hp, if_pos rfl]
  refine wpAny_bind (wpAny_askSetting (wpAny_pure (wpAny_pure ?_)))
  have es1 : ((pickOrder (w.params.setOrder a ep) es)[((i : Nat) : Int).toNat]?).map (fun e => (e.2, ((slot : Nat) : Int).toNat)) = some (e.2, slot) := by
    rw [show ((slot : Nat) : Int).toNat = slot from Int.toNat_natCast _, show ((i : Nat) : Int).toNat = i from Int.toNat_natCast _, he]; rfl
  show wpAny _ _ (match ((pickOrder (w.params.setOrder a ep) es)[((i : Nat) : Int).toNat]?).map (fun e => (e.2, ((slot : Nat) : Int).toNat)) with | some (x, next) => _ | none => _) _ _ _
  rw [es1]
  refine wpAny_bind (wpAny_setField hi hdi (by simp) ?_)
  have g1 := Heap.get?_update_self (Obj.mapFields fun x => x.setIfInBounds 0 (rawInt ((slot : Nat) : Int))) hi (Obj.isFreed_of_fields (Obj.data_mapFields hdi _))
  have d1 := Obj.data_mapFields hdi (fun x => x.setIfInBounds 0 (rawInt ((slot : Nat) : Int)))
  refine wpAny_bind (wpAny_setField g1 d1 (by simp) (wpAny_pure ⟨_, rfl, wpAny_pure (hQ _ ⟨_, Heap.get?_update_self _ g1 (Obj.isFreed_of_fields (Obj.data_mapFields d1 _)), ?_, ?_⟩ ((Heap.SameBut.update ..).trans (Heap.SameBut.update ..)))⟩))
  · exact (Obj.cls_mapFields ..).trans ((Obj.cls_mapFields ..).trans hc)
  · rw [Obj.data_mapFields d1]
    simp [rawInt]
end
end Pu
namespace Pu
open PySem PySem.Spec PySem.W L2
open PyProof.Rows hiding St
section
variable {prog : Program} {w : World} {A : Around} {E : Value → Shared → Prop} {s : Shared}
theorem end_slots {it a : Addr} {o : Obj} {es : Array (Int × Value)} {ep i slot : Nat} {t : SetTable} {Q : Option Value → Shared → Prop} (hit : SetIt s.heap it (rawInt slot) i a es.size ep) (hne : it ≠ a) (ho : s.heap.get? a = some o) (hd : o.data = .set es ep t) (hf : t.fits es.size = true)
    (hp : w.params.followText "set-order" = false) (hl : t.led = true) (hpl : t.plain = true ∨ es.size ≤ 1) (hb : SetTable.below t.place slot = es.size) (hh : A.handled = none)
    (hQ : ∀ h', Heap.ExtBut it s.heap h' → Q none { s with heap := h' }) :
    wpAny (model prog w) A (pyNext (.ref it)) Q E s := by
  obtain ⟨oi, hi, hc, hdi⟩ := id hit
  unfold pyNext
  refine wpAny_bind (wpAny_attempt (wpAny_callSpecial?_slot (name := Str.ofString "__next__") hit.ty slot_setNext (wpAny_call_entry slot_setNext hit.ty entry_setNext ?_ (args_setNext _))))
  show wpAny _ _ (fieldsOf (.ref it) >>= _) _ _ s
  refine wpAny_bind (wpAny_fieldsOf hi hdi ?_)
  refine wpAny_bind (m := setEntries a) (wpAny_setEntries_of ho hd hf ?_)
  show wpAny _ _ (if (((es.size : Nat) : Int) != ((es.size : Nat) : Int)) = true then _ else _) _ _ _
  rw [if_neg (by simp)]
  refine wpAny_bind (m := setNext a ((slot : Nat) : Int).toNat ((i : Nat) : Int).toNat ((ep : Nat) : Int).toNat) ?_
  unfold setNext setsByText
  refine wpAny_bind (wpAny_setState_of ho hd hf (wpAny_bind (wpAny_bind (wpAny_askSetting (wpAny_pure ?_)))))
  have nd : (!t.plain && decide (es.size > 1)) = false := by
    rcases hpl with q | q
    · rw [q]; rfl
    · rw [decide_eq_false (by omega)]; simp
  show wpAny _ _ (if w.params.followText "set-order" = true then _ else _) _ _ _
  rw [hp, if_neg (by decide)]
  show wpAny _ _ (if (!t.plain && decide (es.size > 1)) = true then _ else _) _ _ _
  rw [nd, if_neg (by decide)]
  show wpAny _ _ ((if (!t.led && !es.isEmpty) = true then unsupported "set:maker-not-led" else pure ()) >>= _) _ _ _
  rw [hl]
  refine wpAny_bind (wpAny_pure (wpAny_pure ?_))
  have es1 : (match es[SetTable.below t.place ((slot : Nat) : Int).toNat]?, t.place[SetTable.below t.place ((slot : Nat) : Int).toNat]? with | some (_, x), some j => some (x, j + 1) | _, _ => (none : Option (Value × Nat))) = none := by
    rw [show ((slot : Nat) : Int).toNat = slot from Int.toNat_natCast _, hb, Array.getElem?_eq_none (Nat.le_refl _)]
  show wpAny _ _ (match (match es[SetTable.below t.place ((slot : Nat) : Int).toNat]?, t.place[SetTable.below t.place ((slot : Nat) : Int).toNat]? with | some (_, x), some j => some (x, j + 1) | _, _ => none) with | some (x, next) => _ | none => _) _ _ _
  rw [es1]
  refine wpAny_bind (wpAny_setField hi hdi (by simp) ?_)
  unfold newExc newTuple
  refine wpAny_bind (wpAny_bind (wpAny_newObj_type (wpAny_bind (m := firstArgMember _ _) (wpAny_of_eq (a := Value.none) (by first | rfl | (unfold firstArgMember; rfl)) (wpAny_newObj_type ?_ (by size_fits)))) (by size_fits)))
  unfold raiseNew
  refine wpAny_bind (wpAny_handled ?_)
  rw [show A.in1.handled = none by simp [hh]]
  refine wpAny_bind (wpAny_pure (wpAny_throw ?_))
  refine wpAny_bind (wpAny_isInstance (b := true) (T := "StopIteration") ?ty isSubtype_stop (wpAny_pure (hQ _ ?ex)))
  case ty => exact ⟨_, Heap.get?_push_size _ rfl, rfl⟩
  case ex => exact ((Heap.SameBut.update ..).extBut.push _).push _
end
end Pu
namespace Pu
open PySem PySem.Spec PySem.W L2
open PyProof.Rows hiding St
section
variable {prog : Program} {w : World} {A : Around} {E : Value → Shared → Prop} {s : Shared}
theorem erase_perm {α : Type} : ∀ {l : List α} {i : Nat} (h : i < l.length), (l[i] :: l.eraseIdx i).Perm l
  | _ :: _, 0, _ => .refl _
  | x :: l, i + 1, h => (List.Perm.swap x (l[i]'(by simpa using h)) (l.eraseIdx i)).trans ((erase_perm (by simpa using h)).cons x)
theorem any_choose {src : Source} {n : Nat} (hn : n ≠ 0) {Q : Nat → Shared → Prop} (h : ∀ i d, i < n → Q i { s with drawn := d }) : wpAny (model prog w) A (choose src n) Q E s := fun Γ p _ => by
  show Sem.wp _ Γ (.choose src n .pure) _ _ p s
  rw [Sem.wp_choose]
  refine ⟨hn, ?_⟩
  exact h _ _ (Nat.mod_lt _ (Nat.pos_of_ne_zero hn))
theorem any_draw {α : Type} : ∀ (n : Nat) (xs : List α) {s : Shared} {Q : List α → Shared → Prop}, xs.length = n → (∀ ys d, ys.Perm xs → Q ys { s with drawn := d }) → wpAny (model prog w) A (drawOrder n xs) Q E s
  | 0, xs, s, Q, hl, h => by
    have e : xs = [] := List.length_eq_zero_iff.mp hl
    subst e
    exact wpAny_pure (h [] s.drawn .nil)
  | n + 1, [], s, Q, hl, h => by simp at hl
  | n + 1, x :: xs, s, Q, hl, h => by
    unfold drawOrder
    refine wpAny_bind (any_choose (by simp) fun i d hi => ?_)
    rw [List.getElem?_eq_getElem hi]
    show wpAny _ _ (drawOrder n ((x :: xs).eraseIdx i) >>= _) _ _ _
    refine wpAny_bind (any_draw n ((x :: xs).eraseIdx i) (by rw [List.length_eraseIdx_of_lt hi]; omega) fun ys d' hp => wpAny_pure (h _ d' ?_))
    exact (hp.cons _).trans (erase_perm hi)
theorem iter_drawn {a : Addr} {o : Obj} {es : Array (Int × Value)} {ep : Nat} {t : SetTable} {Q : Value → Shared → Prop} (ho : s.heap.get? a = some o) (hc : o.cls = .type "set") (hd : o.data = .set es ep t) (hf : t.fits es.size = true)
    (hp : w.params.followText "set-order" = false) (hpl : t.plain = false) (h1 : es.size > 1) (hz : es.size < scanBound)
    (h : ∀ h' d (ps : List Nat), ps.Perm (List.range es.size) → SetIt h' (s.heap.objs.size + 1) (.ref s.heap.objs.size) 0 a es.size ep → h'.get? s.heap.objs.size = some (seqObj "tuple" (ps.map fun (i : Nat) => rawInt i).toArray 0) → (∀ b o, s.heap.get? b = some o → h'.get? b = some o) → h'.objs.size = s.heap.objs.size + 2 → Q (.ref (s.heap.objs.size + 1)) { s with heap := h', drawn := d }) :
    wpAny (model prog w) A (pyIter (.ref a)) Q E s := by
  refine wpAny_pyIter_slot ⟨o, ho, hc⟩ F.slot_set_iter (wpAny_call_entry F.slot_set_iter ⟨o, ho, hc⟩ entry_setIter ?_ (F.args_set_iter_1 _))
  show wpAny _ _ (Builtin.Frozenset.sizeOf a >>= _) _ _ s
  unfold Builtin.Frozenset.sizeOf
  refine wpAny_bind (wpAny_bind (wpAny_setEntries_of ho hd hf (wpAny_pure ?_)))
  refine wpAny_bind (m := setDrawn a) ?_
  unfold setDrawn setsByText
  refine wpAny_bind (wpAny_setState_of ho hd hf (wpAny_bind (wpAny_bind (wpAny_askSetting (wpAny_pure (wpAny_pure ?_))))))
  have nd : (!w.params.followText "set-order" && (!t.plain && decide (es.size > 1))) = true := by rw [hp, hpl, decide_eq_true h1]; rfl
  show wpAny _ _ (if (!w.params.followText "set-order" && (!t.plain && decide (es.size > 1))) = true then _ else _) _ _ _
  rw [nd, if_pos rfl]
  refine wpAny_bind (any_draw es.size (List.range es.size) List.length_range fun ps d hps => ?_)
  have hl : ps.length = es.size := by rw [hps.length_eq, List.length_range]
  refine wpAny_bind (wpAny_newTuple ?_ (by rw [List.length_map, hl]; exact Nat.le_trans (Nat.le_of_lt hz) (by rw [sizeLine_eq]; decide)))
  have sz : (s.heap.push (seqObj "tuple" (ps.map fun (i : Nat) => rawInt i).toArray 0)).objs.size = s.heap.objs.size + 1 := Heap.size_push ..
  have ho1 : (s.heap.push (seqObj "tuple" (ps.map fun (i : Nat) => rawInt i).toArray 0)).get? a = some o := Heap.get?_push_of_some _ ho
  refine wpAny_bind (m := setEpoch a) (wpAny_setEpoch_of ho1 hd hf ?_)
  refine wpAny_bind (wpAny_newObj_type (wpAny_pure ⟨_, rfl, "set_iterator", _, ⟨_, Heap.get?_push_size _ rfl, rfl⟩, slot_setNext.lookup, ?_⟩))
  have q := h ((s.heap.push (seqObj "tuple" (ps.map fun (i : Nat) => rawInt i).toArray 0)).push { cls := .type "set_iterator", data := .fields #[.ref s.heap.objs.size, rawInt (0 : Nat), .ref a, rawInt es.size, rawInt ep] }) d ps hps
    ⟨_, by rw [← sz]; exact Heap.get?_push_size _ rfl, rfl, rfl⟩ (Heap.get?_push_of_some _ (Heap.get?_push_size _ rfl)) (fun b o e => Heap.get?_push_of_some _ (Heap.get?_push_of_some _ e)) (by rw [Heap.size_push, sz])
  rw [← sz] at q
  exact q
theorem next_drawn {it a T : Addr} {o : Obj} {es : Array (Int × Value)} {ep i : Nat} {t : SetTable} {ps : List Nat} {p : Nat} {e : Int × Value} {Q : Option Value → Shared → Prop} (hit : SetIt s.heap it (.ref T) i a es.size ep) (hT : s.heap.get? T = some (seqObj "tuple" (ps.map fun (i : Nat) => rawInt i).toArray 0)) (ho : s.heap.get? a = some o) (hd : o.data = .set es ep t) (hf : t.fits es.size = true)
    (hi' : ps[i]? = some p) (he : es[p]? = some e)
    (hQ : ∀ h', SetIt h' it (.ref T) (i + 1) a es.size ep → Heap.SameBut it s.heap h' → Q (some e.2) { s with heap := h' }) :
    wpAny (model prog w) A (pyNext (.ref it)) Q E s := by
  obtain ⟨oi, hi, hc, hdi⟩ := id hit
  unfold pyNext
  refine wpAny_bind (wpAny_attempt (wpAny_callSpecial?_slot (name := Str.ofString "__next__") hit.ty slot_setNext (wpAny_call_entry slot_setNext hit.ty entry_setNext ?_ (args_setNext _))))
  show wpAny _ _ (fieldsOf (.ref it) >>= _) _ _ s
  refine wpAny_bind (wpAny_fieldsOf hi hdi ?_)
  refine wpAny_bind (m := setEntries a) (wpAny_setEntries_of ho hd hf ?_)
  show wpAny _ _ (if (((es.size : Nat) : Int) != ((es.size : Nat) : Int)) = true then _ else _) _ _ _
  rw [if_neg (by simp)]
  refine wpAny_bind (m := seqItems? (.ref T)) (wpAny_seqItems hT rfl ?_)
  have ei : (ps.map fun (i : Nat) => rawInt i).toArray[((i : Nat) : Int).toNat]? = some (rawInt p) := by
    rw [Int.toNat_natCast, List.getElem?_toArray, List.getElem?_map, hi']; rfl
  show wpAny _ _ (match (ps.map fun (i : Nat) => rawInt i).toArray[((i : Nat) : Int).toNat]? with | some (.int place _) => _ | some _ => _ | none => _) _ _ _
  rw [ei]
  refine wpAny_bind (m := setNextDrawn a ((p : Nat) : Int).toNat ((ep : Nat) : Int).toNat) ?_
  unfold setNextDrawn
  refine wpAny_bind (wpAny_setState_of ho hd hf ?_)
  show wpAny _ _ (if (ep != ((ep : Nat) : Int).toNat) = true then _ else _) _ _ _
  rw [if_neg (by simp)]
  rw [show ((p : Nat) : Int).toNat = p from Int.toNat_natCast _]
  rw [he]
  refine wpAny_pure ?_
  refine wpAny_bind (wpAny_setField hi hdi (by simp) (wpAny_pure ⟨_, rfl, wpAny_pure (hQ _ ⟨_, Heap.get?_update_self _ hi (Obj.isFreed_of_fields (Obj.data_mapFields hdi _)), ?_, ?_⟩ (Heap.SameBut.update ..))⟩))
  · exact (Obj.cls_mapFields ..).trans hc
  · rw [Obj.data_mapFields hdi]
    simp [rawInt]
end
end Pu
namespace Pu
open PySem PySem.Spec PySem.W L2
open PyProof.Rows hiding St
theorem pickGo_perm {α : Type} {next : Nat → Nat} : ∀ {n k : Nat} {l : List α} {out : Array α}, l.length = n → (pickOrder.go next n k l out).toList.Perm (out.toList ++ l)
  | 0, k, l, out, h => by
    have e : l = [] := List.length_eq_zero_iff.mp h
    subst e
    rw [pickOrder.go, List.append_nil]
  | n + 1, k, l, out, h => by
    have hl : next k % l.length < l.length := Nat.mod_lt _ (by omega)
    rw [pickOrder.go, List.getElem?_eq_getElem hl]
    refine (pickGo_perm (by rw [List.length_eraseIdx_of_lt hl]; omega)).trans ?_
    rw [Array.toList_push, List.append_assoc]
    exact (List.Perm.refl _).append (erase_perm hl)
theorem pick_perm {α : Type} {next : Nat → Nat} {xs : Array α} : (pickOrder next xs).toList.Perm xs.toList := by
  have := pickGo_perm (next := next) (n := xs.size) (k := 0) (l := xs.toList) (out := #[]) (by simp)
  simpa [pickOrder] using this
section
variable {prog : Program} {w : World} {A : Around} {E : Value → Shared → Prop} {s : Shared}
theorem end_drawn {it a T : Addr} {o : Obj} {es : Array (Int × Value)} {ep i : Nat} {t : SetTable} {ps : List Nat} {Q : Option Value → Shared → Prop} (hit : SetIt s.heap it (.ref T) i a es.size ep) (hT : s.heap.get? T = some (seqObj "tuple" (ps.map fun (i : Nat) => rawInt i).toArray 0)) (ho : s.heap.get? a = some o) (hd : o.data = .set es ep t) (hf : t.fits es.size = true)
    (hi' : ps.length ≤ i) (hh : A.handled = none)
    (hQ : ∀ h', Heap.ExtBut it s.heap h' → Q none { s with heap := h' }) :
    wpAny (model prog w) A (pyNext (.ref it)) Q E s := by
  obtain ⟨oi, hi, hc, hdi⟩ := id hit
  unfold pyNext
  refine wpAny_bind (wpAny_attempt (wpAny_callSpecial?_slot (name := Str.ofString "__next__") hit.ty slot_setNext (wpAny_call_entry slot_setNext hit.ty entry_setNext ?_ (args_setNext _))))
  show wpAny _ _ (fieldsOf (.ref it) >>= _) _ _ s
  refine wpAny_bind (wpAny_fieldsOf hi hdi ?_)
  refine wpAny_bind (m := setEntries a) (wpAny_setEntries_of ho hd hf ?_)
  show wpAny _ _ (if (((es.size : Nat) : Int) != ((es.size : Nat) : Int)) = true then _ else _) _ _ _
  rw [if_neg (by simp)]
  refine wpAny_bind (m := seqItems? (.ref T)) (wpAny_seqItems hT rfl ?_)
  have ei : (ps.map fun (i : Nat) => rawInt i).toArray[((i : Nat) : Int).toNat]? = none := by
    rw [Int.toNat_natCast, List.getElem?_toArray, List.getElem?_map, List.getElem?_eq_none hi']; rfl
  show wpAny _ _ (match (ps.map fun (i : Nat) => rawInt i).toArray[((i : Nat) : Int).toNat]? with | some (.int place _) => _ | some _ => _ | none => _) _ _ _
  rw [ei]
  refine wpAny_bind (wpAny_setField hi hdi (by simp) ?_)
  have g1 := Heap.get?_update_self (Obj.mapFields fun x => x.setIfInBounds 0 (rawInt 0)) hi (Obj.isFreed_of_fields (Obj.data_mapFields hdi _))
  have d1 := Obj.data_mapFields hdi (fun x => x.setIfInBounds 0 (rawInt 0))
  refine wpAny_bind (wpAny_setField g1 d1 (by simp) ?_)
  unfold newExc newTuple
  refine wpAny_bind (wpAny_bind (wpAny_newObj_type (wpAny_bind (m := firstArgMember _ _) (wpAny_of_eq (a := Value.none) (by first | rfl | (unfold firstArgMember; rfl)) (wpAny_newObj_type ?_ (by size_fits)))) (by size_fits)))
  unfold raiseNew
  refine wpAny_bind (wpAny_handled ?_)
  rw [show A.in1.handled = none by simp [hh]]
  refine wpAny_bind (wpAny_pure (wpAny_throw ?_))
  refine wpAny_bind (wpAny_isInstance (b := true) (T := "StopIteration") ?ty isSubtype_stop (wpAny_pure (hQ _ ?ex)))
  case ty => exact ⟨_, Heap.get?_push_size _ rfl, rfl⟩
  case ex => exact ((((Heap.SameBut.update ..).trans (Heap.SameBut.update ..)).extBut).push _).push _
theorem end_text {it a : Addr} {o : Obj} {es : Array (Int × Value)} {ep i slot : Nat} {t : SetTable} {Q : Option Value → Shared → Prop} (hit : SetIt s.heap it (rawInt slot) i a es.size ep) (ho : s.heap.get? a = some o) (hd : o.data = .set es ep t) (hf : t.fits es.size = true)
    (hp : w.params.followText "set-order" = true) (he : (pickOrder (w.params.setOrder a ep) es)[i]? = none) (hh : A.handled = none)
    (hQ : ∀ h', Heap.ExtBut it s.heap h' → Q none { s with heap := h' }) :
    wpAny (model prog w) A (pyNext (.ref it)) Q E s := by
  obtain ⟨oi, hi, hc, hdi⟩ := id hit
  unfold pyNext
  refine wpAny_bind (wpAny_attempt (wpAny_callSpecial?_slot (name := Str.ofString "__next__") hit.ty slot_setNext (wpAny_call_entry slot_setNext hit.ty entry_setNext ?_ (args_setNext _))))
  show wpAny _ _ (fieldsOf (.ref it) >>= _) _ _ s
  refine wpAny_bind (wpAny_fieldsOf hi hdi ?_)
  refine wpAny_bind (m := setEntries a) (wpAny_setEntries_of ho hd hf ?_)
  show wpAny _ _ (if (((es.size : Nat) : Int) != ((es.size : Nat) : Int)) = true then _ else _) _ _ _
  rw [if_neg (by simp)]
  refine wpAny_bind (m := setNext a ((slot : Nat) : Int).toNat ((i : Nat) : Int).toNat ((ep : Nat) : Int).toNat) ?_
  unfold setNext setsByText
  refine wpAny_bind (wpAny_setState_of ho hd hf (wpAny_bind (wpAny_bind (wpAny_askSetting (wpAny_pure ?_)))))
  show wpAny _ _ (if w.params.followText "set-order" = true then _ else _) _ _ _
  rw [hp, if_pos rfl]
  show wpAny _ _ (if (ep != ((ep : Nat) : Int).toNat) = true then _ else _) _ _ _
  rw [if_neg (by simp)]
  refine wpAny_bind (m := setWalk a) ?_
  unfold setWalk setsByText
  refine wpAny_bind (wpAny_setState_of ho hd hf (wpAny_bind (wpAny_bind (wpAny_askSetting (wpAny_pure ?_)))))
  show wpAny _ _ (if w.params.followText "set-order" = true then _ else _) _ _ _
  rw [hp, if_pos rfl]
  refine wpAny_bind (wpAny_askSetting (wpAny_pure (wpAny_pure ?_)))
  have es1 : ((pickOrder (w.params.setOrder a ep) es)[((i : Nat) : Int).toNat]?).map (fun e => (e.2, ((slot : Nat) : Int).toNat)) = none := by
    rw [show ((i : Nat) : Int).toNat = i from Int.toNat_natCast _, he]; rfl
  show wpAny _ _ (match ((pickOrder (w.params.setOrder a ep) es)[((i : Nat) : Int).toNat]?).map (fun e => (e.2, ((slot : Nat) : Int).toNat)) with | some (x, next) => _ | none => _) _ _ _
  rw [es1]
  refine wpAny_bind (wpAny_setField hi hdi (by simp) ?_)
  unfold newExc newTuple
  refine wpAny_bind (wpAny_bind (wpAny_newObj_type (wpAny_bind (m := firstArgMember _ _) (wpAny_of_eq (a := Value.none) (by first | rfl | (unfold firstArgMember; rfl)) (wpAny_newObj_type ?_ (by size_fits)))) (by size_fits)))
  unfold raiseNew
  refine wpAny_bind (wpAny_handled ?_)
  rw [show A.in1.handled = none by simp [hh]]
  refine wpAny_bind (wpAny_pure (wpAny_throw ?_))
  refine wpAny_bind (wpAny_isInstance (b := true) (T := "StopIteration") ?ty isSubtype_stop (wpAny_pure (hQ _ ?ex)))
  case ty => exact ⟨_, Heap.get?_push_size _ rfl, rfl⟩
  case ex => exact ((Heap.SameBut.update ..).extBut.push _).push _
end
end Pu
namespace Pu
open PySem PySem.Spec PySem.W L2
open PyProof.Rows hiding St
theorem entry_setSelf : entryFor table "set_iterator.__iter__" = some Builtin.«dict_keyiterator.__iter__» := entryFor_alias (id' := "dict_keyiterator.__iter__") (by kernel_rfl) rfl (by decide +kernel) (by kernel_rfl)
theorem slot_setSelf : Slot "set_iterator" "__iter__" "set_iterator.__iter__" :=
  .of (owner := "set_iterator") (n := "__iter__") (by rw [typeLookup_type, builtinLookup_eq_fast]; kernel_rfl) (by decide +kernel) (by decide +kernel) (by decide +kernel)
    (by first | exact .inl (by decide +kernel) | exact .inr (by decide +kernel)) (by rw [isSubtype_type]; kernel_rfl)
theorem args_setSelf (a : Value) : argsOk "set_iterator.__iter__" ⟨[a], []⟩ := by
  unfold argsOk; rw [signature?_of (id := "set_iterator.__iter__") (n := "__iter__".toList.reverse) (o := "set_iterator".toList.reverse) (by kernel_rfl) (show _ = some Manifest.sig_set_iterator by kernel_rfl)]; kernel_rfl
section
variable {prog : Program} {w : World} {A : Around} {E : Value → Shared → Prop} {s : Shared}
theorem SetIt.self {it a : Addr} {f : Value} {i n ep : Nat} {Q : Value → Shared → Prop} (hit : SetIt s.heap it f i a n ep) (h : Q (.ref it) s) : wpAny (model prog w) A (pyIter (.ref it)) Q E s := by
  refine wpAny_pyIter_slot hit.ty slot_setSelf (wpAny_call_entry slot_setSelf hit.ty entry_setSelf ?_ (args_setSelf _))
  show wpAny _ _ (ret (.ref it)) _ _ s
  exact wpAny_pure ⟨_, rfl, "set_iterator", _, hit.ty, slot_setNext.lookup, h⟩
theorem SetIt.at {h h' : Heap} {it a : Addr} {f : Value} {i n ep : Nat} (hit : SetIt h it f i a n ep) (k : ∀ o, h.get? it = some o → h'.get? it = some o) : SetIt h' it f i a n ep := let ⟨o, h1, h2⟩ := hit; ⟨o, k o h1, h2⟩
def NthOf (L : List (Int × Value)) (i : Nat) (v : Value) : Prop := L[i]?.map (·.2) = some v
variable {I a : Addr} {o : Obj} {es : Array (Int × Value)} {ep : Nat} {t : SetTable}
theorem walks_text (hh : A.handled = none) (hne : I ≠ a) (hd : o.data = .set es ep t) (hf : t.fits es.size = true) (hp : w.params.followText "set-order" = true) :
    Walks prog w A I [I, a] [I] es.size (NthOf (pickOrder (w.params.setOrder a ep) es).toList) (fun i h => SetIt h I (rawInt (0 : Nat)) i a es.size ep ∧ h.get? a = some o) where
  sub := fun b hb => by simp at hb; simp [hb]
  frame := fun _ _ _ st hk => ⟨st.1.at fun o e => hk I (by simp) o e, hk a (by simp) o st.2⟩
  item := fun i s Q E hi st hQ => by
    have sz : (pickOrder (w.params.setOrder a ep) es).size = es.size := by have := (pick_perm (next := w.params.setOrder a ep) (xs := es)).length_eq; simpa using this
    have e : (pickOrder (w.params.setOrder a ep) es)[i]? = some ((pickOrder (w.params.setOrder a ep) es)[i]'(by omega)) := Array.getElem?_eq_getElem (by omega)
    refine next_text st.1 hne st.2 hd hf hp e fun h' h1 h2 => ?_
    exact hQ _ h' s.toks (by unfold NthOf; rw [Array.getElem?_toList, e]; rfl) ⟨h1, (h2.2 a (Ne.symm hne)).trans st.2⟩ fun b o hb e => h2.extBut b o (fun h => hb (by simp [h])) e
  done := fun s Q E st hQ => end_text st.1 st.2 hd hf hp (Array.getElem?_eq_none (by have := (pick_perm (next := w.params.setOrder a ep) (xs := es)).length_eq; simp at this; omega)) hh fun h' he' => hQ h' s.toks fun b o hb e => he' b o (fun h => hb (by simp [h])) e
  self := fun _ _ _ _ st hQ => st.1.self hQ
theorem walks_slots (hh : A.handled = none) (hne : I ≠ a) (hd : o.data = .set es ep t) (hf : t.fits es.size = true) (hp : w.params.followText "set-order" = false) (hl : t.led = true) (hpl : t.plain = true ∨ es.size ≤ 1) (hr : Ris t.place) :
    Walks prog w A I [I, a] [I] es.size (NthOf es.toList) (fun i h => (∃ slot : Nat, SetIt h I (rawInt slot) i a es.size ep ∧ SetTable.below t.place slot = i) ∧ h.get? a = some o) where
  sub := fun b hb => by simp at hb; simp [hb]
  frame := fun _ _ _ st hk => ⟨let ⟨x, h1, h2⟩ := st.1; ⟨x, h1.at fun o e => hk I (by simp) o e, h2⟩, hk a (by simp) o st.2⟩
  item := fun i s Q E hi st hQ => by
    obtain ⟨⟨slot, h1, h2⟩, ho⟩ := st
    have sz : t.place.size = es.size := by unfold SetTable.fits at hf; simp at hf; exact hf.1
    have e : es[i]? = some es[i] := Array.getElem?_eq_getElem hi
    have ej : t.place[i]? = some (t.place[i]'(by omega)) := Array.getElem?_eq_getElem (by omega)
    refine next_slots h1 hne ho hd hf hp hl hpl h2 e ej fun h' h3 h4 => ?_
    exact hQ _ h' s.toks (by unfold NthOf; rw [Array.getElem?_toList, e]; rfl) ⟨⟨_, h3, below_next hr (by omega)⟩, (h4.2 a (Ne.symm hne)).trans ho⟩ fun b o hb e => h4.extBut b o (fun h => hb (by simp [h])) e
  done := fun s Q E st hQ => by
    obtain ⟨⟨slot, h1, h2⟩, ho⟩ := st
    exact end_slots h1 hne ho hd hf hp hl hpl h2 hh fun h' he' => hQ h' s.toks fun b o hb e => he' b o (fun h => hb (by simp [h])) e
  self := fun _ _ _ _ st hQ => let ⟨_, h1, _⟩ := st.1; h1.self hQ
theorem walks_drawn {T : Addr} {ps : List Nat} (hh : A.handled = none) (hne : I ≠ a) (hnT : I ≠ T) (hd : o.data = .set es ep t) (hf : t.fits es.size = true) (hps : ps.Perm (List.range es.size)) :
    Walks prog w A I [I, T, a] [I] es.size (NthOf (ps.map fun p => es.getD p (0, .none))) (fun i h => SetIt h I (.ref T) i a es.size ep ∧ h.get? T = some (seqObj "tuple" (ps.map fun (i : Nat) => rawInt i).toArray 0) ∧ h.get? a = some o) where
  sub := fun b hb => by simp at hb; simp [hb]
  frame := fun _ _ _ st hk => ⟨st.1.at fun o e => hk I (by simp) o e, hk T (by simp) _ st.2.1, hk a (by simp) o st.2.2⟩
  item := fun i s Q E hi st hQ => by
    have sz : ps.length = es.size := by rw [hps.length_eq, List.length_range]
    have e1 : ps[i]? = some (ps[i]'(by omega)) := List.getElem?_eq_getElem (by omega)
    have lt : ps[i]'(by omega) < es.size := List.mem_range.mp (hps.mem_iff.mp (List.getElem_mem _))
    have e2 : es[ps[i]'(by omega)]? = some (es[ps[i]'(by omega)]'lt) := Array.getElem?_eq_getElem lt
    refine next_drawn st.1 st.2.1 st.2.2 hd hf e1 e2 fun h' h1 h2 => ?_
    refine hQ _ h' s.toks ?_ ⟨h1, (h2.2 T (Ne.symm hnT)).trans st.2.1, (h2.2 a (Ne.symm hne)).trans st.2.2⟩ fun b o hb e => h2.extBut b o (fun h => hb (by simp [h])) e
    unfold NthOf
    rw [List.getElem?_map, e1]
    simp [Array.getD, lt]
  done := fun s Q E st hQ => end_drawn st.1 st.2.1 st.2.2 hd hf (by rw [hps.length_eq, List.length_range]; exact Nat.le_refl _) hh fun h' he' => hQ h' s.toks fun b o hb e => he' b o (fun h => hb (by simp [h])) e
  self := fun _ _ _ _ st hQ => st.1.self hQ
end
end Pu
namespace Pu
open PySem PySem.Spec PySem.W L2
open PyProof.Rows hiding St
section
variable {prog : Program} {w : World} {A : Around} {E : Value → Shared → Prop} {s : Shared}
structure Holds (prog : Program) (w : World) (S : Int → Bool) (n : Nat) (L : List (Int × Value)) : Prop where
  el : ElemsOf (intKind prog w) L
  me : ∀ k, S k = true ↔ ∃ e ∈ L, (intKind prog w).is k e.2 = true
  ln : L.length = n
theorem Holds.perm {S : Int → Bool} {n : Nat} {L L' : List (Int × Value)} (h : Holds prog w S n L) (p : L'.Perm L) : Holds prog w S n L' :=
  ⟨fun e m => h.el e (p.mem_iff.mp m), fun k => (h.me k).trans ⟨fun ⟨e, m, q⟩ => ⟨e, p.mem_iff.mpr m, q⟩, fun ⟨e, m, q⟩ => ⟨e, p.mem_iff.mp m, q⟩⟩, p.length_eq.trans h.ln⟩
theorem iter_set {a : Addr} {S : Int → Bool} {n : Nat} {Q : Value → Shared → Prop} (z : SOk prog w s.heap a S n (!w.params.followText "set-order"))
    (h : ∀ (I : Addr) (h' : Heap) (d : Drawn) (fp : List Addr) (St : Nat → Heap → Prop) (L : List (Int × Value)), Holds prog w S n L → (∀ A : Around, A.handled = none → Walks prog w A I fp [I] n (NthOf L) St) → St 0 h' →
      (∀ b ∈ fp, b = a ∨ s.heap.objs.size ≤ b) → s.heap.objs.size ≤ I → (∀ b o, s.heap.get? b = some o → h'.get? b = some o) → Q (.ref I) { s with heap := h', drawn := d }) :
    wpAny (model prog w) A (pyIter (.ref a)) Q E s := by
  obtain ⟨o, es, ep, t, ho, hx, hd, he, hm, hb, hf, rfl, kt, hl⟩ := z
  have lt := Heap.lt_size ho
  have hS : Holds prog w S es.size es.toList := ⟨he, hm, by simp⟩
  by_cases ht : w.params.followText "set-order" = true
  · refine iter_slots ho hx.1 hd hf (.inl ht) fun h' h1 h2 h3 => ?_
    exact h _ h' s.drawn _ _ _ (hS.perm pick_perm) (fun A hh => walks_text hh (Nat.ne_of_gt lt) hd hf ht) ⟨h1, h2 a o ho⟩ (fun b hb => by
      rcases List.mem_cons.mp hb with rfl | hb
      · exact .inr (Nat.le_refl _)
      · exact .inl (List.mem_singleton.mp hb)) (Nat.le_refl _) h2
  · have ht : w.params.followText "set-order" = false := by simpa using ht
    have hl : t.led = true := by rw [hl, ht]; rfl
    by_cases hp : t.plain = true ∨ es.size ≤ 1
    · have sz : t.place.size = es.size := by unfold SetTable.fits at hf; simp at hf; exact hf.1
      have hr : Ris t.place := by
        rcases hp with hp | hp
        · exact kt.rs hp
        · unfold Ris
          have : t.place.toList.length ≤ 1 := by simpa [sz] using hp
          match q : t.place.toList, this with
          | [], _ => exact .nil
          | [x], _ => exact List.pairwise_singleton _ _
      refine iter_slots ho hx.1 hd hf (.inr hp) fun h' h1 h2 h3 => ?_
      exact h _ h' s.drawn _ _ _ hS (fun A hh => walks_slots hh (Nat.ne_of_gt lt) hd hf ht hl hp hr) ⟨⟨0, h1, below_zero hr⟩, h2 a o ho⟩ (fun b hb => by
        rcases List.mem_cons.mp hb with rfl | hb
        · exact .inr (Nat.le_refl _)
        · exact .inl (List.mem_singleton.mp hb)) (Nat.le_refl _) h2
    · have hp1 : t.plain = false := by
        cases q : t.plain with
        | false => rfl
        | true => exact absurd (.inl q) hp
      have hp2 : es.size > 1 := by
        by_cases q : es.size ≤ 1
        · exact absurd (.inr q) hp
        · omega
      refine iter_drawn ho hx.1 hd hf ht hp1 hp2 hb fun h' d ps hps h1 hT h2 h3 => ?_
      refine h _ h' d _ _ _ (hS.perm ?_) (fun A hh => walks_drawn hh (Nat.ne_of_gt (Nat.lt_succ_of_lt lt)) (Nat.succ_ne_self _) hd hf hps) ⟨h1, hT, h2 a o ho⟩ (fun b hb => by
        rcases List.mem_cons.mp hb with rfl | hb
        · exact .inr (Nat.le_succ _)
        · rcases List.mem_cons.mp hb with rfl | hb
          · exact .inr (Nat.le_refl _)
          · exact .inl (List.mem_singleton.mp hb)) (Nat.le_succ _) h2
      refine (hps.map _).trans (.of_eq ?_)
      refine List.ext_getElem (by simp) fun i h1 h2 => ?_
      have hi : i < es.size := by simpa using h1
      simp [Array.getD, hi]
theorem look_set_len : typeLookup (.type "set") "__len__" = pure (some (.builtin "set.__len__")) := by rw [typeLookup_type, builtinLookup_eq_fast]; kernel_rfl
theorem collect_set {a : Addr} {S : Int → Bool} {n : Nat} {Q : List Value → Shared → Prop} (hh : A.handled = none) (z : SOk prog w s.heap a S n (!w.params.followText "set-order"))
    (h : ∀ (L : List (Int × Value)) (h' : Heap) (d : Drawn) (tk : Nat), Holds prog w S n L → (∀ b o, s.heap.get? b = some o → h'.get? b = some o) → Q (L.map (·.2)) { s with heap := h', drawn := d, toks := tk }) :
    wpAny (model prog w) A (collect (.ref a)) Q E s := by
  obtain ⟨o, es, ep, t, ho, hx, hd, he, hm, hb, hf, hn, kt, hl⟩ := id z
  have lt := Heap.lt_size ho
  unfold collect
  refine wpAny_bind (wpAny_runValue (codeAny_builtin F.entry_proto_collect ?_)); rw [Around.under_plainId F.plain_proto_collect]
  show wpAny _ A.in1 (newList [] >>= fun l => again (.builtin "list.__iadd__" ⟨[l, .ref a], []⟩)) _ _ s
  refine wpAny_bind (wpAny_newObj_type (wpAny_pure ⟨plainId_quiet F.plain_list_iadd _, codeAny_builtin F.entry_list_iadd ?_⟩)); rw [Around.under_plainId F.plain_list_iadd]
  have gS : (s.heap.push (seqObj "list" #[] 0)).get? s.heap.objs.size = some (seqObj "list" #[] 0) := Heap.get?_push_size _ rfl
  have sz : (s.heap.push (seqObj "list" #[] 0)).objs.size = s.heap.objs.size + 1 := Heap.size_push ..
  have h1 : Builtin.List.listSameRef (.ref s.heap.objs.size) (.ref a) = false := by simp [Builtin.List.listSameRef, Nat.ne_of_gt lt]
  have hT : Shared.TypeIs { s with heap := s.heap.push (seqObj "list" #[] 0) } (.ref a) "set" := ⟨o, Heap.get?_push_of_some _ ho, hx.1⟩
  show wpAny _ A.in1 (Builtin.List.listExtendWith (.ref s.heap.objs.size) (.ref a) (.ref s.heap.objs.size)) _ _ _
  unfold Builtin.List.listExtendWith; refine wpAny_bind (wpAny_typeOf hT ?_); rw [if_neg (by rw [h1]; decide)]
  refine wpAny_bind (iter_set (z.move fun o e => Heap.get?_push_of_some _ e) fun I h' d fp St L hL W st0 hfp hI hk => ?_)
  have hT' : Shared.TypeIs { s with heap := h', drawn := d } (.ref a) "set" := ⟨o, hk _ _ (Heap.get?_push_of_some _ ho), hx.1⟩
  have hSf : s.heap.objs.size ∉ fp := fun m => by
    rcases hfp _ m with q | q
    · exact absurd q (Nat.ne_of_gt lt)
    · have q : (s.heap.push (seqObj "list" #[] 0)).objs.size ≤ s.heap.objs.size := q
      rw [sz] at q; omega
  refine wpAny_bind (wpAny_holding ?_); unfold Builtin.List.listLengthHint
  refine wpAny_bind (wpAny_specialOf hT' look_set_len ?_)
  (generalize hid : ("set.__len__" : String) = id0; (fail_if_success (clear hid id0)); wp_delta; rw [show splitId id0 = some ("set", "__len__") from by subst hid; decide +kernel]; subst hid)
  refine wpAny_bind (wpAny_isInstance (b := true) hT' (by rw [isSubtype_type]; kernel_rfl) ?_)
  refine wpAny_bind (wpAny_typeOf hT' ?_)
  refine wpAny_pure ?_
  show wpAny _ A.in1 (rule "list.extend.makes-room" >>= fun _ => Builtin.List.listTouch (.ref s.heap.objs.size) >>= fun _ => _) _ _ _
  refine wpAny_bind (wpAny_rule (wpAny_bind ?_))
  have g1 := hk _ _ gS
  refine wpAny_bind (m := updateSeq s.heap.objs.size (·.push .none)) (wpAny_updateSeq g1 rfl ?_)
  have g2 := Heap.get?_update_self (Obj.mapSeq (·.push Value.none)) g1 rfl
  refine wpAny_updateSeq g2 rfl ?_
  have g3 := Heap.get?_update_self (Obj.mapSeq (·.pop)) g2 rfl
  have oth : ∀ b o, b ≠ s.heap.objs.size → h'.get? b = some o → ((h'.update s.heap.objs.size (Obj.mapSeq (·.push Value.none))).update s.heap.objs.size (Obj.mapSeq (·.pop))).get? b = some o :=
    fun b o hb e => ((Heap.get?_update_other _ _ (Ne.symm hb)).trans (Heap.get?_update_other _ _ (Ne.symm hb))).trans e
  have W0 := W A.in1 (by simp [hh])
  refine wpAny_pure ⟨plainId_quiet F.plain_extend_loop _, codeAny_extend_loopS W0.toS (by rw [sizeLine_eq]; have : scanBound = 4096 := rfl; omega) _ hSf _ n 0 _ _ _ rfl (Nat.zero_le _) (W0.frame _ _ _ st0 fun b m o e => oth b o (fun q => hSf (q ▸ m)) e) g3 (ItemsOf.nil _) fun s' acc' c' hm hS' hacc => ?_⟩
  show wpAny _ A (load s.heap.objs.size >>= _) _ _ s'
  refine wpAny_bind (wpAny_load hS' (wpAny_pure ?_))
  have ea : acc'.toList = L.map (·.2) := by
    refine List.ext_getElem? fun i => ?_
    rw [Array.getElem?_toList, List.getElem?_map]
    by_cases hi : i < acc'.size
    · rw [Array.getElem?_eq_getElem hi]
      exact (hacc.2 i _ (Array.getElem?_eq_getElem hi)).symm
    · rw [Array.getElem?_eq_none (by omega), List.getElem?_eq_none (by have := hacc.1; have := hL.ln; omega)]; rfl
  obtain ⟨h3, g3, d3, t3, o3⟩ := s'
  cases (show g3 = s.gens from hm.gens)
  cases (show d3 = d from hm.drawn)
  cases (show o3 = s.os from hm.os)
  show Q acc'.toList _
  rw [ea]
  refine h L h3 d t3 hL fun b o e => ?_
  have bl := Heap.lt_size e
  refine hm.heap b o (fun q => ?_) (oth b o (Nat.ne_of_lt bl) (hk _ _ (Heap.get?_push_of_some _ e)))
  rcases List.mem_cons.mp q with q | q
  · exact absurd q (Nat.ne_of_lt bl)
  · have q := List.mem_singleton.mp q
    have hI : (s.heap.push (seqObj "list" #[] 0)).objs.size ≤ I := hI
    rw [sz] at hI
    rw [q] at bl
    exact absurd (Nat.lt_trans bl (Nat.lt_of_succ_le hI)) (Nat.lt_irrefl _)
end
end Pu
namespace Pu
open PySem PySem.Spec PySem.W L2
open PyProof.Rows hiding St
theorem full_perm : ∀ {a m : List Int}, a.Nodup → (∀ x ∈ a, x ∈ m) → m.length ≤ a.length → a.Perm m
  | [], m, _, _, h => by
    have e : m = [] := List.length_eq_zero_iff.mp (Nat.le_zero.mp h)
    rw [e]
  | x :: a, m, h, q, hl => by
    obtain ⟨h1, h2⟩ := List.nodup_cons.mp h
    have hx : x ∈ m := q x (by simp)
    have e := List.length_erase_of_mem hx
    have hp := List.length_pos_of_mem hx
    rw [List.length_cons] at hl
    have := full_perm (a := a) (m := m.erase x) h2 (fun y hy => (List.mem_erase_of_ne (fun e => h1 (by rw [← e]; exact hy))).mpr (q y (by simp [hy]))) (by omega)
    exact (this.cons x).trans (List.perm_cons_erase hx).symm
theorem met_nd (val : Nat → Int) : ∀ i, (firstMet val i).Nodup
  | 0 => by rw [firstMet_zero]; exact .nil
  | i + 1 => by
    rw [firstMet_succ]
    unfold step_dedup
    by_cases h : (firstMet val i).any (· == val i) = true
    · rw [if_pos h]; exact met_nd val i
    · rw [if_neg h]
      refine List.nodup_append.mpr ⟨met_nd val i, by simp, fun a ha b hb e => h ?_⟩
      rw [List.mem_singleton] at hb
      subst hb
      exact List.any_eq_true.mpr ⟨a, ha, by rw [e]; simp⟩
theorem met_list {ns : List Int} {n : Nat} (h : ns.length = n) : (List.range n).map (fun i => ns.getD i 0) = ns := by
  subst h
  refine List.ext_getElem (by simp) fun i h1 h2 => ?_
  simp [List.getD, h2]
theorem met_mem {ns : List Int} {n : Nat} (h : ns.length = n) (k : Int) : k ∈ firstMet (fun i => ns.getD i 0) n ↔ k ∈ ns := by
  have e := firstMet_any (fun i => ns.getD i 0) n k
  rw [met_list h] at e
  have : ∀ l : List Int, l.any (· == k) = true ↔ k ∈ l := fun l => by simp
  rw [← this, e, this]
theorem met_ddp {ns : List Int} {n : Nat} (h : ns.length = n) : (firstMet (fun i => ns.getD i 0) n).Perm (ddp ns) :=
  full_perm (met_nd _ _) (fun x hx => mem_ddp.mpr ((met_mem h x).mp hx)) (nd_len ddp_nd fun x hx => (met_mem h x).mpr (mem_ddp.mp hx))
section
variable {prog : Program} {w : World} {A : Around} {E : Value → Shared → Prop} {s : Shared}
theorem elems_ints : ∀ {L : List (Int × Value)}, ElemsOf (intKind prog w) L → ∃ ks : List Int, IntsAre (L.map (·.2)) ks ∧ ∀ k, k ∈ ks ↔ ∃ e ∈ L, (intKind prog w).is k e.2 = true
  | [], _ => ⟨[], .nil, fun k => by simp⟩
  | e :: L, h => by
    obtain ⟨ks, h1, h2⟩ := elems_ints (L := L) fun x m => h x (List.mem_cons_of_mem _ m)
    obtain ⟨⟨k, hk, _⟩, _⟩ := h e List.mem_cons_self
    obtain ⟨t, ht⟩ := Value.isInt_shape hk
    refine ⟨k :: ks, by rw [List.map_cons, ht]; exact .cons k t h1, fun j => ?_⟩
    rw [List.mem_cons, h2]
    constructor
    · rintro (rfl | ⟨x, m, q⟩)
      · exact ⟨e, List.mem_cons_self, hk⟩
      · exact ⟨x, List.mem_cons_of_mem _ m, q⟩
    · rintro ⟨x, m, q⟩
      rcases List.mem_cons.mp m with rfl | m
      · exact .inl ((intKind prog w).inj _ _ _ q hk)
      · exact .inr ⟨x, m, q⟩
theorem sorted_set {a : Addr} {S : Int → Bool} {n : Nat} {Q : Value → Shared → Prop} (hh : A.handled = none) (z : SOk prog w s.heap a S n (!w.params.followText "set-order")) (h64 : n < 64)
    (h : ∀ (out : Array Value) (ks ns' : List Int) (h' : Heap) (d : Drawn) (tk : Nat) (B : Addr) (c : Nat), ks.length = n → (∀ k, S k = true ↔ k ∈ ks) → IntsAre out.toList ns' → ns'.Perm ks → ns'.Pairwise (· ≤ ·) → a < B → (∀ b o, s.heap.get? b = some o → h'.get? b = some o) →
      h'.get? B = some (seqObj "list" out c) → Q (.ref B) { s with heap := h', drawn := d, toks := tk }) :
    wpAny (model prog w) A (call (.builtin "sorted") [.ref a]) Q E s := by
  refine Calls.call_function_entry kind_sorted plain_sorted entry_sorted (args_sorted1 _) ?_; unfold Builtin.«sorted»; refine wpAny_bind (m := checkCount "sorted" 1 1 _) (wpAny_pure ?_)
  refine wpAny_bind (collect_set (by simp [hh]) z fun L h1 d tk hL kp => ?_)
  obtain ⟨ks, hi, hm⟩ := elems_ints hL.el
  have ln : (L.map (·.2)).length = n := by rw [List.length_map, hL.ln]
  have lk : ks.length = n := by
    rw [← ln]
    clear hm ln
    generalize L.map (·.2) = vs at hi
    induction hi with
    | nil => rfl
    | cons _ _ _ ih => simp [ih]
  refine wpAny_bind (wpAny_newList ?_ (by rw [ln, sizeLine_eq]; omega))
  have g0 : (h1.push (seqObj "list" (L.map (·.2)).toArray 0)).get? h1.objs.size = some (seqObj "list" (L.map (·.2)).toArray 0) := Heap.get?_push_size _ rfl
  refine wpAny_bind (wpAny_holding (wpAny_call_entry slot_list_sort ⟨_, g0, rfl⟩ entry_list_sort (list_sort_tree g0 hi (by rw [ln]; exact h64) fun out ns' a1 a2 a3 => ⟨_, rfl, ?_⟩) (args_list_sort _)))
  obtain ⟨c, gB⟩ := PyProof.Rows.sortedHeap_at (out := out) g0
  obtain ⟨o, _, _, _, ho, _⟩ := z
  refine wpAny_pure ⟨_, rfl, h out ks ns' _ d tk _ c lk (fun k => (hL.me k).trans (hm k).symm) a1 a2 a3 (Heap.lt_size (kp a o ho)) (fun b o e => ?_) gB⟩
  have e1 := kp b o e
  have lt := Heap.lt_size e1
  rw [sortedHeap_old (Nat.ne_of_lt lt) (by rw [Heap.size_push]; exact Nat.lt_succ_of_lt lt)]
  exact Heap.get?_push_of_some _ e1
end
section
variable {X : Cx} {a : Expr} {p pos p2 pos2 : Pos} {fa : Rho → R (List D)} {ta : TA}
theorem inv_drawn {pins : List (Addr × Obj)} {σ : St} {H : Hp} {s : Shared} (I : Inv X pins σ H s) (d : Drawn) : Inv X pins σ H { s with drawn := d } :=
  I.step (g' := s.gens) (d' := d) (t' := s.toks) (h' := s.heap) (ch := []) (fun _ z => nomatch z) (fun _ _ _ _ _ e _ => e) (fun b o _ _ _ e _ => ⟨o.slots, e⟩) (fun _ _ _ _ n => n) (fun _ o _ e => ⟨o, e⟩) (fun _ _ e => e) (fun _ _ _ e => e) (fun b ps e => ⟨#[], by rw [e]; simp⟩) (fun _ m => m) I.hok I.bare
def tSS (X : Cx) (ta : TA) : TE := fun σ H Q => ta σ H fun vs H1 => ∃ (l : Addr) (ns : List Int), vs = [.ref l] ∧ SqL X.K H1 l (ns.map V.int) ∧ ns.length < 64 ∧ ∀ B, H1 B = none → Q (.ref B) (upd H1 B (.lst ((srt (ddp ns)).map V.int)))
theorem boot_setT : bootBuiltins "set" = some (.type "set") := by kernel_rfl
theorem pe_sortSet (hc : X.calm = true) (hg : Gl X "sorted") (hm : X.mg "sorted" = none) (hg2 : Gl X "set") (hm2 : X.mg "set" = none) (ha : PA X [a] ta)
    (he : starEach [.Call (.Name "set" p) [a] [] pos] X.env = (false, eval (.Call (.Name "set" p) [a] [] pos) X.env) :: starEach [] X.env := by rfl) (hs2 : starEach [a] X.env = (false, eval a X.env) :: starEach [] X.env := by rfl)
    (hpl : (backTo pos2 (starEach [] X.env)).any (·.1) = false := by rfl) (hpl2 : (backTo pos (starEach [] X.env)).any (·.1) = false := by rfl) (hen : starEach [] X.env = [] := by rfl) :
    PE X (.Call (.Name "sorted" p2) [.Call (.Name "set" p) [a] [] pos] [] pos2) (tSS X ta) := by
  intro pins s σ H Q I h
  refine wpAny_Call_Name_kw (ld_blt I hg hm boot_sorted (PyProof.Rows.callWith_builtin1 ?_ he hpl))
  rw [he, hen]
  show wpAny _ _ (spliced ((false, eval (.Call (.Name "set" p) [a] [] pos) X.env) :: [])) _ _ s
  refine Calls.spliced_cons (wpAny_Call_Name_kw (ld_blt I hg2 hm2 boot_setT (PyProof.Rows.callWith_type1 (thn (ha pos pins s σ H _ I h) fun us s1 ⟨vs, H1, I1, r1, q1⟩ => ?_) hs2 hpl2)))
  obtain ⟨l, ns, rfl, hq, h64, q⟩ := q1
  obtain ⟨u, rfl, rx⟩ := vals1 r1
  cases rx
  obtain ⟨its, rv, pl, hz⟩ := I1.list hq
  have hI := intVals rv
  have hl := rv.length
  rw [List.length_map] at hl
  have hl' : ns.length = its.toArray.size := by simpa using hl
  refine set_of_list (its := its.toArray) (ns := ns) (I.ok.hd hc) pl.isList hI (by have : scanBound = 4096 := rfl; simp; omega) fun h1 tk z kp => Calls.spliced_nil ?_
  have hn : (firstMet (fun i => ns.getD i 0) its.toArray.size).length < 64 := by have := firstMet_length_le (fun i => ns.getD i 0) its.toArray.size; omega
  refine sorted_set (I.ok.hd hc) z hn fun out ks ns' h' d tk' B c lk mk a1 a2 a3 hB kp2 gB => ?_
  have pk : (firstMet (fun i => ns.getD i 0) its.toArray.size).Perm ks := full_perm (met_nd _ _) (fun x hx => (mk x).mp (List.any_eq_true.mpr ⟨x, hx, by simp⟩)) (Nat.le_of_eq lk)
  have e : ns' = srt (ddp ns) := by rw [← srt_of ((pk.symm.trans (met_ddp hl'))), ← srt_uniq a2 a3]
  subst e
  have hf : H1 B = none := I1.hok.fresh (Nat.le_of_lt hB)
  refine ⟨.ref B, upd H1 B (.lst ((srt (ddp ns)).map V.int)), (inv_drawn I1 d).laid (t' := tk') (fun b o e => kp2 b o (kp b o e)) (Nat.le_of_lt hB) ⟨?_, out.toList, c, valsInt a1, by simpa using gB⟩, rfl, q _ hf⟩
  rw [List.length_map, a2.length_eq, lk, sizeLine_eq]
  omega
theorem de_sortSet (hc : X.calm = true) (hg : Gl X "sorted") (hm : X.mg "sorted" = none) (hg2 : Gl X "set") (hm2 : X.mg "set" = none) (ha : DA X [a] fa)
    (he : starEach [.Call (.Name "set" p) [a] [] pos] X.env = (false, eval (.Call (.Name "set" p) [a] [] pos) X.env) :: starEach [] X.env := by rfl) (hs2 : starEach [a] X.env = (false, eval a X.env) :: starEach [] X.env := by rfl)
    (hpl : (backTo pos2 (starEach [] X.env)).any (·.1) = false := by rfl) (hpl2 : (backTo pos (starEach [] X.env)).any (·.1) = false := by rfl) (hen : starEach [] X.env = [] := by rfl) :
    DE X (.Call (.Name "sorted" p2) [.Call (.Name "set" p) [a] [] pos] [] pos2) (callV sortSetD fa) := by
  refine PE.imp (pe_sortSet hc hg hm hg2 hm2 ha he hs2 hpl hpl2 hen) fun σ H Q q => ?_
  obtain ⟨ρ, O, j, q⟩ := q
  refine go j q fun ds vs H1 e1 s1 r1 j1 h1 => ?_
  unfold sortSetD at h1
  split at h1
  · rename_i es
    obtain ⟨x, rfl, rx⟩ := r1.one
    obtain ⟨l, ys, rfl, hq, _, rs⟩ := rx.lst
    cases e : intsOf es with
    | none => rw [e] at h1; exact h1.elim
    | some ns =>
      rw [e] at h1
      have h1 : good X (rD X) O (if ns.length < 64 then R.ok (.lst ((srt (ddp ns)).map .int)) else .bad) σ H1 Q := h1
      by_cases hl : ns.length < 64
      · rw [if_pos hl] at h1
        have e2 := reps_ints e rs
        subst e2
        exact ⟨l, ns, rfl, hq, hl, fun B hB => h1 _ _ (Same.upd hB) (Rep.new_lst hB (j1.notO hB) reps_of_ints)⟩
      · rw [if_neg hl] at h1; exact h1.elim
  · exact h1.elim
end
end Pu
namespace K01
open PySem PySem.Spec L2 Pu
open PyProof.Rows hiding St
def subX (c t : Str) : Bool := (c == "NoPicture" && (["NoPicture", "SeamError", "ValueError"] : List Str).contains t) || false
theorem sub_cases {c t : Str} (h : subX c t = true) : c = "NoPicture" := by
  unfold subX at h
  simp only [Bool.or_eq_true, Bool.and_eq_true, beq_iff_eq, Bool.false_eq_true, or_false] at h
  exact h.1
def g_is_line : Rho → So := (retS (andV (instV ans_tuple (fun ρ => getV ρ 0)) (chn (fun _ => .ok (.int 1)) (callV lenD (consA (fun ρ => getV ρ 0) (fun _ => .ok []))) (fun _ => .ok (.int 20)) leI leI)))
def F_is_line : List D → R D := runB 0 g_is_line
def g_is_whole : Rho → So := (retS (andV (instV ans_int (fun ρ => getV ρ 0)) (notV (instV ans_bool (fun ρ => getV ρ 0)))))
def F_is_whole : List D → R D := runB 0 g_is_whole
def g_is_cell : Rho → So := (retS (andV (callV (noErr F_is_whole 1) (consA (fun ρ => getV ρ 0) (fun _ => .ok []))) (chn (fun _ => .ok (.int 0)) (fun ρ => getV ρ 0) (fun _ => .ok (.int 99)) leI leI)))
def F_is_cell : List D → R D := runB 0 g_is_cell
def g_is_row : Rho → So := (retS (andV (callV (noErr F_is_line 1) (consA (fun ρ => getV ρ 0) (fun _ => .ok []))) (callV allD (consA (compV 1 [] (seqI (fun ρ => getV ρ 0)) (setV 0) (fun _ => .ok true) (callV (noErr F_is_cell 1) (consA (fun ρ => getV ρ 0) (fun _ => .ok [])))) (fun _ => .ok [])))))
def F_is_row : List D → R D := runB 0 g_is_row
def g_is_picture : Rho → So := (seqS (ifS (orT (notT (tst (callV (noErr F_is_line 1) (consA (fun ρ => getV ρ 0) (fun _ => .ok []))))) (notT (tst (callV allD (consA (compV 1 [] (seqI (fun ρ => getV ρ 0)) (setV 0) (fun _ => .ok true) (callV (noErr F_is_row 1) (consA (fun ρ => getV ρ 0) (fun _ => .ok [])))) (fun _ => .ok [])))))) (retS (fun _ => .ok (.bl false))) So.nx) (retS (callV allD (consA (compV 1 [0] (seqI (fun ρ => getV ρ 0)) (setV 0) (fun _ => .ok true) (bin (callV lenD (consA (fun ρ => getV ρ 0) (fun _ => .ok []))) (callV lenD (consA (bin (fun ρ => getV ρ 1) (fun _ => .ok (.int 0)) ixD) (fun _ => .ok []))) eqK)) (fun _ => .ok [])))))
def F_is_picture : List D → R D := runB 0 g_is_picture
def g_need_picture : Rho → So := (ifS (notT (tst (callV (noErr F_is_picture 1) (consA (fun ρ => getV ρ 0) (fun _ => .ok []))))) (fun ρ => .ex "NoPicture" ρ) So.nx)
def F_need_picture : List D → R D := runB 0 g_need_picture
def g_brightness : Rho → So := (seqS (exprS (callV (okN F_need_picture 1) (consA (fun ρ => getV ρ 0) (fun _ => .ok [])))) (retS (callV sumD (consA (compV 1 [] (seqI (fun ρ => getV ρ 0)) (setV 0) (fun _ => .ok true) (callV sumD (consA (fun ρ => getV ρ 0) (fun _ => .ok [])))) (fun _ => .ok [])))))
def F_brightness : List D → R D := runB 0 g_brightness
def g_counted : Rho → So := (seqS (exprS (callV (okN F_need_picture 1) (consA (fun ρ => getV ρ 0) (fun _ => .ok [])))) (seqS (fun ρ => .nx (ρ.set 1 (some (.dic [])))) (seqS (forS (seqI (fun ρ => getV ρ 0)) (setV 2) (forS (seqI (fun ρ => getV ρ 2)) (setV 3) (dputS 1 (fun ρ => getV ρ 3) (bin (dgetV 1 (fun ρ => getV ρ 3) (fun _ => .ok (.int 0))) (fun _ => .ok (.int 1)) catD)))) (retS (sortedV 1)))))
def F_counted : List D → R D := runB 3 g_counted
def g_mirrored : Rho → So := (seqS (exprS (callV (okN F_need_picture 1) (consA (fun ρ => getV ρ 0) (fun _ => .ok [])))) (retS (callV tupD (consA (compV 1 [] (seqI (fun ρ => getV ρ 0)) (setV 0) (fun _ => .ok true) (revV (fun ρ => getV ρ 0))) (fun _ => .ok [])))))
def F_mirrored : List D → R D := runB 0 g_mirrored
def g_size_of : Rho → So := (seqS (exprS (callV (okN F_need_picture 1) (consA (fun ρ => getV ρ 0) (fun _ => .ok [])))) (retS (tupV (consA (callV lenD (consA (bin (fun ρ => getV ρ 0) (fun _ => .ok (.int 0)) ixD) (fun _ => .ok []))) (consA (callV lenD (consA (fun ρ => getV ρ 0) (fun _ => .ok []))) (fun _ => .ok []))))))
def F_size_of : List D → R D := runB 0 g_size_of
def g_turned : Rho → So := (seqS (asgS (callV (okN F_size_of 1) (consA (fun ρ => getV ρ 0) (fun _ => .ok []))) (tupG (lenG 2 (consG (setV 1) (consG (setV 2) nilG))))) (retS (callV tupD (consA (compV 1 [2, 0] (fun ρ => ((consA (fun ρ => getV ρ 1) (fun _ => .ok [])) ρ).bind rng1) (setV 0) (fun _ => .ok true) (callV tupD (consA (compV 1 [2, 0] (fun ρ => ((consA (fun ρ => getV ρ 1) (fun _ => .ok [])) ρ).bind rng1) (setV 0) (fun _ => .ok true) (bin (bin (fun ρ => getV ρ 1) (fun ρ => getV ρ 0) ixD) (fun ρ => getV ρ 2) ixD)) (fun _ => .ok [])))) (fun _ => .ok [])))))
def F_turned : List D → R D := runB 2 g_turned
def g__law_no : Rho → So := (seqS (tryS subX "SeamError" 2 (ifS (tst (bin (fun ρ => getV ρ 0) (fun _ => .ok (.int 0)) eqK)) (exprS (callV (okN F_size_of 1) (consA (fun ρ => getV ρ 1) (fun _ => .ok [])))) (ifS (tst (bin (fun ρ => getV ρ 0) (fun _ => .ok (.int 1)) eqK)) (exprS (callV (okN F_turned 1) (consA (fun ρ => getV ρ 1) (fun _ => .ok [])))) (ifS (tst (bin (fun ρ => getV ρ 0) (fun _ => .ok (.int 2)) eqK)) (exprS (callV (okN F_mirrored 1) (consA (fun ρ => getV ρ 1) (fun _ => .ok [])))) (ifS (tst (bin (fun ρ => getV ρ 0) (fun _ => .ok (.int 3)) eqK)) (exprS (callV (okN F_counted 1) (consA (fun ρ => getV ρ 1) (fun _ => .ok [])))) (exprS (callV (okN F_brightness 1) (consA (fun ρ => getV ρ 1) (fun _ => .ok [])))))))) (seqS (ifS (notT (andT (tst (instE subX 2 "NoPicture")) (notT (tst (instE subX 2 "NoMarks"))))) (retS (fun _ => .ok (.bl false))) So.nx) (retS (instE subX 2 "ValueError")))) (retS (fun _ => .ok (.bl false))))
def F__law_no : List D → R D := runB 1 g__law_no
def g__law_drawn : Rho → So := (seqS (asgS (bin (fun _ => .ok (.int 7)) (fun ρ => getV ρ 1) mulI) (setV 3)) (seqS (ifS (tst (bin (fun ρ => getV ρ 0) (lstV (fun _ => .ok [])) neK)) (seqS (asgS (bin (fun ρ => getV ρ 0) (bin (fun ρ => getV ρ 1) (callV lenD (consA (fun ρ => getV ρ 0) (fun _ => .ok []))) modI) ixD) (setV 3)) (seqS (asgS (bin (fun ρ => getV ρ 1) (callV lenD (consA (fun ρ => getV ρ 0) (fun _ => .ok []))) divI) (setV 4)) (seqS (ifS (andT (tst (bin (fun ρ => getV ρ 3) (bin (fun _ => .ok (.int 10)) (fun _ => .ok (.int 18)) powI) geI)) (tst (bin (fun ρ => getV ρ 4) (fun _ => .ok (.int 60)) ltI))) (seqS (asgS (bin (fun ρ => getV ρ 3) (bin (fun _ => .ok (.int 10)) (fun _ => .ok (.int 18)) powI) divI) (setV 5)) (seqS (whS (andT (tst (bin (fun ρ => getV ρ 5) (fun _ => .ok (.int 0)) gtI)) (tst (bin (fun ρ => getV ρ 4) (fun _ => .ok (.int 0)) gtI))) (seqS (asgS (bin (fun ρ => getV ρ 5) (fun _ => .ok (.int 1000000)) divI) (setV 5)) (asgS (bin (fun ρ => getV ρ 4) (fun _ => .ok (.int 1)) subI) (setV 4))) 64) (ifS (tst (bin (fun ρ => getV ρ 5) (fun _ => .ok (.int 0)) gtI)) (retS (bin (bin (fun ρ => getV ρ 5) (fun _ => .ok (.int 1000000)) modI) (fun ρ => getV ρ 2) modI)) So.nx))) So.nx) (asgS (bin (fun ρ => getV ρ 3) (bin (fun _ => .ok (.int 6553)) (bin (fun ρ => getV ρ 1) (callV lenD (consA (fun ρ => getV ρ 0) (fun _ => .ok []))) divI) mulI) catD) (setV 3))))) So.nx) (seqS (asgS (bin (bin (bin (bin (fun ρ => getV ρ 3) (fun _ => .ok (.int 2147483563)) modI) (fun _ => .ok (.int 69069)) mulI) (bin (fun _ => .ok (.int 104723)) (bin (fun ρ => getV ρ 1) (fun _ => .ok (.int 1)) catD) mulI) catD) (fun _ => .ok (.int 2147483563)) modI) (setV 3)) (seqS (asgS (bin (bin (bin (fun ρ => getV ρ 3) (fun ρ => getV ρ 3) mulI) (bin (fun ρ => getV ρ 3) (fun _ => .ok (.int 3)) divI) catD) (fun _ => .ok (.int 2147483399)) modI) (setV 3)) (retS (bin (bin (bin (bin (bin (fun ρ => getV ρ 3) (fun ρ => getV ρ 3) mulI) (bin (fun ρ => getV ρ 3) (fun _ => .ok (.int 7)) divI) catD) (fun _ => .ok (.int 2147483647)) modI) (fun _ => .ok (.int 11)) divI) (fun ρ => getV ρ 2) modI))))))
def F__law_drawn : List D → R D := runB 3 g__law_drawn
def g__law_picture : Rho → So := (seqS (parO 4 5 (bin (lstV (consA (fun _ => .ok (.int 2)) (consA (fun _ => .ok (.int 5)) (consA (fun _ => .ok (.int 100)) (consA (fun _ => .ok (.int 10)) (fun _ => .ok [])))))) (callV (noErr F__law_drawn 3) (consA (fun ρ => getV ρ 0) (consA (fun ρ => getV ρ 1) (consA (fun _ => .ok (.int 4)) (fun _ => .ok []))))) ixD) (fun _ => .ok [])) (seqS (forS (fun ρ => ((consA (fun ρ => getV ρ 3) (fun _ => .ok [])) ρ).bind rng1) (setV 6) (appS 5 (callV tupD (consA (compV 1 [1, 2, 4, 0, 6] (fun ρ => ((consA (fun ρ => getV ρ 2) (fun _ => .ok [])) ρ).bind rng1) (setV 0) (fun _ => .ok true) (callV (noErr F__law_drawn 3) (consA (fun ρ => getV ρ 4) (consA (bin (bin (bin (fun ρ => getV ρ 1) (fun _ => .ok (.int 1)) catD) (bin (fun ρ => getV ρ 2) (fun ρ => getV ρ 5) mulI) catD) (fun ρ => getV ρ 0) catD) (consA (fun ρ => getV ρ 3) (fun _ => .ok [])))))) (fun _ => .ok []))))) (retS (callV tupD (consA (fun ρ => getV ρ 5) (fun _ => .ok []))))))
def F__law_picture : List D → R D := runB 3 g__law_picture
def g__law_some : Rho → So := (retS (callV (noErr F__law_picture 4) (consA (fun ρ => getV ρ 0) (consA (bin (fun ρ => getV ρ 1) (fun _ => .ok (.int 2)) catD) (consA (bin (fun _ => .ok (.int 1)) (callV (noErr F__law_drawn 3) (consA (fun ρ => getV ρ 0) (consA (fun ρ => getV ρ 1) (consA (fun ρ => getV ρ 2) (fun _ => .ok []))))) catD) (consA (bin (fun _ => .ok (.int 1)) (callV (noErr F__law_drawn 3) (consA (fun ρ => getV ρ 0) (consA (bin (fun ρ => getV ρ 1) (fun _ => .ok (.int 1)) catD) (consA (fun ρ => getV ρ 3) (fun _ => .ok []))))) catD) (fun _ => .ok [])))))))
def F__law_some : List D → R D := runB 0 g__law_some
def g__law_turned : Rho → So := (retS (callV tupD (consA (compV 1 [0] (fun ρ => ((consA (callV lenD (consA (bin (fun ρ => getV ρ 0) (fun _ => .ok (.int 0)) ixD) (fun _ => .ok []))) (fun _ => .ok [])) ρ).bind rng1) (setV 0) (fun _ => .ok true) (callV tupD (consA (compV 1 [0] (seqI (fun ρ => getV ρ 1)) (setV 0) (fun _ => .ok true) (bin (fun ρ => getV ρ 0) (fun ρ => getV ρ 1) ixD)) (fun _ => .ok [])))) (fun _ => .ok []))))
def F__law_turned : List D → R D := runB 0 g__law_turned
def flaB : Rho → So := (asgS (bin (fun ρ => getV ρ 4) (callV lstD (consA (fun ρ => getV ρ 5) (fun _ => .ok []))) addD) (setV 4))
def badB : Rho → So := (seqS (asgS (lstV (consA (fun _ => .ok .non) (consA (tupV (fun _ => .ok [])) (consA (tupV (consA (tupV (fun _ => .ok [])) (fun _ => .ok []))) (consA (lstV (consA (tupV (consA (fun _ => .ok (.int 1)) (fun _ => .ok []))) (fun _ => .ok []))) (consA (tupV (consA (lstV (consA (fun _ => .ok (.int 1)) (fun _ => .ok []))) (fun _ => .ok []))) (consA (tupV (consA (tupV (consA (fun _ => .ok (.int 1)) (fun _ => .ok []))) (consA (tupV (consA (fun _ => .ok (.int 1)) (consA (fun _ => .ok (.int 2)) (fun _ => .ok [])))) (fun _ => .ok [])))) (consA (tupV (consA (tupV (consA (fun _ => .ok (.int 100)) (fun _ => .ok []))) (fun _ => .ok []))) (consA (tupV (consA (tupV (consA (negV (fun _ => .ok (.int 1))) (fun _ => .ok []))) (fun _ => .ok []))) (consA (tupV (consA (tupV (consA (fun _ => .ok (.bl true)) (fun _ => .ok []))) (fun _ => .ok []))) (fun _ => .ok []))))))))))) (setV 6)) (seqS (asgS (bin (fun ρ => getV ρ 6) (lstV (consA (tupV (consA (tupV (consA (fun _ => .ok .non) (fun _ => .ok []))) (fun _ => .ok []))) (consA (bin (tupV (consA (tupV (consA (fun _ => .ok (.int 1)) (fun _ => .ok []))) (fun _ => .ok []))) (fun _ => .ok (.int 21)) mulD) (fun _ => .ok [])))) addD) (setV 6)) (seqS (asgS (bin (fun ρ => getV ρ 6) (lstV (consA (tupV (consA (bin (tupV (consA (fun _ => .ok (.int 1)) (fun _ => .ok []))) (fun _ => .ok (.int 21)) mulD) (fun _ => .ok []))) (consA (fun _ => .ok (.str "1")) (consA (tupV (consA (tupV (consA (fun _ => .ok (.str "1")) (fun _ => .ok []))) (fun _ => .ok []))) (consA (tupV (consA (tupV (consA (fun _ => .ok (.int 1)) (consA (fun _ => .ok (.int 2)) (fun _ => .ok [])))) (consA (fun _ => .ok (.int 3)) (fun _ => .ok [])))) (consA (fun _ => .ok (.int 7)) (fun _ => .ok []))))))) addD) (setV 6)) (seqS (ifS (tst (bin (compV 1 [] (seqI (fun ρ => getV ρ 6)) (setV 0) (tst (bin (callV (noErr F_is_picture 1) (consA (fun ρ => getV ρ 0) (fun _ => .ok []))) (fun _ => .ok (.bl false)) isNB)) (fun ρ => getV ρ 0)) (lstV (fun _ => .ok [])) neK)) (retS (fun _ => .ok (.bl false))) So.nx) (seqS (ifS (notT (tst (bin (compV 1 [] (seqI (fun ρ => getV ρ 6)) (setV 0) (tst (bin (compV 1 [0] (fun ρ => ((consA (fun _ => .ok (.int 5)) (fun _ => .ok [])) ρ).bind rng1) (setV 0) (notT (tst (callV (noErr F__law_no 2) (consA (fun ρ => getV ρ 0) (consA (fun ρ => getV ρ 1) (fun _ => .ok [])))))) (fun ρ => getV ρ 0)) (lstV (fun _ => .ok [])) neK)) (fun ρ => getV ρ 0)) (lstV (fun _ => .ok [])) eqK))) (retS (fun _ => .ok (.bl false))) So.nx) (retS (callV (noErr F_is_picture 1) (consA (bin (tupV (consA (bin (tupV (consA (fun _ => .ok (.int 0)) (fun _ => .ok []))) (fun _ => .ok (.int 20)) mulD) (fun _ => .ok []))) (fun _ => .ok (.int 20)) mulD) (fun _ => .ok [])))))))))
def g_law : Rho → So := (seqS (asgS (callV (noErr F__law_some 4) (consA (fun ρ => getV ρ 0) (consA (fun _ => .ok (.int 0)) (consA (fun _ => .ok (.int 9)) (consA (fun _ => .ok (.int 7)) (fun _ => .ok [])))))) (setV 1)) (seqS (parS 2 3 (callV lenD (consA (bin (fun ρ => getV ρ 1) (fun _ => .ok (.int 0)) ixD) (fun _ => .ok []))) (callV lenD (consA (fun ρ => getV ρ 1) (fun _ => .ok [])))) (seqS (ifS (orT (tst (bin (callV (noErr F_is_picture 1) (consA (fun ρ => getV ρ 1) (fun _ => .ok []))) (fun _ => .ok (.bl true)) isNB)) (tst (bin (callV (okN F_size_of 1) (consA (fun ρ => getV ρ 1) (fun _ => .ok []))) (tupV (consA (fun ρ => getV ρ 2) (consA (fun ρ => getV ρ 3) (fun _ => .ok [])))) neK))) (retS (fun _ => .ok (.bl false))) So.nx) (seqS (ifS (tst (bin (callV (okN F_turned 1) (consA (fun ρ => getV ρ 1) (fun _ => .ok []))) (callV (noErr F__law_turned 1) (consA (fun ρ => getV ρ 1) (fun _ => .ok []))) neK)) (retS (fun _ => .ok (.bl false))) So.nx) (seqS (ifS (tst (bin (callV (okN F_mirrored 1) (consA (fun ρ => getV ρ 1) (fun _ => .ok []))) (callV tupD (consA (compV 1 [] (seqI (fun ρ => getV ρ 1)) (setV 0) (fun _ => .ok true) (revV (fun ρ => getV ρ 0))) (fun _ => .ok []))) neK)) (retS (fun _ => .ok (.bl false))) So.nx) (seqS (asgS (lstV (fun _ => .ok [])) (setV 4)) (seqS (forS (seqI (fun ρ => getV ρ 1)) (setV 5) flaB) (seqS (ifS (tst (bin (callV (okN F_counted 1) (consA (fun ρ => getV ρ 1) (fun _ => .ok []))) (compV 1 [4] (seqI (callV sortSetD (consA (fun ρ => getV ρ 4) (fun _ => .ok [])))) (setV 0) (fun _ => .ok true) (tupV (consA (fun ρ => getV ρ 0) (consA (cntV (fun ρ => getV ρ 1) (fun ρ => getV ρ 0)) (fun _ => .ok []))))) neK)) (retS (fun _ => .ok (.bl false))) So.nx) (seqS (ifS (tst (bin (callV (okN F_brightness 1) (consA (fun ρ => getV ρ 1) (fun _ => .ok []))) (callV sumD (consA (fun ρ => getV ρ 4) (fun _ => .ok []))) neK)) (retS (fun _ => .ok (.bl false))) So.nx) badB)))))))))
def F_law : List D → R D := runB 6 g_law
end K01
namespace K01
open PySem PySem.Spec L2 Pu
def row (w : Nat) (f : Nat → Int) : D := .tup ((List.range w).map fun x => .int (f x))
def pic (w h : Nat) (f : Nat → Nat → Int) : D := .tup ((List.range h).map fun y => row w (f y))
structure Ok (w h : Nat) (f : Nat → Nat → Int) : Prop where
  w1 : 1 ≤ w
  w2 : w ≤ 20
  h1 : 1 ≤ h
  h2 : h ≤ 20
  c : ∀ y < h, ∀ x < w, 0 ≤ f y x ∧ f y x ≤ 99
theorem leI_t {i j : Int} (h : i ≤ j) : leI (.int i) (.int j) = .ok (.bl true) := by
  show R.ok (D.bl (decide (i ≤ j))) = _
  rw [decide_eq_true h]
theorem is_line_eq {ds : List D} (h1 : 1 ≤ ds.length) (h2 : ds.length ≤ 20) : F_is_line [.tup ds] = .ok (.bl true) :=
  ev_rt (ev_ret (ev_and rfl (ev_chn rfl (ev_call (ev_one rfl) rfl) (leI_t (by omega)) rfl (leI_t (by omega)))))
theorem is_whole_eq {i : Int} : F_is_whole [.int i] = .ok (.bl true) := rfl
theorem is_cell_eq {i : Int} (h0 : 0 ≤ i) (h1 : i ≤ 99) : F_is_cell [.int i] = .ok (.bl true) := by
  exact ev_rt (ev_ret (ev_and (ev_fn (ev_one rfl) is_whole_eq) (ev_chn rfl rfl (leI_t h0) rfl (leI_t h1))))
theorem is_row_eq {w : Nat} {f : Nat → Int} (h1 : 1 ≤ w) (h2 : w ≤ 20) (hc : ∀ x < w, 0 ≤ f x ∧ f x ≤ 99) : F_is_row [row w f] = .ok (.bl true) := by
  refine ev_rt (ev_ret (ev_and (ev_fn (ev_one rfl) (is_line_eq (by simpa using h1) (by simpa using h2))) (ev_call (ev_one (comp_on (c := fun x => .int (f x)) (h := fun _ => .bl true) (l := List.range w) (ev_seqT rfl) (by rw [List.length_range]; omega) fun x hx => ?_)) ev_allL)))
  obtain ⟨a, b⟩ := hc x (List.mem_range.mp hx)
  exact ev_elt rfl (ev_fn (ev_one rfl) (is_cell_eq a b))
section
variable {w h : Nat} {f : Nat → Nat → Int}
theorem is_picture_eq (o : Ok w h f) : F_is_picture [pic w h f] = .ok (.bl true) := by
  have e1 : F_is_line [pic w h f] = .ok (.bl true) := is_line_eq (by simpa using o.h1) (by simpa using o.h2)
  refine ev_rt (ev_seq (ev_ifF (ev_orF (ev_not (ev_tst (ev_fn (ev_one rfl) e1))) (ev_not (ev_tst (ev_call (ev_one (comp_on (c := fun y => row w (f y)) (h := fun _ => .bl true) (l := List.range h) (ev_seqT rfl) (by rw [List.length_range]; have := o.h2; omega) fun y hy => ?_)) ev_allL)))) rfl) (ev_ret (ev_call (ev_one (comp_on (c := fun y => row w (f y)) (h := fun _ => .bl true) (l := List.range h) (ev_seqT rfl) (by rw [List.length_range]; have := o.h2; omega) fun y hy => ?_)) ev_allL)))
  · exact ev_elt rfl (ev_fn (ev_one rfl) (is_row_eq o.w1 o.w2 (o.c y (List.mem_range.mp hy))))
  · refine ev_elt rfl (ev_bin (ev_call (ev_one rfl) rfl) (ev_call (ev_one (ev_bin rfl rfl (ev_ix (i := 0) (d := row w (f 0)) ?_))) rfl) (eqK_same ?_ ?_))
    · rw [List.getElem?_map, List.getElem?_range o.h1]; rfl
    · simp
    · simp [dep]
theorem need_eq (o : Ok w h f) : F_need_picture [pic w h f] = .ok .non := ev_nx (ev_ifF (ev_not (ev_tst (ev_fn (ev_one rfl) (is_picture_eq o)))) rfl)
theorem size_eq (o : Ok w h f) : F_size_of [pic w h f] = .ok (.tup [.int w, .int h]) := by
  refine ev_rt (ev_seq (ev_expr (ev_fnX (ev_one rfl) (need_eq o))) (ev_ret (ev_tup (ev_cons (ev_call (ev_one (ev_bin rfl rfl (ev_ix (i := 0) (d := row w (f 0)) ?_))) ?_) (ev_one (ev_call (ev_one rfl) ?_))))))
  · rw [List.getElem?_map, List.getElem?_range o.h1]; rfl
  · simp [row, lenD]
  · simp [pic, lenD]
theorem turned_eq (o : Ok w h f) : F_turned [pic w h f] = .ok (pic h w fun y x => f x y) := by
  refine ev_rt (ev_seq (ev_asg (ev_fnX (ev_one rfl) (size_eq o)) rfl) (ev_ret (ev_call (ev_one (comp_on (c := fun (x : Nat) => .int (x : Int)) (h := fun x => row h fun y => f y x) (l := List.range w) (ev_rng (ev_one rfl) (by have := o.w2; omega)) (by rw [List.length_range]; have := o.w2; omega) fun x hx => ?_)) rfl)))
  refine ev_elt rfl (ev_call (ev_one (comp_on (c := fun (y : Nat) => .int (y : Int)) (h := fun y => .int (f y x)) (l := List.range h) (ev_rng (ev_one rfl) (by have := o.h2; omega)) (by rw [List.length_range]; have := o.h2; omega) fun y hy => ?_)) rfl)
  refine ev_elt rfl (ev_bin (ev_bin rfl rfl (ev_ix (i := y) (d := row w (f y)) ?_)) rfl (ev_ix (i := x) ?_))
  · rw [List.getElem?_map, List.getElem?_range (List.mem_range.mp hy)]; rfl
  · rw [List.getElem?_map, List.getElem?_range (List.mem_range.mp hx)]; rfl
theorem range_rev {α : Type} {n : Nat} {g : Nat → α} : ((List.range n).map g).reverse = (List.range n).map fun i => g (n - 1 - i) := by
  refine List.ext_getElem (by simp) fun i h1 h2 => ?_
  simp
theorem mirrored_eq (o : Ok w h f) : F_mirrored [pic w h f] = .ok (pic w h fun y x => f y (w - 1 - x)) := by
  refine ev_rt (ev_seq (ev_expr (ev_fnX (ev_one rfl) (need_eq o))) (ev_ret (ev_call (ev_one (comp_on (c := fun y => row w (f y)) (h := fun y => row w fun x => f y (w - 1 - x)) (l := List.range h) (ev_seqT rfl) (by rw [List.length_range]; have := o.h2; omega) fun y hy => ?_)) rfl)))
  refine ev_elt rfl ((ev_rev rfl).trans ?_)
  rw [range_rev]; rfl
theorem brightness_eq (o : Ok w h f) : F_brightness [pic w h f] = .ok (.int ((List.range h).map fun y => ((List.range w).map (f y)).sum).sum) := by
  refine ev_rt (ev_seq (ev_expr (ev_fnX (ev_one rfl) (need_eq o))) (ev_ret (ev_call (ev_one (comp_on (c := fun y => row w (f y)) (h := fun y => .int ((List.range w).map (f y)).sum) (l := List.range h) (ev_seqT rfl) (by rw [List.length_range]; have := o.h2; omega) fun y hy => ?_)) ev_sumL)))
  exact ev_elt rfl (ev_call (ev_one rfl) ev_sumT)
end
def appD : Rho → So := (appS 5 (callV tupD (consA (compV 1 [1, 2, 4, 0, 6] (fun ρ => ((consA (fun ρ => getV ρ 2) (fun _ => .ok [])) ρ).bind rng1) (setV 0) (fun _ => .ok true) (callV (noErr F__law_drawn 3) (consA (fun ρ => getV ρ 4) (consA (bin (bin (bin (fun ρ => getV ρ 1) (fun _ => .ok (.int 1)) catD) (bin (fun ρ => getV ρ 2) (fun ρ => getV ρ 5) mulI) catD) (fun ρ => getV ρ 0) catD) (consA (fun ρ => getV ρ 3) (fun _ => .ok [])))))) (fun _ => .ok []))))
section
variable {ns : List Int} {a m : Int} {w h : Nat}
def vA (d : D) : Option Ent := some (.val d)
theorem app_eq (hns : ns.length ≤ 1000000) (ha : 0 ≤ a) (hm : 0 < m) (hw : w ≤ 20) {acc : List D} {y : Nat} {tl : Option Ent} (hl : acc.length < 1000000) :
    appD [vA (.lst (ns.map .int)), vA (.int a), vA (.int (w : Int)), tl, vA (.int m), some (.lst acc), vA (.int (y : Int))] =
      .nx [vA (.lst (ns.map .int)), vA (.int a), vA (.int (w : Int)), tl, vA (.int m), some (.lst (acc ++ [row w fun x => dr ns (a + 1 + (w : Int) * (y : Int) + (x : Int)) m])), vA (.int (y : Int))] := by
  have e : callV tupD (consA (compV 1 [1, 2, 4, 0, 6] (fun ρ => ((consA (fun ρ => getV ρ 2) (fun _ => .ok [])) ρ).bind rng1) (setV 0) (fun _ => .ok true) (callV (noErr F__law_drawn 3) (consA (fun ρ => getV ρ 4) (consA (bin (bin (bin (fun ρ => getV ρ 1) (fun _ => .ok (.int 1)) catD) (bin (fun ρ => getV ρ 2) (fun ρ => getV ρ 5) mulI) catD) (fun ρ => getV ρ 0) catD) (consA (fun ρ => getV ρ 3) (fun _ => .ok [])))))) (fun _ => .ok []))
      [vA (.lst (ns.map .int)), vA (.int a), vA (.int (w : Int)), tl, vA (.int m), some (.lst acc), vA (.int (y : Int))] = .ok (row w fun x => dr ns (a + 1 + (w : Int) * (y : Int) + (x : Int)) m) := by
    refine ev_call (ev_one (comp_on (c := fun (x : Nat) => D.int (x : Int)) (h := fun (x : Nat) => D.int (dr ns (a + 1 + (w : Int) * (y : Int) + (x : Int)) m)) (l := List.range w) (ev_rng (ev_one rfl) (by omega)) (by rw [List.length_range]; omega) fun x hx => ?_)) rfl
    refine ev_elt rfl (ev_fn (ev_cons rfl (ev_cons (ev_bin (ev_bin (ev_bin rfl rfl rfl) (ev_bin rfl rfl (ev_mul (.inl ⟨by omega, by omega⟩))) rfl) rfl rfl) (ev_one rfl))) ?_)
    have hp : (0 : Int) ≤ (w : Int) * (y : Int) := Int.mul_nonneg (by omega) (by omega)
    exact (dr_eq hns (by omega) hm).1
  unfold appD appS
  rw [e]
  show (if acc.length < 1000000 then So.nx _ else .bad) = _
  rw [if_pos hl]; rfl
theorem rowsA_eq (hns : ns.length ≤ 1000000) (ha : 0 ≤ a) (hm : 0 < m) (hw : w ≤ 20) {tl : Option Ent} : ∀ {ys : List Nat} {acc : List D} {x : Option Ent}, acc.length + ys.length ≤ 1000000 →
    ∃ x', forL (setV 6) appD (ys.map fun (y : Nat) => D.int (y : Int)) [vA (.lst (ns.map .int)), vA (.int a), vA (.int (w : Int)), tl, vA (.int m), some (.lst acc), x] =
      .nx [vA (.lst (ns.map .int)), vA (.int a), vA (.int (w : Int)), tl, vA (.int m), some (.lst (acc ++ ys.map fun (y : Nat) => row w fun x => dr ns (a + 1 + (w : Int) * (y : Int) + (x : Int)) m)), x']
  | [], acc, x, _ => ⟨x, by rw [List.map_nil, List.map_nil, List.append_nil]; rfl⟩
  | y :: ys, acc, x, hl => by
    rw [List.length_cons] at hl
    obtain ⟨x', e⟩ := rowsA_eq hns ha hm hw (tl := tl) (ys := ys) (acc := acc ++ [row w fun x => dr ns (a + 1 + (w : Int) * (y : Int) + (x : Int)) m]) (x := vA (.int (y : Int))) (by rw [List.length_append]; simp only [List.length_cons, List.length_nil]; omega)
    refine ⟨x', ?_⟩
    rw [List.append_assoc] at e
    rw [List.map_cons, List.map_cons]
    exact forL_cons rfl (app_eq hns ha hm hw (by omega)) e
theorem picture_eq (hns : ns.length ≤ 1000000) (ha : 0 ≤ a) (hw : w ≤ 20) (hw1 : 1 ≤ w) (hh : h ≤ 20) (hh1 : 1 ≤ h) : ∃ f, F__law_picture [.lst (ns.map .int), .int a, .int (w : Int), .int (h : Int)] = .ok (pic w h f) ∧ Ok w h f := by
  obtain ⟨e1, h0, h4⟩ := dr_eq (k := a) (m := 4) hns ha (by omega)
  obtain ⟨d, hd, ed⟩ := atI_int (xs := [D.int 2, .int 5, .int 100, .int 10]) h0 h4
  have hm : ∃ m, d = .int m ∧ 0 < m ∧ m ≤ 100 := by
    simp only [List.mem_cons, List.not_mem_nil, or_false] at hd
    rcases hd with rfl | rfl | rfl | rfl
    · exact ⟨_, rfl, by omega, by omega⟩
    · exact ⟨_, rfl, by omega, by omega⟩
    · exact ⟨_, rfl, by omega, by omega⟩
    · exact ⟨_, rfl, by omega, by omega⟩
  obtain ⟨m, rfl, hm0, hm1⟩ := hm
  obtain ⟨x', er⟩ := rowsA_eq hns ha hm0 hw (tl := vA (.int (h : Int))) (ys := List.range h) (acc := []) (x := none) (by rw [List.length_range, List.length_nil]; omega)
  refine ⟨fun y x => dr ns (a + 1 + (w : Int) * (y : Int) + (x : Int)) m, ev_rt (ev_seq (ρ' := [vA (.lst (ns.map .int)), vA (.int a), vA (.int (w : Int)), vA (.int (h : Int)), vA (.int m), some (.lst []), none]) ?_ (ev_seq (ev_for (ev_rng (m := h) (ev_one rfl) (by omega)) er) (ev_ret (ev_call (ev_one (x := .lst ((List.range h).map fun (y : Nat) => row w fun x => dr ns (a + 1 + (w : Int) * (y : Int) + (x : Int)) m)) rfl) rfl)))), hw1, hw, hh1, hh, fun y hy x hx => ?_⟩
  · exact ev_parO (ev_bin (x := .lst [D.int 2, .int 5, .int 100, .int 10]) (y := .int (dr ns a 4)) (ev_lst rfl) (ev_fn (ev_cons rfl (ev_cons rfl (ev_one rfl))) e1) (ev_ixI ed)) rfl
  · have hp : (0 : Int) ≤ (w : Int) * (y : Int) := Int.mul_nonneg (by omega) (by omega)
    have := (dr_eq (k := a + 1 + (w : Int) * (y : Int) + (x : Int)) (m := m) hns (by omega) hm0).2
    show 0 ≤ dr _ _ _ ∧ dr _ _ _ ≤ 99
    omega
theorem some_eq (hns : ns.length ≤ 1000000) : ∃ w h f, F__law_some [.lst (ns.map .int), .int 0, .int 9, .int 7] = .ok (pic w h f) ∧ Ok w h f ∧ w ≤ 9 ∧ h ≤ 7 := by
  obtain ⟨e1, h1, h2⟩ := dr_eq (k := 0) (m := 9) hns (by omega) (by omega)
  obtain ⟨e2, h3, h4⟩ := dr_eq (k := 0 + 1) (m := 7) hns (by omega) (by omega)
  obtain ⟨w, hw⟩ := Int.eq_ofNat_of_zero_le (show 0 ≤ 1 + dr ns 0 9 by omega)
  obtain ⟨h, hh⟩ := Int.eq_ofNat_of_zero_le (show 0 ≤ 1 + dr ns (0 + 1) 7 by omega)
  obtain ⟨f, e, o⟩ := picture_eq (ns := ns) (a := 0 + 2) (w := w) (h := h) hns (by omega) (by omega) (by omega) (by omega) (by omega)
  refine ⟨w, h, f, ev_rt (ev_ret (ev_fn (ev_cons rfl (ev_cons (ev_bin rfl rfl rfl) (ev_cons (ev_bin rfl (ev_fn (ev_cons rfl (ev_cons rfl (ev_one rfl))) e1) (congrArg (fun z => R.ok (D.int z)) hw)) (ev_one (ev_bin rfl (ev_fn (ev_cons rfl (ev_cons (ev_bin rfl rfl rfl) (ev_one rfl))) e2) (congrArg (fun z => R.ok (D.int z)) hh)))))) e)), o, by omega, by omega⟩
end
section
variable {w h : Nat} {f g : Nat → Nat → Int}
theorem dep_pic : dep (pic w h f) ≤ 40 := by
  unfold pic
  rw [dep]
  have := deps_on (c := fun y => row w (f y)) (n := 1) (l := List.range h) (fun y _ => by
    unfold row
    rw [dep]
    have := deps_on (c := fun x => D.int (f y x)) (n := 0) (l := List.range w) (fun x _ => by simp [dep])
    omega)
  omega
theorem Ok.turn (o : Ok w h f) : Ok h w (fun y x => f x y) := ⟨o.h1, o.h2, o.w1, o.w2, fun y hy x hx => o.c x hx y hy⟩
theorem Ok.mirror (o : Ok w h f) : Ok w h (fun y x => f y (w - 1 - x)) := ⟨o.w1, o.w2, o.h1, o.h2, fun y hy x hx => o.c y hy _ (by omega)⟩
theorem sum_flat : ∀ {l : List (List Int)}, l.flatten.sum = (l.map List.sum).sum
  | [] => rfl
  | a :: l => by rw [List.flatten_cons, List.sum_append, List.map_cons, List.sum_cons, sum_flat]
end
abbrev sm (h : Nat) (s : Nat → Nat) : D := row h fun y => ((s y : Nat) : Int)
section
variable {ρ : Rho} {fa : Rho → R (List D)} {α : Type} {l : List α} {p q r : α → D} {x y z : D}
theorem ev_addL {xs ys : List D} (h : xs.length + ys.length ≤ 1000000) : addD (.lst xs) (.lst ys) = .ok (.lst (xs ++ ys)) := by
  rw [addD, if_pos h]
end
section
variable {w h : Nat} {g : Nat → Int} {n : Nat} {c : Int}
end
section
variable {w h : Nat} {f : Nat → Nat → Int} {s : Nat → Nat}
theorem len0 (o : Ok w h f) {ρ : Rho} {u : Rho → R D} (e : u ρ = .ok (pic w h f)) : callV lenD (consA (bin u (fun _ => .ok (.int 0)) ixD) (fun _ => .ok [])) ρ = .ok (.int (w : Int)) := by
  refine ev_call (ev_one (ev_bin e rfl (ev_ix (i := 0) (d := row w (f 0)) ?_))) ?_
  · rw [List.getElem?_map, List.getElem?_range o.h1]; rfl
  · simp [row, lenD]
def more (s : Nat → Nat) (c : Nat → Int) (f : Nat → Nat → Int) : Nat → Nat → Int := fun y x => if x < s y then f y x else if x = s y then c y else f y (x - 1)
end
def pl (ps : List Nat) : List D := ps.map fun p => .int ((p : Nat) : Int)
structure Good (w : Nat) (ps : List Nat) : Prop where
  lt : ∀ p ∈ ps, p < w
  st : ∀ i a b, ps[i]? = some a → ps[i + 1]? = some b → b ≤ a + 1 ∧ a ≤ b + 1
theorem Good.snoc {w : Nat} {ps : List Nat} {l p : Nat} (g : Good w (ps ++ [l])) (h1 : p < w) (h2 : p ≤ l + 1 ∧ l ≤ p + 1) : Good w (ps ++ [l] ++ [p]) := by
  refine ⟨fun q hq => ?_, fun i a b ha hb => ?_⟩
  · rcases List.mem_append.mp hq with h | h
    · exact g.lt q h
    · rw [List.mem_singleton.mp h]; exact h1
  · by_cases hi : i + 1 < (ps ++ [l]).length
    · rw [List.getElem?_append_left hi] at hb
      rw [List.getElem?_append_left (by omega)] at ha
      exact g.st i a b ha hb
    · have hl : i + 1 < (ps ++ [l] ++ [p]).length := (List.getElem?_eq_some_iff.mp hb).1
      simp only [List.length_append, List.length_cons, List.length_nil] at hl hi
      have hi : i = ps.length := by omega
      subst hi
      rw [List.getElem?_append_left (by simp), List.getElem?_append_right (by simp)] at ha
      rw [List.getElem?_append_right (by simp)] at hb
      simp at ha hb
      subst ha hb
      exact h2
section
variable {ns : List Int} {a : Int} {w h : Nat} {t : Option Ent}
end
section
variable {w h : Nat} {f : Nat → Nat → Int}
end
section
variable {w h : Nat} {f : Nat → Nat → Int} {s : Nat → Nat} {c : Nat → Int}
theorem Ok.more (o : Ok w h f) (h1 : w < 20) (q : ∀ y < h, s y ≤ w) (hc : ∀ y < h, 0 ≤ c y ∧ c y ≤ 99) : Ok (w + 1) h (more s c f) := by
  refine ⟨by omega, by omega, o.h1, o.h2, fun y hy x hx => ?_⟩
  have := q y hy
  unfold K01.more
  split
  · exact o.c y hy x (by omega)
  · split
    · exact hc y hy
    · exact o.c y hy (x - 1) (by omega)
end
end K01
namespace K01
open PySem PySem.Spec L2 Pu
section
variable {w h : Nat} {f : Nat → Nat → Int}
def rows (w h : Nat) (f : Nat → Nat → Int) : List (List Int) := (List.range h).map fun y => (List.range w).map (f y)
def cells (w h : Nat) (f : Nat → Nat → Int) : List Int := (rows w h f).flatten
def bodyC : Rho → So := dputS 1 (fun ρ => getV ρ 3) (bin (dgetV 1 (fun ρ => getV ρ 3) (fun _ => .ok (.int 0))) (fun _ => .ok (.int 1)) catD)
theorem bump_len {c : Int} : ∀ {ps : List (Int × Int)}, (bumpN ps c).length ≤ ps.length + 1
  | [] => by simp [bumpN]
  | (k, v) :: r => by
    rw [bumpN]
    split
    · simp
    · have := bump_len (c := c) (ps := r)
      simp only [List.length_cons]; omega
theorem body_eq {P r : Option Ent} {c : Int} {ps : List (Int × Int)} (hn : (keys ps).Nodup) (hl : ps.length < 1000000) :
    bodyC [P, some (.dic (ps.map emb)), r, some (.val (.int c))] = .nx [P, some (.dic ((bumpN ps c).map emb)), r, some (.val (.int c))] := by
  have e1 : dgetV 1 (fun ρ => getV ρ 3) (fun _ => .ok (.int 0)) [P, some (.dic (ps.map emb)), r, some (.val (.int c))] = .ok (.int (look ps c)) := by
    show R.ok ((valD (ps.map emb) (Sum.inl c)).getD (.int 0)) = _
    rw [valD_look]
  have e2 : bin (dgetV 1 (fun ρ => getV ρ 3) (fun _ => .ok (.int 0))) (fun _ => .ok (.int 1)) catD [P, some (.dic (ps.map emb)), r, some (.val (.int c))] = .ok (.int (look ps c + 1)) := ev_bin e1 rfl rfl
  unfold bodyC dputS
  rw [e2]
  show (if (ps.map emb).length < 1000000 then So.nx [P, some (.dic (putD (ps.map emb) (Sum.inl c) (.int (look ps c + 1)))), r, some (.val (.int c))] else .bad) = _
  rw [if_pos (by rw [List.length_map]; exact hl), putD_bump hn]
theorem inner_eq {P r : Option Ent} : ∀ {l : List Int} {x : Option Ent} {ps : List (Int × Int)}, (keys ps).Nodup → ps.length + l.length ≤ 1000000 →
    ∃ x', forL (setV 3) bodyC (l.map .int) [P, some (.dic (ps.map emb)), r, x] = .nx [P, some (.dic ((l.foldl bumpN ps).map emb)), r, x']
  | [], x, ps, _, _ => ⟨x, rfl⟩
  | c :: l, x, ps, hn, hl => by
    rw [List.length_cons] at hl
    obtain ⟨x', e⟩ := inner_eq (P := P) (r := r) (l := l) (x := some (.val (.int c))) (ps := bumpN ps c) (bump_nd hn) (by have := bump_len (c := c) (ps := ps); omega)
    refine ⟨x', ?_⟩
    rw [List.foldl_cons, ← e, List.map_cons, forL]
    show (match bodyC [P, some (.dic (ps.map emb)), r, some (.val (.int c))] with
      | .nx ρ2 => forL (setV 3) bodyC (l.map .int) ρ2
      | .ct ρ2 => forL (setV 3) bodyC (l.map .int) ρ2
      | .bk ρ2 => .nx ρ2
      | o => o) = _
    rw [body_eq hn (by omega)]
theorem fold_len {l : List Int} : ∀ {ps : List (Int × Int)}, (l.foldl bumpN ps).length ≤ ps.length + l.length := by
  induction l with
  | nil => intro ps; simp
  | cons c l ih =>
    intro ps
    have := ih (ps := bumpN ps c)
    have := bump_len (c := c) (ps := ps)
    rw [List.foldl_cons, List.length_cons]; omega
theorem fold_nd {l : List Int} : ∀ {ps : List (Int × Int)}, (keys ps).Nodup → (keys (l.foldl bumpN ps)).Nodup := by
  induction l with
  | nil => intro ps h; exact h
  | cons c l ih => intro ps h; exact ih (bump_nd h)
theorem outer_eq {P : Option Ent} : ∀ {L : List (List Int)} {r x : Option Ent} {ps : List (Int × Int)}, (keys ps).Nodup → ps.length + L.flatten.length ≤ 1000000 →
    ∃ r' x', forL (setV 2) (forS (seqI (fun ρ => getV ρ 2)) (setV 3) bodyC) (L.map fun l => .tup (l.map .int)) [P, some (.dic (ps.map emb)), r, x] = .nx [P, some (.dic ((L.flatten.foldl bumpN ps).map emb)), r', x']
  | [], r, x, ps, _, _ => ⟨r, x, rfl⟩
  | l :: L, r, x, ps, hn, hl => by
    rw [List.flatten_cons, List.length_append] at hl
    obtain ⟨x1, e1⟩ := inner_eq (P := P) (r := some (.val (.tup (l.map .int)))) (l := l) (x := x) hn (by omega)
    obtain ⟨r', x', e⟩ := outer_eq (P := P) (L := L) (r := some (.val (.tup (l.map .int)))) (x := x1) (ps := l.foldl bumpN ps) (fold_nd hn) (by have := fold_len (l := l) (ps := ps); omega)
    refine ⟨r', x', ?_⟩
    rw [List.flatten_cons, List.foldl_append, ← e, List.map_cons, forL]
    show (match forL (setV 3) bodyC (l.map .int) [P, some (.dic (ps.map emb)), some (.val (.tup (l.map .int))), x] with
      | .nx ρ2 => forL (setV 2) (forS (seqI (fun ρ => getV ρ 2)) (setV 3) bodyC) (L.map fun (l : List Int) => D.tup (l.map D.int)) ρ2
      | .ct ρ2 => forL (setV 2) (forS (seqI (fun ρ => getV ρ 2)) (setV 3) bodyC) (L.map fun (l : List Int) => D.tup (l.map D.int)) ρ2
      | .bk ρ2 => .nx ρ2
      | o => o) = _
    rw [e1]
theorem rows_eq : pic w h f = .tup ((rows w h f).map fun l => .tup (l.map .int)) := by
  simp only [pic, rows, row, List.map_map, Function.comp_def]
theorem cells_len : (cells w h f).length = h * w := by
  rw [cells, rows, List.length_flatten, List.map_map]
  have : (List.length ∘ fun y => (List.range w).map (f y)) = fun _ => w := by funext y; simp
  rw [this, List.map_const', List.sum_replicate_nat, List.length_range]
theorem counted_eq (o : Ok w h f) {m : List Int} (hm : m.length < 64) (hc : ∀ c ∈ cells w h f, c ∈ m) : F_counted [pic w h f] = .ok (.lst ((tal (cells w h f)).map pairD)) := by
  have hlen : h * w ≤ 20 * 20 := Nat.mul_le_mul o.h2 o.w2
  obtain ⟨r', x', e⟩ := outer_eq (P := some (.val (pic w h f))) (L := rows w h f) (r := none) (x := none) (ps := []) (by simp) (by rw [List.length_nil]; have := cells_len (w := w) (h := h) (f := f); rw [cells] at this; omega)
  refine ev_rt (ev_seq (ev_expr (ev_fnX (ev_one rfl) (need_eq o))) (ev_seq rfl (ev_seq (ρ' := [some (.val (pic w h f)), some (.dic ((tally (cells w h f)).map emb)), r', x']) ?_ (ev_ret ?_))))
  · unfold forS
    rw [ev_seqT (ds := (rows w h f).map fun l => .tup (l.map .int)) (congrArg R.ok rows_eq)]
    exact e
  · show (match pairsI ((tally (cells w h f)).map emb) with
      | some ps => if ps.length < 64 ∧ 0 < ps.length then R.ok (D.lst ((sortP ps).map pairD)) else .bad
      | none => .bad) = _
    rw [pairsI_emb]
    have t := tally_tal (cells w h f)
    have h1 := t.few hc
    have h2 : 0 < (tally (cells w h f)).length := t.some (by rw [cells_len]; exact Nat.mul_pos o.h1 o.w1)
    show (if _ then _ else _) = _
    rw [if_pos ⟨by omega, h2⟩]; rfl
end
end K01
namespace K01
open PySem PySem.Spec L2 Pu
section
variable {ns : List Int} {w h : Nat} {f : Nat → Nat → Int} {ρ : Rho}
theorem len_pic : lenD [pic w h f] = .ok (.int (h : Int)) := by simp [pic, lenD]
theorem lawturned_eq (o : Ok w h f) : F__law_turned [pic w h f] = .ok (pic h w fun y x => f x y) := by
  have h20 := o.h2
  have w20 := o.w2
  refine ev_rt (ev_ret (ev_call (ev_one (comp_on (c := fun (x : Nat) => D.int (x : Int)) (h := fun x => row h fun y => f y x) (l := List.range w) (ev_rng (ev_one (len0 o rfl)) (by omega)) (by rw [List.length_range]; omega) fun x hx => ?_)) rfl))
  refine ev_elt rfl (ev_call (ev_one (comp_on (c := fun y => row w (f y)) (h := fun y => .int (f y x)) (l := List.range h) (ev_seqT rfl) (by rw [List.length_range]; omega) fun y hy => ?_)) rfl)
  refine ev_elt rfl (ev_bin rfl rfl (ev_ix (i := x) ?_))
  rw [List.getElem?_map, List.getElem?_range (List.mem_range.mp hx)]; rfl
theorem fla_loop {e0 e1 e2 e3 e6 : Option Ent} : ∀ {L : List (List Int)} {acc : List Int} {e5 : Option Ent}, acc.length + L.flatten.length ≤ 1000 →
    ∃ z5, forL (setV 5) flaB (L.map fun l => D.tup (l.map .int)) [e0, e1, e2, e3, vA (.lst (acc.map .int)), e5, e6] = .nx [e0, e1, e2, e3, vA (.lst ((acc ++ L.flatten).map .int)), z5, e6]
  | [], acc, e5, _ => ⟨e5, by simp [forL]⟩
  | l :: L, acc, e5, hl => by
    rw [List.flatten_cons, List.length_append] at hl
    obtain ⟨z5, e⟩ := fla_loop (e0 := e0) (e1 := e1) (e2 := e2) (e3 := e3) (e6 := e6) (L := L) (acc := acc ++ l) (e5 := vA (.tup (l.map .int))) (by rw [List.length_append]; omega)
    refine ⟨z5, forL_cons rfl (ev_asg (d := .lst ((acc ++ l).map .int)) (ev_bin rfl (ev_call (ev_one rfl) rfl) ?_) rfl) (e.trans ?_)⟩
    · rw [ev_addL (by simp; omega), List.map_append]
    · rw [List.flatten_cons, List.append_assoc]
theorem cells_few (hw : w ≤ 9) (hh : h ≤ 7) : (cells w h f).length < 64 := by
  rw [cells_len]
  have : h * w ≤ 7 * 9 := Nat.mul_le_mul hh hw
  omega
theorem badB_eq {e0 e1 e2 e3 e4 e5 e6 : Option Ent} : badB [e0, e1, e2, e3, e4, e5, e6] = .rt (.bl true) := by
  kernel_rfl
end
theorem law_true (ns : List Int) (hns : ns.length ≤ 63) : F_law [.lst (ns.map .int)] = .ok (.bl true) := by
  have hn : ns.length ≤ 1000000 := by omega
  obtain ⟨w, h, f, e1, o, hw, hh⟩ := some_eq (ns := ns) hn
  have h20 := o.h2
  have w20 := o.w2
  have hc := cells_few (f := f) hw hh
  obtain ⟨z5, el⟩ := fla_loop (e0 := vA (.lst (ns.map .int))) (e1 := vA (pic w h f)) (e2 := vA (.int (w : Int))) (e3 := vA (.int (h : Int))) (e6 := none) (L := rows w h f) (acc := []) (e5 := none) (by show (0 : Nat) + (cells w h f).length ≤ 1000; omega)
  rw [List.nil_append] at el
  have ec := counted_eq o (m := cells w h f) hc fun c z => z
  have hd : dep (.lst ((tal (cells w h f)).map pairD)) ≤ 40 := by
    rw [dep]
    have := deps_on (c := pairD) (n := 1) (l := tal (cells w h f)) fun p _ => by simp [pairD, dep, deps]
    omega
  refine ev_rt (ev_seq (ev_asg (ev_fn (ev_cons rfl (ev_cons rfl (ev_cons rfl (ev_one rfl)))) e1) rfl) ?_)
  refine ev_seq (ev_parS (len0 o rfl) (ev_call (ev_one rfl) len_pic)) ?_
  refine ev_seq (ev_ifF (ev_orF (ev_tst (b := false) (ev_bin (ev_fn (ev_one rfl) (is_picture_eq o)) rfl rfl)) (ev_tst (ev_bin (ev_fnX (ev_one rfl) (size_eq o)) (ev_tup (ev_cons rfl (ev_one rfl))) (neK_same rfl (by simp [dep, deps]))))) rfl) ?_
  refine ev_seq (ev_ifF (ev_tst (ev_bin (ev_fnX (ev_one rfl) (turned_eq o)) (ev_fn (ev_one rfl) (lawturned_eq o)) (neK_same rfl dep_pic))) rfl) ?_
  refine ev_seq (ev_ifF (ev_tst (ev_bin (ev_fnX (ev_one rfl) (mirrored_eq o)) (ev_call (ev_one (comp_on (c := fun y => row w (f y)) (h := fun y => row w fun x => f y (w - 1 - x)) (l := List.range h) (ev_seqT rfl) (by rw [List.length_range]; omega) fun y hy => ev_elt rfl ((ev_rev rfl).trans (by rw [range_rev]; rfl)))) rfl) (neK_same rfl dep_pic))) rfl) ?_
  refine ev_seq (ev_asg (ev_lst rfl) rfl) ?_
  refine ev_seq (ev_for (ev_seqT (ds := (rows w h f).map fun l => .tup (l.map .int)) (congrArg R.ok rows_eq)) el) ?_
  refine ev_seq (ev_ifF (ev_tst (ev_bin (ev_fnX (ev_one rfl) ec) (comp_on (c := D.int) (h := fun c => D.tup [.int c, .int ((cells w h f).count c : Nat)]) (l := srt (ddp (cells w h f))) (ev_seqL (ev_call (ev_one rfl) (ev_sortSet hc))) ?_ fun c _ => ev_elt rfl (ev_tup (ev_cons rfl (ev_one (ev_cntV rfl rfl))))) (neK_same ?_ hd))) rfl) ?_
  · have := (srt_perm (ddp (cells w h f))).length_eq
    have h2 := nd_len (ddp_nd (l := cells w h f)) fun x hx => mem_ddp.mp hx
    omega
  · rw [tal_srt, List.map_map]; rfl
  refine ev_seq (ev_ifF (ev_tst (ev_bin (ev_fnX (ev_one rfl) (brightness_eq o)) (ev_call (ev_one (x := .lst ((cells w h f).map fun i => D.int i)) rfl) (ev_sumL (c := fun i => i))) (neK_same ?_ (by simp [dep])))) rfl) ?_
  · unfold cells rows
    rw [List.map_id', sum_flat, List.map_map]; rfl
  exact badB_eq
end K01
namespace K01
open PySem PySem.Spec L2 Pu
open PyProof.Rows hiding St
theorem lcn {us : List Value} {n : Nat} (hl : us.length = n + 1) : ∃ a u, us = a :: u ∧ u.length = n := by
  cases us with
  | nil => cases hl
  | cons a u => exact ⟨a, u, rfl, Nat.succ.inj hl⟩
theorem lk1 {F : FuncData} {ps : List Str} {us : List Value} (hl : us.length = 1) (h : ∀ a0, bindArgs F ⟨[a0], []⟩ = pure (ps.zip [a0])) : bindArgs F ⟨us, []⟩ = pure (ps.zip us) := by
  obtain ⟨a0, u1, rfl, h1⟩ := lcn hl
  cases List.eq_nil_of_length_eq_zero h1
  exact h a0
theorem lk2 {F : FuncData} {ps : List Str} {us : List Value} (hl : us.length = 2) (h : ∀ a0 a1, bindArgs F ⟨[a0, a1], []⟩ = pure (ps.zip [a0, a1])) : bindArgs F ⟨us, []⟩ = pure (ps.zip us) := by
  obtain ⟨a0, u1, rfl, h1⟩ := lcn hl
  obtain ⟨a1, u2, rfl, h2⟩ := lcn h1
  cases List.eq_nil_of_length_eq_zero h2
  exact h a0 a1
theorem lk3 {F : FuncData} {ps : List Str} {us : List Value} (hl : us.length = 3) (h : ∀ a0 a1 a2, bindArgs F ⟨[a0, a1, a2], []⟩ = pure (ps.zip [a0, a1, a2])) : bindArgs F ⟨us, []⟩ = pure (ps.zip us) := by
  obtain ⟨a0, u1, rfl, h1⟩ := lcn hl
  obtain ⟨a1, u2, rfl, h2⟩ := lcn h1
  obtain ⟨a2, u3, rfl, h3⟩ := lcn h2
  cases List.eq_nil_of_length_eq_zero h3
  exact h a0 a1 a2
theorem lk4 {F : FuncData} {ps : List Str} {us : List Value} (hl : us.length = 4) (h : ∀ a0 a1 a2 a3, bindArgs F ⟨[a0, a1, a2, a3], []⟩ = pure (ps.zip [a0, a1, a2, a3])) : bindArgs F ⟨us, []⟩ = pure (ps.zip us) := by
  obtain ⟨a0, u1, rfl, h1⟩ := lcn hl
  obtain ⟨a1, u2, rfl, h2⟩ := lcn h1
  obtain ⟨a2, u3, rfl, h3⟩ := lcn h2
  obtain ⟨a3, u4, rfl, h4⟩ := lcn h3
  cases List.eq_nil_of_length_eq_zero h4
  exact h a0 a1 a2 a3
def top (i : Nat) : Stmt := PySem.Challenge.pw_seamhall_k01_pictures.main.body.getD i (.Pass ⟨0, 0, 0, 0⟩)
abbrev s_is_line : Stmt := top 9
theorem sc_is_line : FnScope ["thing"] ["thing"] (defScope s_is_line) := ⟨rfl, rfl, rfl, by decide +kernel, rfl, by decide +kernel, by decide +kernel⟩
abbrev s_is_whole : Stmt := top 7
theorem sc_is_whole : FnScope ["thing"] ["thing"] (defScope s_is_whole) := ⟨rfl, rfl, rfl, by decide +kernel, rfl, by decide +kernel, by decide +kernel⟩
abbrev s_is_cell : Stmt := top 8
theorem sc_is_cell : FnScope ["thing"] ["thing"] (defScope s_is_cell) := ⟨rfl, rfl, rfl, by decide +kernel, rfl, by decide +kernel, by decide +kernel⟩
abbrev s_is_row : Stmt := top 10
theorem sc_is_row : FnScope ["thing"] ["thing"] (defScope s_is_row) := ⟨rfl, rfl, rfl, by decide +kernel, rfl, by decide +kernel, by decide +kernel⟩
abbrev s_is_picture : Stmt := top 11
theorem sc_is_picture : FnScope ["thing"] ["thing"] (defScope s_is_picture) := ⟨rfl, rfl, rfl, by decide +kernel, rfl, by decide +kernel, by decide +kernel⟩
abbrev s_need_picture : Stmt := top 12
theorem sc_need_picture : FnScope ["thing"] ["thing"] (defScope s_need_picture) := ⟨rfl, rfl, rfl, by decide +kernel, rfl, by decide +kernel, by decide +kernel⟩
abbrev s_brightness : Stmt := top 17
theorem sc_brightness : FnScope ["picture"] ["picture"] (defScope s_brightness) := ⟨rfl, rfl, rfl, by decide +kernel, rfl, by decide +kernel, by decide +kernel⟩
abbrev s_counted : Stmt := top 16
theorem sc_counted : FnScope ["picture", "often", "row", "cell"] ["picture"] (defScope s_counted) := ⟨rfl, rfl, rfl, by decide +kernel, rfl, by decide +kernel, by decide +kernel⟩
abbrev s_mirrored : Stmt := top 15
theorem sc_mirrored : FnScope ["picture"] ["picture"] (defScope s_mirrored) := ⟨rfl, rfl, rfl, by decide +kernel, rfl, by decide +kernel, by decide +kernel⟩
abbrev s_size_of : Stmt := top 13
theorem sc_size_of : FnScope ["picture"] ["picture"] (defScope s_size_of) := ⟨rfl, rfl, rfl, by decide +kernel, rfl, by decide +kernel, by decide +kernel⟩
abbrev s_turned : Stmt := top 14
theorem sc_turned : FnScope ["picture", "wide", "high"] ["picture"] (defScope s_turned) := ⟨rfl, rfl, rfl, by decide +kernel, rfl, by decide +kernel, by decide +kernel⟩
abbrev s__law_no : Stmt := top 23
theorem sc__law_no : FnScope ["_law_way", "_law_thing", "e"] ["_law_way", "_law_thing"] (defScope s__law_no) := ⟨rfl, rfl, rfl, by decide +kernel, rfl, by decide +kernel, by decide +kernel⟩
abbrev s__law_drawn : Stmt := top 19
theorem sc__law_drawn : FnScope ["_law_script", "_law_k", "_law_many", "_law_cell", "_law_turn", "_law_rest"] ["_law_script", "_law_k", "_law_many"] (defScope s__law_drawn) := ⟨rfl, rfl, rfl, by decide +kernel, rfl, by decide +kernel, by decide +kernel⟩
abbrev s__law_picture : Stmt := top 20
theorem sc__law_picture : FnScope ["_law_script", "_law_at", "_law_broad", "_law_tall", "_law_most", "_law_rows", "_law_y"] ["_law_script", "_law_at", "_law_broad", "_law_tall"] (defScope s__law_picture) := ⟨rfl, rfl, rfl, by decide +kernel, rfl, by decide +kernel, by decide +kernel⟩
abbrev s__law_some : Stmt := top 21
theorem sc__law_some : FnScope ["_law_script", "_law_at", "_law_broad", "_law_tall"] ["_law_script", "_law_at", "_law_broad", "_law_tall"] (defScope s__law_some) := ⟨rfl, rfl, rfl, by decide +kernel, rfl, by decide +kernel, by decide +kernel⟩
abbrev s__law_turned : Stmt := top 22
theorem sc__law_turned : FnScope ["_law_rows"] ["_law_rows"] (defScope s__law_turned) := ⟨rfl, rfl, rfl, by decide +kernel, rfl, by decide +kernel, by decide +kernel⟩
abbrev s_law : Stmt := top 24
theorem sc_law : FnScope ["_law_script", "_law_picture_here", "_law_broad", "_law_tall", "_law_cells", "_law_row", "_law_bad"] ["_law_script"] (defScope s_law) := ⟨rfl, rfl, rfl, by decide +kernel, rfl, by decide +kernel, by decide +kernel⟩
structure Txt (K : PySem.W.Frag) (mg : Str → Option Value) : Prop where
  x_MOST_CELL : ∃ t, mg "MOST_CELL" = some (.int 99 t)
  x_MOST_LONG : ∃ t, mg "MOST_LONG" = some (.int 20 t)
  n_ValueError : mg "ValueError" = none
  n_all : mg "all" = none
  n_bool : mg "bool" = none
  n_int : mg "int" = none
  n_isinstance : mg "isinstance" = none
  n_len : mg "len" = none
  n_list : mg "list" = none
  n_range : mg "range" = none
  n_set : mg "set" = none
  n_sorted : mg "sorted" = none
  n_sum : mg "sum" = none
  n_tuple : mg "tuple" = none
  k_int : ∀ d : D, PySem.W.kitOne K (.type (tyD d)) (.type "int") = some (ans_int (tyD d))
  k_bool : ∀ d : D, PySem.W.kitOne K (.type (tyD d)) (.type "bool") = some (ans_bool (tyD d))
  k_tuple : ∀ d : D, PySem.W.kitOne K (.type (tyD d)) (.type "tuple") = some (ans_tuple (tyD d))
  k_list : ∀ d : D, PySem.W.kitOne K (.type (tyD d)) (.type "list") = some (ans_list (tyD d))
  g_NoPicture : ∃ C, XCl K mg "NoPicture" C
  t_SeamError : ∃ C, mg "SeamError" = some (.ref C) ∧ ∀ c C', subX c "SeamError" = true → PySem.W.nsIn K mainGlobals c = some (some (.ref C')) → PySem.W.exmOne K (.ref C') (.ref C) = some true
  i_NoMarks : ∃ C, mg "NoMarks" = some (.ref C) ∧ ∀ c C', subX c c = true → PySem.W.nsIn K mainGlobals c = some (some (.ref C')) → XIn K C' ∧ PySem.W.kitOne K (.ref C') (.ref C) = some (subX c "NoMarks")
  i_NoPicture : ∃ C, mg "NoPicture" = some (.ref C) ∧ ∀ c C', subX c c = true → PySem.W.nsIn K mainGlobals c = some (some (.ref C')) → XIn K C' ∧ PySem.W.kitOne K (.ref C') (.ref C) = some (subX c "NoPicture")
  i_ValueError : ∀ c C', subX c c = true → PySem.W.nsIn K mainGlobals c = some (some (.ref C')) → XIn K C' ∧ PySem.W.kitOne K (.ref C') (.type "ValueError") = some (subX c "ValueError")
section
variable {P : Program} {w : World} {K : PySem.W.Frag} {mg : Str → Option Value} {base : Heap}
theorem bd_is_line {f : Addr} {cdv : Value} {A : Around} {outer : List PySem.Env} {s : Shared} {H : Hp} {E : XK} (T : Txt K mg)  (hr : Room 0 (A.deeper (envOfC "is_line" (defScope s_is_line) s.heap.objs.size f cdv))) : DSs (cxOf CX0 P w K mg base ["thing"] "is_line" (defScope s_is_line) f cdv A outer s H E).nox (defBody s_is_line) g_is_line := by
  obtain ⟨t_MOST_LONG, c_MOST_LONG⟩ := T.x_MOST_LONG
  exact (dss_one (ds_ret (de_and (de_inst (ans := ans_tuple) T.k_tuple (dv 0) rfl T.n_isinstance boot_isinstance rfl T.n_tuple boot_tuple) (de_one (de_chain od_le od_le de_int (de_callB cd_len rfl T.n_len PySem.boot_len (da_cons (dv 0) da_nil)) (de_gint rfl c_MOST_LONG))))))
theorem ok_is_line {f : Addr} {fd : FuncData} (Fn : Fun K "is_line" "is_line" s_is_line f fd) (hmg : mg "is_line" = some (.ref f)) (hb : Binds K fd ["thing"] []) (T : Txt K mg)  : FnD P w K mg base 1 "is_line" 1 F_is_line :=
  fnD_of (k := 0) (g := g_is_line) Fn hmg hb sc_is_line rfl rfl fun cdv A outer s H E hr => bd_is_line T  hr
theorem bd_is_whole {f : Addr} {cdv : Value} {A : Around} {outer : List PySem.Env} {s : Shared} {H : Hp} {E : XK} (T : Txt K mg)  (hr : Room 0 (A.deeper (envOfC "is_whole" (defScope s_is_whole) s.heap.objs.size f cdv))) : DSs (cxOf CX0 P w K mg base ["thing"] "is_whole" (defScope s_is_whole) f cdv A outer s H E).nox (defBody s_is_whole) g_is_whole := by
  exact (dss_one (ds_ret (de_and (de_inst (ans := ans_int) T.k_int (dv 0) rfl T.n_isinstance boot_isinstance rfl T.n_int boot_int) (de_one (de_not (de_inst (ans := ans_bool) T.k_bool (dv 0) rfl T.n_isinstance boot_isinstance rfl T.n_bool boot_bool))))))
theorem ok_is_whole {f : Addr} {fd : FuncData} (Fn : Fun K "is_whole" "is_whole" s_is_whole f fd) (hmg : mg "is_whole" = some (.ref f)) (hb : Binds K fd ["thing"] []) (T : Txt K mg)  : FnD P w K mg base 1 "is_whole" 1 F_is_whole :=
  fnD_of (k := 0) (g := g_is_whole) Fn hmg hb sc_is_whole rfl rfl fun cdv A outer s H E hr => bd_is_whole T  hr
theorem bd_is_cell {f : Addr} {cdv : Value} {A : Around} {outer : List PySem.Env} {s : Shared} {H : Hp} {E : XK} (T : Txt K mg) (G_is_whole : FnD P w K mg base 1 "is_whole" 1 F_is_whole) (hr : Room 1 (A.deeper (envOfC "is_cell" (defScope s_is_cell) s.heap.objs.size f cdv))) : DSs (cxOf CX0 P w K mg base ["thing"] "is_cell" (defScope s_is_cell) f cdv A outer s H E).nox (defBody s_is_cell) g_is_cell := by
  obtain ⟨t_MOST_CELL, c_MOST_CELL⟩ := T.x_MOST_CELL
  exact (dss_one (ds_ret (de_and (de_fn G_is_whole hr (by decide) (da_cons (dv 0) da_nil)) (de_one (de_chain od_le od_le de_int (dv 0) (de_gint rfl c_MOST_CELL))))))
theorem ok_is_cell {f : Addr} {fd : FuncData} (Fn : Fun K "is_cell" "is_cell" s_is_cell f fd) (hmg : mg "is_cell" = some (.ref f)) (hb : Binds K fd ["thing"] []) (T : Txt K mg) (G_is_whole : FnD P w K mg base 1 "is_whole" 1 F_is_whole) : FnD P w K mg base 2 "is_cell" 1 F_is_cell :=
  fnD_of (k := 1) (g := g_is_cell) Fn hmg hb sc_is_cell rfl rfl fun cdv A outer s H E hr => bd_is_cell T G_is_whole hr
theorem bd_is_row {f : Addr} {cdv : Value} {A : Around} {outer : List PySem.Env} {s : Shared} {H : Hp} {E : XK} (T : Txt K mg) (G_is_cell : FnD P w K mg base 2 "is_cell" 1 F_is_cell) (G_is_line : FnD P w K mg base 1 "is_line" 1 F_is_line) (hr : Room 2 (A.deeper (envOfC "is_row" (defScope s_is_row) s.heap.objs.size f cdv))) : DSs (cxOf CX0 P w K mg base ["thing"] "is_row" (defScope s_is_row) f cdv A outer s H E).nox (defBody s_is_row) g_is_row := by
  exact (dss_one (ds_ret (de_and (de_fn G_is_line hr (by decide) (da_cons (dv 0) da_nil)) (de_one (de_callB (cd_all rfl) rfl T.n_all boot_all (da_cons (de_comp ["cell"] [] rfl (by kernel_rfl) (by kernel_rfl) (di_seq (dv 0)) (keeps_set (by decide)) (fun _ _ _ _ nd => dg_name 0 nd) (fun _ _ _ _ => dts_nil) (fun _ _ _ _ => (de_fn G_is_cell hr (by decide) (da_cons (dv 0) da_nil)))) da_nil))))))
theorem ok_is_row {f : Addr} {fd : FuncData} (Fn : Fun K "is_row" "is_row" s_is_row f fd) (hmg : mg "is_row" = some (.ref f)) (hb : Binds K fd ["thing"] []) (T : Txt K mg) (G_is_cell : FnD P w K mg base 2 "is_cell" 1 F_is_cell) (G_is_line : FnD P w K mg base 1 "is_line" 1 F_is_line) : FnD P w K mg base 3 "is_row" 1 F_is_row :=
  fnD_of (k := 2) (g := g_is_row) Fn hmg hb sc_is_row rfl rfl fun cdv A outer s H E hr => bd_is_row T G_is_cell G_is_line hr
theorem bd_is_picture {f : Addr} {cdv : Value} {A : Around} {outer : List PySem.Env} {s : Shared} {H : Hp} {E : XK} (T : Txt K mg) (G_is_line : FnD P w K mg base 1 "is_line" 1 F_is_line) (G_is_row : FnD P w K mg base 3 "is_row" 1 F_is_row) (hr : Room 3 (A.deeper (envOfC "is_picture" (defScope s_is_picture) s.heap.objs.size f cdv))) : DSs (cxOf CX0 P w K mg base ["thing"] "is_picture" (defScope s_is_picture) f cdv A outer s H E).nox (defBody s_is_picture) g_is_picture := by
  exact (dss_cons (ds_if (DW.dt (dw_or (dt_not (dt_val (de_fn G_is_line hr (by decide) (da_cons (dv 0) da_nil)))) (dw_or1 (dt_not (dt_val (de_callB (cd_all rfl) rfl T.n_all boot_all (da_cons (de_comp ["row"] [] rfl (by kernel_rfl) (by kernel_rfl) (di_seq (dv 0)) (keeps_set (by decide)) (fun _ _ _ _ nd => dg_name 0 nd) (fun _ _ _ _ => dts_nil) (fun _ _ _ _ => (de_fn G_is_row hr (by decide) (da_cons (dv 0) da_nil)))) da_nil))))))) (dss_one (ds_ret de_bl)) dss_nil) (dss_one (ds_ret (de_callB (cd_all rfl) rfl T.n_all boot_all (da_cons (de_comp ["row"] [0] rfl (by kernel_rfl) (by kernel_rfl) (di_seq (dv 0)) (keeps_set (by decide)) (fun _ _ _ _ nd => dg_name 0 nd) (fun _ _ _ _ => dts_nil) (fun _ _ _ _ => (de_cmp (od_eq (room_u hr)) (de_callB cd_len rfl T.n_len PySem.boot_len (da_cons (dv 0) da_nil)) (de_callB cd_len rfl T.n_len PySem.boot_len (da_cons (de_ix (dv 1) de_int) da_nil))))) da_nil)))))
theorem ok_is_picture {f : Addr} {fd : FuncData} (Fn : Fun K "is_picture" "is_picture" s_is_picture f fd) (hmg : mg "is_picture" = some (.ref f)) (hb : Binds K fd ["thing"] []) (T : Txt K mg) (G_is_line : FnD P w K mg base 1 "is_line" 1 F_is_line) (G_is_row : FnD P w K mg base 3 "is_row" 1 F_is_row) : FnD P w K mg base 4 "is_picture" 1 F_is_picture :=
  fnD_of (k := 3) (g := g_is_picture) Fn hmg hb sc_is_picture rfl rfl fun cdv A outer s H E hr => bd_is_picture T G_is_line G_is_row hr
theorem bd_need_picture {f : Addr} {cdv : Value} {A : Around} {outer : List PySem.Env} {s : Shared} {H : Hp} {E : XK} (T : Txt K mg) (G_is_picture : FnD P w K mg base 4 "is_picture" 1 F_is_picture) (hr : Room 4 (A.deeper (envOfC "need_picture" (defScope s_need_picture) s.heap.objs.size f cdv))) : DSs (cxOf (CX1 P w) P w K mg base ["thing"] "need_picture" (defScope s_need_picture) f cdv A outer s H E) (defBody s_need_picture) g_need_picture := by
  obtain ⟨C_NoPicture, g_NoPicture⟩ := T.g_NoPicture
  exact (dss_one (ds_if (dt_not (dt_val (de_fn G_is_picture hr (by decide) (da_cons (dv 0) da_nil)))) (dss_one (ds_raise rfl g_NoPicture (da_cons de_str da_nil) (fun _ => ⟨_, rfl, by decide⟩))) dss_nil))
theorem ok_need_picture {f : Addr} {fd : FuncData} (Fn : Fun K "need_picture" "need_picture" s_need_picture f fd) (hmg : mg "need_picture" = some (.ref f)) (hb : Binds K fd ["thing"] []) (T : Txt K mg) (G_is_picture : FnD P w K mg base 4 "is_picture" 1 F_is_picture) : FnX P w K mg base 5 "need_picture" 1 F_need_picture :=
  fnX_of (k := 4) (g := g_need_picture) Fn hmg hb sc_need_picture rfl rfl fun cdv A outer s H E hr => bd_need_picture T G_is_picture hr
theorem bd_brightness {f : Addr} {cdv : Value} {A : Around} {outer : List PySem.Env} {s : Shared} {H : Hp} {E : XK} (T : Txt K mg) (G_need_picture : FnX P w K mg base 5 "need_picture" 1 F_need_picture) (hr : Room 5 (A.deeper (envOfC "brightness" (defScope s_brightness) s.heap.objs.size f cdv))) : DSs (cxOf (CX1 P w) P w K mg base ["picture"] "brightness" (defScope s_brightness) f cdv A outer s H E) (defBody s_brightness) g_brightness := by
  exact (dss_cons (ds_expr (de_fnX G_need_picture hr (by decide) (da_cons (dv 0) da_nil))) (dss_one (ds_ret (de_callB (cd_sum rfl) rfl T.n_sum boot_sum (da_cons (de_comp ["row"] [] rfl (by kernel_rfl) (by kernel_rfl) (di_seq (dv 0)) (keeps_set (by decide)) (fun _ _ _ _ nd => dg_name 0 nd) (fun _ _ _ _ => dts_nil) (fun _ _ _ _ => (de_callB (cd_sum rfl) rfl T.n_sum boot_sum (da_cons (dv 0) da_nil)))) da_nil)))))
theorem ok_brightness {f : Addr} {fd : FuncData} (Fn : Fun K "brightness" "brightness" s_brightness f fd) (hmg : mg "brightness" = some (.ref f)) (hb : Binds K fd ["picture"] []) (T : Txt K mg) (G_need_picture : FnX P w K mg base 5 "need_picture" 1 F_need_picture) : FnX P w K mg base 6 "brightness" 1 F_brightness :=
  fnX_of (k := 5) (g := g_brightness) Fn hmg hb sc_brightness rfl rfl fun cdv A outer s H E hr => bd_brightness T G_need_picture hr
theorem bd_counted {f : Addr} {cdv : Value} {A : Around} {outer : List PySem.Env} {s : Shared} {H : Hp} {E : XK} (T : Txt K mg) (G_need_picture : FnX P w K mg base 5 "need_picture" 1 F_need_picture) (hr : Room 5 (A.deeper (envOfC "counted" (defScope s_counted) s.heap.objs.size f cdv))) : DSs (cxOf (CX1 P w) P w K mg base ["picture", "often", "row", "cell"] "counted" (defScope s_counted) f cdv A outer s H E) (defBody s_counted) g_counted := by
  exact (dss_cons (ds_expr (de_fnX G_need_picture hr (by decide) (da_cons (dv 0) da_nil))) (dss_cons (ds_newd 1 sc_counted.nd) (dss_cons (ds_for PassesOwn.leaving rfl (di_seq (dv 0)) (dga_name 2 sc_counted.nd) (dss_one (ds_for PassesOwn.leaving rfl (di_seq (dv 2)) (dga_name 3 sc_counted.nd) (dss_one (ds_dput 1 (hu_of hr) (dv 3) (de_bin od_cat (de_dget 1 (hu_of hr) (dv 3) de_int) de_int)))))) (dss_one (ds_ret (de_sorted 1 rfl rfl T.n_sorted))))))
theorem ok_counted {f : Addr} {fd : FuncData} (Fn : Fun K "counted" "counted" s_counted f fd) (hmg : mg "counted" = some (.ref f)) (hb : Binds K fd ["picture"] []) (T : Txt K mg) (G_need_picture : FnX P w K mg base 5 "need_picture" 1 F_need_picture) : FnX P w K mg base 6 "counted" 1 F_counted :=
  fnX_of (k := 5) (g := g_counted) Fn hmg hb sc_counted rfl rfl fun cdv A outer s H E hr => bd_counted T G_need_picture hr
theorem bd_mirrored {f : Addr} {cdv : Value} {A : Around} {outer : List PySem.Env} {s : Shared} {H : Hp} {E : XK} (T : Txt K mg) (G_need_picture : FnX P w K mg base 5 "need_picture" 1 F_need_picture) (hr : Room 5 (A.deeper (envOfC "mirrored" (defScope s_mirrored) s.heap.objs.size f cdv))) : DSs (cxOf (CX1 P w) P w K mg base ["picture"] "mirrored" (defScope s_mirrored) f cdv A outer s H E) (defBody s_mirrored) g_mirrored := by
  exact (dss_cons (ds_expr (de_fnX G_need_picture hr (by decide) (da_cons (dv 0) da_nil))) (dss_one (ds_ret (de_callT cd_tuple rfl T.n_tuple boot_tuple (da_cons (de_comp ["row"] [] rfl (by kernel_rfl) (by kernel_rfl) (di_seq (dv 0)) (keeps_set (by decide)) (fun _ _ _ _ nd => dg_name 0 nd) (fun _ _ _ _ => dts_nil) (fun _ _ _ _ => (de_rev (dv 0)))) da_nil)))))
theorem ok_mirrored {f : Addr} {fd : FuncData} (Fn : Fun K "mirrored" "mirrored" s_mirrored f fd) (hmg : mg "mirrored" = some (.ref f)) (hb : Binds K fd ["picture"] []) (T : Txt K mg) (G_need_picture : FnX P w K mg base 5 "need_picture" 1 F_need_picture) : FnX P w K mg base 6 "mirrored" 1 F_mirrored :=
  fnX_of (k := 5) (g := g_mirrored) Fn hmg hb sc_mirrored rfl rfl fun cdv A outer s H E hr => bd_mirrored T G_need_picture hr
theorem bd_size_of {f : Addr} {cdv : Value} {A : Around} {outer : List PySem.Env} {s : Shared} {H : Hp} {E : XK} (T : Txt K mg) (G_need_picture : FnX P w K mg base 5 "need_picture" 1 F_need_picture) (hr : Room 5 (A.deeper (envOfC "size_of" (defScope s_size_of) s.heap.objs.size f cdv))) : DSs (cxOf (CX1 P w) P w K mg base ["picture"] "size_of" (defScope s_size_of) f cdv A outer s H E) (defBody s_size_of) g_size_of := by
  exact (dss_cons (ds_expr (de_fnX G_need_picture hr (by decide) (da_cons (dv 0) da_nil))) (dss_one (ds_ret (de_tup (da_cons (de_callB cd_len rfl T.n_len PySem.boot_len (da_cons (de_ix (dv 0) de_int) da_nil)) (da_cons (de_callB cd_len rfl T.n_len PySem.boot_len (da_cons (dv 0) da_nil)) da_nil))))))
theorem ok_size_of {f : Addr} {fd : FuncData} (Fn : Fun K "size_of" "size_of" s_size_of f fd) (hmg : mg "size_of" = some (.ref f)) (hb : Binds K fd ["picture"] []) (T : Txt K mg) (G_need_picture : FnX P w K mg base 5 "need_picture" 1 F_need_picture) : FnX P w K mg base 6 "size_of" 1 F_size_of :=
  fnX_of (k := 5) (g := g_size_of) Fn hmg hb sc_size_of rfl rfl fun cdv A outer s H E hr => bd_size_of T G_need_picture hr
theorem bd_turned {f : Addr} {cdv : Value} {A : Around} {outer : List PySem.Env} {s : Shared} {H : Hp} {E : XK} (T : Txt K mg) (G_size_of : FnX P w K mg base 6 "size_of" 1 F_size_of) (hr : Room 6 (A.deeper (envOfC "turned" (defScope s_turned) s.heap.objs.size f cdv))) : DSs (cxOf (CX1 P w) P w K mg base ["picture", "wide", "high"] "turned" (defScope s_turned) f cdv A outer s H E) (defBody s_turned) g_turned := by
  exact (dss_cons (ds_asg2 1 2 rfl sc_turned.nd (de_fnX G_size_of hr (by decide) (da_cons (dv 0) da_nil))) (dss_one (ds_ret (de_callT cd_tuple rfl T.n_tuple boot_tuple (da_cons (de_comp ["x"] [2, 0] rfl (by kernel_rfl) (by kernel_rfl) (di_range1 rfl T.n_range (da_cons (dv 1) da_nil)) (keeps_set (by decide)) (fun _ _ _ _ nd => dg_name 0 nd) (fun _ _ _ _ => dts_nil) (fun _ _ _ _ => (de_callT cd_tuple rfl T.n_tuple boot_tuple (da_cons (de_comp ["y"] [2, 0] rfl (by kernel_rfl) (by kernel_rfl) (di_range1 rfl T.n_range (da_cons (dv 1) da_nil)) (keeps_set (by decide)) (fun _ _ _ _ nd => dg_name 0 nd) (fun _ _ _ _ => dts_nil) (fun _ _ _ _ => (de_ix (de_ix (dv 1) (dv 0)) (dv 2)))) da_nil)))) da_nil)))))
theorem ok_turned {f : Addr} {fd : FuncData} (Fn : Fun K "turned" "turned" s_turned f fd) (hmg : mg "turned" = some (.ref f)) (hb : Binds K fd ["picture"] []) (T : Txt K mg) (G_size_of : FnX P w K mg base 6 "size_of" 1 F_size_of) : FnX P w K mg base 7 "turned" 1 F_turned :=
  fnX_of (k := 6) (g := g_turned) Fn hmg hb sc_turned rfl rfl fun cdv A outer s H E hr => bd_turned T G_size_of hr
theorem bd__law_no {f : Addr} {cdv : Value} {A : Around} {outer : List PySem.Env} {s : Shared} {H : Hp} {E : XK} (T : Txt K mg) (G_brightness : FnX P w K mg base 6 "brightness" 1 F_brightness) (G_counted : FnX P w K mg base 6 "counted" 1 F_counted) (G_mirrored : FnX P w K mg base 6 "mirrored" 1 F_mirrored) (G_size_of : FnX P w K mg base 6 "size_of" 1 F_size_of) (G_turned : FnX P w K mg base 7 "turned" 1 F_turned) (hr : Room 7 (A.deeper (envOfC "_law_no" (defScope s__law_no) s.heap.objs.size f cdv))) : DSs (cxOf CX0 P w K mg base ["_law_way", "_law_thing", "e"] "_law_no" (defScope s__law_no) f cdv A outer s H E).nox (defBody s__law_no) g__law_no := by
  obtain ⟨CT_SeamError, h_SeamError, m_SeamError⟩ := T.t_SeamError
  obtain ⟨CI_NoMarks, i_NoMarks, q_NoMarks⟩ := T.i_NoMarks
  obtain ⟨CI_NoPicture, i_NoPicture, q_NoPicture⟩ := T.i_NoPicture
  have q_ValueError := T.i_ValueError
  exact (dss_cons (ds_try 2 sc__law_no.nd rfl rfl rfl h_SeamError m_SeamError (fun _ _ => (dss_one (ds_if (dt_cmp (od_eq (room_u hr)) (dv 0) de_int) (dss_one (ds_expr (de_fnX G_size_of hr (by decide) (da_cons (dv 1) da_nil)))) (dss_one (ds_if (dt_cmp (od_eq (room_u hr)) (dv 0) de_int) (dss_one (ds_expr (de_fnX G_turned hr (by decide) (da_cons (dv 1) da_nil)))) (dss_one (ds_if (dt_cmp (od_eq (room_u hr)) (dv 0) de_int) (dss_one (ds_expr (de_fnX G_mirrored hr (by decide) (da_cons (dv 1) da_nil)))) (dss_one (ds_if (dt_cmp (od_eq (room_u hr)) (dv 0) de_int) (dss_one (ds_expr (de_fnX G_counted hr (by decide) (da_cons (dv 1) da_nil)))) (dss_one (ds_expr (de_fnX G_brightness hr (by decide) (da_cons (dv 1) da_nil))))))))))))) (fun _ => (dss_cons (ds_if (dt_not (DW.dt (dw_and (dt_val (de_instE 2 rfl T.n_isinstance (pe_glob (v := .ref CI_NoPicture) rfl i_NoPicture rfl (by decide)) (fun _ z => z) q_NoPicture)) (dw_and1 (dt_not (dt_val (de_instE 2 rfl T.n_isinstance (pe_glob (v := .ref CI_NoMarks) rfl i_NoMarks rfl (by decide)) (fun _ z => z) q_NoMarks))))))) (dss_one (ds_ret de_bl)) dss_nil) (dss_one (ds_ret (de_instE 2 rfl T.n_isinstance (pe_bltn (v := .ty "ValueError") rfl T.n_ValueError (by decide +kernel) rfl (by decide) (by decide)) (fun _ z => z) q_ValueError)))))) (dss_one (ds_ret de_bl)))
theorem ok__law_no {f : Addr} {fd : FuncData} (Fn : Fun K "_law_no" "_law_no" s__law_no f fd) (hmg : mg "_law_no" = some (.ref f)) (hb : Binds K fd ["_law_way", "_law_thing"] []) (T : Txt K mg) (G_brightness : FnX P w K mg base 6 "brightness" 1 F_brightness) (G_counted : FnX P w K mg base 6 "counted" 1 F_counted) (G_mirrored : FnX P w K mg base 6 "mirrored" 1 F_mirrored) (G_size_of : FnX P w K mg base 6 "size_of" 1 F_size_of) (G_turned : FnX P w K mg base 7 "turned" 1 F_turned) : FnD P w K mg base 8 "_law_no" 2 F__law_no :=
  fnD_of (k := 7) (g := g__law_no) Fn hmg hb sc__law_no rfl rfl fun cdv A outer s H E hr => bd__law_no T G_brightness G_counted G_mirrored G_size_of G_turned hr
theorem bd__law_drawn {f : Addr} {cdv : Value} {A : Around} {outer : List PySem.Env} {s : Shared} {H : Hp} {E : XK} (T : Txt K mg)  (hr : Room 0 (A.deeper (envOfC "_law_drawn" (defScope s__law_drawn) s.heap.objs.size f cdv))) : DSs (cxOf CX0 P w K mg base ["_law_script", "_law_k", "_law_many", "_law_cell", "_law_turn", "_law_rest"] "_law_drawn" (defScope s__law_drawn) f cdv A outer s H E).nox (defBody s__law_drawn) g__law_drawn := by
  exact (dss_cons (ds_set 3 sc__law_drawn.nd (de_bin od_mul de_int (dv 1))) (dss_cons (ds_if (dt_cmp (od_ne (room_u hr)) (dv 0) (de_lst da_nil)) (dss_cons (ds_set 3 sc__law_drawn.nd (de_ix (dv 0) (de_bin od_mod (dv 1) (de_callB cd_len rfl T.n_len PySem.boot_len (da_cons (dv 0) da_nil))))) (dss_cons (ds_set 4 sc__law_drawn.nd (de_bin od_div (dv 1) (de_callB cd_len rfl T.n_len PySem.boot_len (da_cons (dv 0) da_nil)))) (dss_cons (ds_if (DW.dt (dw_and (dt_cmp od_ge (dv 3) (de_bin od_pow de_int de_int)) (dw_and1 (dt_cmp od_lt (dv 4) de_int)))) (dss_cons (ds_set 5 sc__law_drawn.nd (de_bin od_div (dv 3) (de_bin od_pow de_int de_int))) (dss_cons (ds_while 64 PassesOwn.never (DW.dt (dw_and (dt_cmp od_gt (dv 5) de_int) (dw_and1 (dt_cmp od_gt (dv 4) de_int)))) (dss_cons (ds_set 5 sc__law_drawn.nd (de_bin od_div (dv 5) de_int)) (dss_one (ds_set 4 sc__law_drawn.nd (de_bin od_sub (dv 4) de_int))))) (dss_one (ds_if (dt_cmp od_gt (dv 5) de_int) (dss_one (ds_ret (de_bin od_mod (de_bin od_mod (dv 5) de_int) (dv 2)))) dss_nil)))) dss_nil) (dss_one (ds_set 3 sc__law_drawn.nd (de_bin od_cat (dv 3) (de_bin od_mul de_int (de_bin od_div (dv 1) (de_callB cd_len rfl T.n_len PySem.boot_len (da_cons (dv 0) da_nil)))))))))) dss_nil) (dss_cons (ds_set 3 sc__law_drawn.nd (de_bin od_mod (de_bin od_cat (de_bin od_mul (de_bin od_mod (dv 3) de_int) de_int) (de_bin od_mul de_int (de_bin od_cat (dv 1) de_int))) de_int)) (dss_cons (ds_set 3 sc__law_drawn.nd (de_bin od_mod (de_bin od_cat (de_bin od_mul (dv 3) (dv 3)) (de_bin od_div (dv 3) de_int)) de_int)) (dss_one (ds_ret (de_bin od_mod (de_bin od_div (de_bin od_mod (de_bin od_cat (de_bin od_mul (dv 3) (dv 3)) (de_bin od_div (dv 3) de_int)) de_int) de_int) (dv 2))))))))
theorem ok__law_drawn {f : Addr} {fd : FuncData} (Fn : Fun K "_law_drawn" "_law_drawn" s__law_drawn f fd) (hmg : mg "_law_drawn" = some (.ref f)) (hb : Binds K fd ["_law_script", "_law_k", "_law_many"] []) (T : Txt K mg)  : FnD P w K mg base 1 "_law_drawn" 3 F__law_drawn :=
  fnD_of (k := 0) (g := g__law_drawn) Fn hmg hb sc__law_drawn rfl rfl fun cdv A outer s H E hr => bd__law_drawn T  hr
theorem bd__law_picture {f : Addr} {cdv : Value} {A : Around} {outer : List PySem.Env} {s : Shared} {H : Hp} {E : XK} (T : Txt K mg) (G__law_drawn : FnD P w K mg base 1 "_law_drawn" 3 F__law_drawn) (hr : Room 1 (A.deeper (envOfC "_law_picture" (defScope s__law_picture) s.heap.objs.size f cdv))) : DSs (cxOf CX0 P w K mg base ["_law_script", "_law_at", "_law_broad", "_law_tall", "_law_most", "_law_rows", "_law_y"] "_law_picture" (defScope s__law_picture) f cdv A outer s H E).nox (defBody s__law_picture) g__law_picture := by
  exact (dss_cons (ds_parO 4 5 rfl sc__law_picture.nd (de_ix (de_lst (da_cons de_int (da_cons de_int (da_cons de_int (da_cons de_int da_nil))))) (de_fn G__law_drawn hr (by decide) (da_cons (dv 0) (da_cons (dv 1) (da_cons de_int da_nil))))) da_nil) (dss_cons (ds_for PassesOwn.never rfl (di_range1 rfl T.n_range (da_cons (dv 3) da_nil)) (dga_name 6 sc__law_picture.nd) (dss_one (ds_app 5 (de_callT cd_tuple rfl T.n_tuple boot_tuple (da_cons (de_comp ["_law_x"] [1, 2, 4, 0, 6] rfl (by kernel_rfl) (by kernel_rfl) (di_range1 rfl T.n_range (da_cons (dv 2) da_nil)) (keeps_set (by decide)) (fun _ _ _ _ nd => dg_name 0 nd) (fun _ _ _ _ => dts_nil) (fun _ _ _ _ => (de_fn G__law_drawn hr (by decide) (da_cons (dv 4) (da_cons (de_bin od_cat (de_bin od_cat (de_bin od_cat (dv 1) de_int) (de_bin od_mul (dv 2) (dv 5))) (dv 0)) (da_cons (dv 3) da_nil)))))) da_nil))))) (dss_one (ds_ret (de_callT cd_tuple rfl T.n_tuple boot_tuple (da_cons (dv 5) da_nil))))))
theorem ok__law_picture {f : Addr} {fd : FuncData} (Fn : Fun K "_law_picture" "_law_picture" s__law_picture f fd) (hmg : mg "_law_picture" = some (.ref f)) (hb : Binds K fd ["_law_script", "_law_at", "_law_broad", "_law_tall"] []) (T : Txt K mg) (G__law_drawn : FnD P w K mg base 1 "_law_drawn" 3 F__law_drawn) : FnD P w K mg base 2 "_law_picture" 4 F__law_picture :=
  fnD_of (k := 1) (g := g__law_picture) Fn hmg hb sc__law_picture rfl rfl fun cdv A outer s H E hr => bd__law_picture T G__law_drawn hr
theorem bd__law_some {f : Addr} {cdv : Value} {A : Around} {outer : List PySem.Env} {s : Shared} {H : Hp} {E : XK} (T : Txt K mg) (G__law_drawn : FnD P w K mg base 1 "_law_drawn" 3 F__law_drawn) (G__law_picture : FnD P w K mg base 2 "_law_picture" 4 F__law_picture) (hr : Room 2 (A.deeper (envOfC "_law_some" (defScope s__law_some) s.heap.objs.size f cdv))) : DSs (cxOf CX0 P w K mg base ["_law_script", "_law_at", "_law_broad", "_law_tall"] "_law_some" (defScope s__law_some) f cdv A outer s H E).nox (defBody s__law_some) g__law_some := by
  exact (dss_one (ds_ret (de_fn G__law_picture hr (by decide) (da_cons (dv 0) (da_cons (de_bin od_cat (dv 1) de_int) (da_cons (de_bin od_cat de_int (de_fn G__law_drawn hr (by decide) (da_cons (dv 0) (da_cons (dv 1) (da_cons (dv 2) da_nil))))) (da_cons (de_bin od_cat de_int (de_fn G__law_drawn hr (by decide) (da_cons (dv 0) (da_cons (de_bin od_cat (dv 1) de_int) (da_cons (dv 3) da_nil))))) da_nil)))))))
theorem ok__law_some {f : Addr} {fd : FuncData} (Fn : Fun K "_law_some" "_law_some" s__law_some f fd) (hmg : mg "_law_some" = some (.ref f)) (hb : Binds K fd ["_law_script", "_law_at", "_law_broad", "_law_tall"] []) (T : Txt K mg) (G__law_drawn : FnD P w K mg base 1 "_law_drawn" 3 F__law_drawn) (G__law_picture : FnD P w K mg base 2 "_law_picture" 4 F__law_picture) : FnD P w K mg base 3 "_law_some" 4 F__law_some :=
  fnD_of (k := 2) (g := g__law_some) Fn hmg hb sc__law_some rfl rfl fun cdv A outer s H E hr => bd__law_some T G__law_drawn G__law_picture hr
theorem bd__law_turned {f : Addr} {cdv : Value} {A : Around} {outer : List PySem.Env} {s : Shared} {H : Hp} {E : XK} (T : Txt K mg)  (hr : Room 0 (A.deeper (envOfC "_law_turned" (defScope s__law_turned) s.heap.objs.size f cdv))) : DSs (cxOf CX0 P w K mg base ["_law_rows"] "_law_turned" (defScope s__law_turned) f cdv A outer s H E).nox (defBody s__law_turned) g__law_turned := by
  exact (dss_one (ds_ret (de_callT cd_tuple rfl T.n_tuple boot_tuple (da_cons (de_comp ["_law_x"] [0] rfl (by kernel_rfl) (by kernel_rfl) (di_range1 rfl T.n_range (da_cons (de_callB cd_len rfl T.n_len PySem.boot_len (da_cons (de_ix (dv 0) de_int) da_nil)) da_nil)) (keeps_set (by decide)) (fun _ _ _ _ nd => dg_name 0 nd) (fun _ _ _ _ => dts_nil) (fun _ _ _ _ => (de_callT cd_tuple rfl T.n_tuple boot_tuple (da_cons (de_comp ["_law_row"] [0] rfl (by kernel_rfl) (by kernel_rfl) (di_seq (dv 1)) (keeps_set (by decide)) (fun _ _ _ _ nd => dg_name 0 nd) (fun _ _ _ _ => dts_nil) (fun _ _ _ _ => (de_ix (dv 0) (dv 1)))) da_nil)))) da_nil))))
theorem ok__law_turned {f : Addr} {fd : FuncData} (Fn : Fun K "_law_turned" "_law_turned" s__law_turned f fd) (hmg : mg "_law_turned" = some (.ref f)) (hb : Binds K fd ["_law_rows"] []) (T : Txt K mg)  : FnD P w K mg base 1 "_law_turned" 1 F__law_turned :=
  fnD_of (k := 0) (g := g__law_turned) Fn hmg hb sc__law_turned rfl rfl fun cdv A outer s H E hr => bd__law_turned T  hr
theorem bd_law {f : Addr} {cdv : Value} {A : Around} {outer : List PySem.Env} {s : Shared} {H : Hp} {E : XK} (T : Txt K mg) (G__law_no : FnD P w K mg base 8 "_law_no" 2 F__law_no) (G__law_some : FnD P w K mg base 3 "_law_some" 4 F__law_some) (G__law_turned : FnD P w K mg base 1 "_law_turned" 1 F__law_turned) (G_brightness : FnX P w K mg base 6 "brightness" 1 F_brightness) (G_counted : FnX P w K mg base 6 "counted" 1 F_counted) (G_is_picture : FnD P w K mg base 4 "is_picture" 1 F_is_picture) (G_mirrored : FnX P w K mg base 6 "mirrored" 1 F_mirrored) (G_size_of : FnX P w K mg base 6 "size_of" 1 F_size_of) (G_turned : FnX P w K mg base 7 "turned" 1 F_turned) (hr : Room 8 (A.deeper (envOfC "law" (defScope s_law) s.heap.objs.size f cdv))) : DSs (cxOf CX0 P w K mg base ["_law_script", "_law_picture_here", "_law_broad", "_law_tall", "_law_cells", "_law_row", "_law_bad"] "law" (defScope s_law) f cdv A outer s H E).nox (defBody s_law) g_law := by
  refine dss_cons ?_ ?_
  · exact (ds_set 1 sc_law.nd (de_fn G__law_some hr (by decide) (da_cons (dv 0) (da_cons de_int (da_cons de_int (da_cons de_int da_nil))))))
  refine dss_cons ?_ ?_
  · exact (ds_par 2 3 rfl sc_law.nd (de_callB cd_len rfl T.n_len PySem.boot_len (da_cons (de_ix (dv 1) de_int) da_nil)) (de_callB cd_len rfl T.n_len PySem.boot_len (da_cons (dv 1) da_nil)))
  refine dss_cons ?_ ?_
  · exact (ds_if (DW.dt (dw_or (dt_cmp od_isNB (de_fn G_is_picture hr (by decide) (da_cons (dv 1) da_nil)) de_bl) (dw_or1 (dt_cmp (od_ne (room_u hr)) (de_fnX G_size_of hr (by decide) (da_cons (dv 1) da_nil)) (de_tup (da_cons (dv 2) (da_cons (dv 3) da_nil))))))) (dss_one (ds_ret de_bl)) dss_nil)
  refine dss_cons ?_ ?_
  · exact (ds_if (dt_cmp (od_ne (room_u hr)) (de_fnX G_turned hr (by decide) (da_cons (dv 1) da_nil)) (de_fn G__law_turned hr (by decide) (da_cons (dv 1) da_nil))) (dss_one (ds_ret de_bl)) dss_nil)
  refine dss_cons ?_ ?_
  · exact (ds_if (dt_cmp (od_ne (room_u hr)) (de_fnX G_mirrored hr (by decide) (da_cons (dv 1) da_nil)) (de_callT cd_tuple rfl T.n_tuple boot_tuple (da_cons (de_comp ["_law_row"] [] rfl (by kernel_rfl) (by kernel_rfl) (di_seq (dv 1)) (keeps_set (by decide)) (fun _ _ _ _ nd => dg_name 0 nd) (fun _ _ _ _ => dts_nil) (fun _ _ _ _ => (de_rev (dv 0)))) da_nil))) (dss_one (ds_ret de_bl)) dss_nil)
  refine dss_cons ?_ ?_
  · exact (ds_set 4 sc_law.nd (de_lst da_nil))
  refine dss_cons ?_ ?_
  · exact (ds_for PassesOwn.never rfl (di_seq (dv 1)) (dga_name 5 sc_law.nd) (dss_one (ds_set 4 sc_law.nd (de_bin od_addD (dv 4) (de_callT cd_list rfl T.n_list boot_list (da_cons (dv 5) da_nil))))))
  refine dss_cons ?_ ?_
  · exact (ds_if (dt_cmp (od_ne (room_u hr)) (de_fnX G_counted hr (by decide) (da_cons (dv 1) da_nil)) (de_comp ["_law_cell"] [4] rfl (by kernel_rfl) (by kernel_rfl) (di_seq (de_sortSet rfl rfl T.n_sorted rfl T.n_set (da_cons (dv 4) da_nil))) (keeps_set (by decide)) (fun _ _ _ _ nd => dg_name 0 nd) (fun _ _ _ _ => dts_nil) (fun _ _ _ _ => (de_tup (da_cons (dv 0) (da_cons (de_count (dv 1) (dv 0)) da_nil)))))) (dss_one (ds_ret de_bl)) dss_nil)
  refine dss_cons ?_ ?_
  · exact (ds_if (dt_cmp (od_ne (room_u hr)) (de_fnX G_brightness hr (by decide) (da_cons (dv 1) da_nil)) (de_callB (cd_sum rfl) rfl T.n_sum boot_sum (da_cons (dv 4) da_nil))) (dss_one (ds_ret de_bl)) dss_nil)
  refine dss_cons ?_ ?_
  · refine ds_set 6 ?_ ?_ (hi := ?_) (hx := ?_) (hs := ?_) (hf := ?_)
    · exact sc_law.nd
    · refine de_lst ?_
      refine da_cons ?_ ?_
      · exact de_non
      refine da_cons ?_ ?_
      · refine de_tup ?_
        exact da_nil
      refine da_cons ?_ ?_
      · refine de_tup ?_
        refine da_cons ?_ ?_
        · refine de_tup ?_
          exact da_nil
        exact da_nil
      refine da_cons ?_ ?_
      · refine de_lst ?_
        refine da_cons ?_ ?_
        · refine de_tup ?_
          refine da_cons ?_ ?_
          · exact de_int
          exact da_nil
        exact da_nil
      refine da_cons ?_ ?_
      · refine de_tup ?_
        refine da_cons ?_ ?_
        · refine de_lst ?_
          refine da_cons ?_ ?_
          · exact de_int
          exact da_nil
        exact da_nil
      refine da_cons ?_ ?_
      · refine de_tup ?_
        refine da_cons ?_ ?_
        · refine de_tup ?_
          refine da_cons ?_ ?_
          · exact de_int
          exact da_nil
        refine da_cons ?_ ?_
        · refine de_tup ?_
          refine da_cons ?_ ?_
          · exact de_int
          refine da_cons ?_ ?_
          · exact de_int
          exact da_nil
        exact da_nil
      refine da_cons ?_ ?_
      · refine de_tup ?_
        refine da_cons ?_ ?_
        · refine de_tup ?_
          refine da_cons ?_ ?_
          · exact de_int
          exact da_nil
        exact da_nil
      refine da_cons ?_ ?_
      · refine de_tup ?_
        refine da_cons ?_ ?_
        · refine de_tup ?_
          refine da_cons ?_ ?_
          · exact (de_neg de_int)
          exact da_nil
        exact da_nil
      refine da_cons ?_ ?_
      · refine de_tup ?_
        refine da_cons ?_ ?_
        · refine de_tup ?_
          refine da_cons ?_ ?_
          · exact de_bl
          exact da_nil
        exact da_nil
      exact da_nil
    · rfl
    · first | exact Or.inl rfl | exact Or.inr rfl
    · rfl
    · first | exact Or.inl rfl | exact Or.inr rfl
  refine dss_cons ?_ ?_
  · refine ds_set 6 ?_ ?_ (hi := ?_) (hx := ?_) (hs := ?_) (hf := ?_)
    · exact sc_law.nd
    · refine de_bin od_addD ?_ ?_
      · exact (dv 6)
      · refine de_lst ?_
        refine da_cons ?_ ?_
        · refine de_tup ?_
          refine da_cons ?_ ?_
          · refine de_tup ?_
            refine da_cons ?_ ?_
            · exact de_non
            exact da_nil
          exact da_nil
        refine da_cons ?_ ?_
        · refine de_bin od_mulD ?_ ?_
          · refine de_tup ?_
            refine da_cons ?_ ?_
            · refine de_tup ?_
              refine da_cons ?_ ?_
              · exact de_int
              exact da_nil
            exact da_nil
          · exact de_int
        exact da_nil
    · rfl
    · first | exact Or.inl rfl | exact Or.inr rfl
    · rfl
    · first | exact Or.inl rfl | exact Or.inr rfl
  refine dss_cons ?_ ?_
  · refine ds_set 6 ?_ ?_ (hi := ?_) (hx := ?_) (hs := ?_) (hf := ?_)
    · exact sc_law.nd
    · refine de_bin od_addD ?_ ?_
      · exact (dv 6)
      · refine de_lst ?_
        refine da_cons ?_ ?_
        · refine de_tup ?_
          refine da_cons ?_ ?_
          · refine de_bin od_mulD ?_ ?_
            · refine de_tup ?_
              refine da_cons ?_ ?_
              · exact de_int
              exact da_nil
            · exact de_int
          exact da_nil
        refine da_cons ?_ ?_
        · exact de_str
        refine da_cons ?_ ?_
        · refine de_tup ?_
          refine da_cons ?_ ?_
          · refine de_tup ?_
            refine da_cons ?_ ?_
            · exact de_str
            exact da_nil
          exact da_nil
        refine da_cons ?_ ?_
        · refine de_tup ?_
          refine da_cons ?_ ?_
          · refine de_tup ?_
            refine da_cons ?_ ?_
            · exact de_int
            refine da_cons ?_ ?_
            · exact de_int
            exact da_nil
          refine da_cons ?_ ?_
          · exact de_int
          exact da_nil
        refine da_cons ?_ ?_
        · exact de_int
        exact da_nil
    · rfl
    · first | exact Or.inl rfl | exact Or.inr rfl
    · rfl
    · first | exact Or.inl rfl | exact Or.inr rfl
  refine dss_cons ?_ ?_
  · exact (ds_if (dt_cmp (od_ne (room_u hr)) (de_comp ["_law_thing"] [] rfl (by kernel_rfl) (by kernel_rfl) (di_seq (dv 6)) (keeps_set (by decide)) (fun _ _ _ _ nd => dg_name 0 nd) (fun _ _ _ _ => (dts_one (dt_cmp od_isNB (de_fn G_is_picture hr (by decide) (da_cons (dv 0) da_nil)) de_bl))) (fun _ _ _ _ => (dv 0))) (de_lst da_nil)) (dss_one (ds_ret de_bl)) dss_nil)
  refine dss_cons ?_ ?_
  · exact (ds_if (dt_not (dt_cmp (od_eq (room_u hr)) (de_comp ["_law_thing"] [] rfl (by kernel_rfl) (by kernel_rfl) (di_seq (dv 6)) (keeps_set (by decide)) (fun _ _ _ _ nd => dg_name 0 nd) (fun _ _ _ _ => (dts_one (dt_cmp (od_ne (room_u hr)) (de_comp ["_law_way"] [0] rfl (by kernel_rfl) (by kernel_rfl) (di_range1 rfl T.n_range (da_cons de_int da_nil)) (keeps_set (by decide)) (fun _ _ _ _ nd => dg_name 0 nd) (fun _ _ _ _ => (dts_one (dt_not (dt_val (de_fn G__law_no hr (by decide) (da_cons (dv 0) (da_cons (dv 1) da_nil))))))) (fun _ _ _ _ => (dv 0))) (de_lst da_nil)))) (fun _ _ _ _ => (dv 0))) (de_lst da_nil))) (dss_one (ds_ret de_bl)) dss_nil)
  exact (dss_one (ds_ret (de_fn G_is_picture hr (by decide) (da_cons (de_bin od_mulD (de_tup (da_cons (de_bin od_mulD (de_tup (da_cons de_int da_nil)) de_int) da_nil)) de_int) da_nil))))
end
theorem all_mk {l : PySem.W.OpenLaw} {w : World} {K : PySem.W.Frag} {h : Heap} {mg : Str → Option Value} {fa f_is_line f_is_whole f_is_cell f_is_row f_is_picture f_need_picture f_brightness f_counted f_mirrored f_size_of f_turned f__law_no f__law_drawn f__law_picture f__law_some f__law_turned f_law : Addr} (X : K.In h) (G : h.Ns mainGlobals mg) (hfa : mg "law" = some (.ref fa))
    {od_is_line an_is_line : Option Addr} {sl_is_line : Array (Option Value)} {oc_is_line kV_is_line dc_is_line pm_is_line cd_is_line ct_is_line : Value}
    {od_is_whole an_is_whole : Option Addr} {sl_is_whole : Array (Option Value)} {oc_is_whole kV_is_whole dc_is_whole pm_is_whole cd_is_whole ct_is_whole : Value}
    {od_is_cell an_is_cell : Option Addr} {sl_is_cell : Array (Option Value)} {oc_is_cell kV_is_cell dc_is_cell pm_is_cell cd_is_cell ct_is_cell : Value}
    {od_is_row an_is_row : Option Addr} {sl_is_row : Array (Option Value)} {oc_is_row kV_is_row dc_is_row pm_is_row cd_is_row ct_is_row : Value}
    {od_is_picture an_is_picture : Option Addr} {sl_is_picture : Array (Option Value)} {oc_is_picture kV_is_picture dc_is_picture pm_is_picture cd_is_picture ct_is_picture : Value}
    {od_need_picture an_need_picture : Option Addr} {sl_need_picture : Array (Option Value)} {oc_need_picture kV_need_picture dc_need_picture pm_need_picture cd_need_picture ct_need_picture : Value}
    {od_brightness an_brightness : Option Addr} {sl_brightness : Array (Option Value)} {oc_brightness kV_brightness dc_brightness pm_brightness cd_brightness ct_brightness : Value}
    {od_counted an_counted : Option Addr} {sl_counted : Array (Option Value)} {oc_counted kV_counted dc_counted pm_counted cd_counted ct_counted : Value}
    {od_mirrored an_mirrored : Option Addr} {sl_mirrored : Array (Option Value)} {oc_mirrored kV_mirrored dc_mirrored pm_mirrored cd_mirrored ct_mirrored : Value}
    {od_size_of an_size_of : Option Addr} {sl_size_of : Array (Option Value)} {oc_size_of kV_size_of dc_size_of pm_size_of cd_size_of ct_size_of : Value}
    {od_turned an_turned : Option Addr} {sl_turned : Array (Option Value)} {oc_turned kV_turned dc_turned pm_turned cd_turned ct_turned : Value}
    {od__law_no an__law_no : Option Addr} {sl__law_no : Array (Option Value)} {oc__law_no kV__law_no dc__law_no pm__law_no cd__law_no ct__law_no : Value}
    {od__law_drawn an__law_drawn : Option Addr} {sl__law_drawn : Array (Option Value)} {oc__law_drawn kV__law_drawn dc__law_drawn pm__law_drawn cd__law_drawn ct__law_drawn : Value}
    {od__law_picture an__law_picture : Option Addr} {sl__law_picture : Array (Option Value)} {oc__law_picture kV__law_picture dc__law_picture pm__law_picture cd__law_picture ct__law_picture : Value}
    {od__law_some an__law_some : Option Addr} {sl__law_some : Array (Option Value)} {oc__law_some kV__law_some dc__law_some pm__law_some cd__law_some ct__law_some : Value}
    {od__law_turned an__law_turned : Option Addr} {sl__law_turned : Array (Option Value)} {oc__law_turned kV__law_turned dc__law_turned pm__law_turned cd__law_turned ct__law_turned : Value}
    {od_law an_law : Option Addr} {sl_law : Array (Option Value)} {oc_law kV_law dc_law pm_law cd_law ct_law : Value}
    {tk_MOST_CELL : Tok} (x_MOST_CELL : PySem.W.nsIn K mainGlobals "MOST_CELL" = some (some (.int 99 tk_MOST_CELL)))
    {tk_MOST_LONG : Tok} (x_MOST_LONG : PySem.W.nsIn K mainGlobals "MOST_LONG" = some (some (.int 20 tk_MOST_LONG)))
    (n_ValueError : PySem.W.nsIn K mainGlobals "ValueError" = some none)
    (n_all : PySem.W.nsIn K mainGlobals "all" = some none)
    (n_bool : PySem.W.nsIn K mainGlobals "bool" = some none)
    (n_int : PySem.W.nsIn K mainGlobals "int" = some none)
    (n_isinstance : PySem.W.nsIn K mainGlobals "isinstance" = some none)
    (n_len : PySem.W.nsIn K mainGlobals "len" = some none)
    (n_list : PySem.W.nsIn K mainGlobals "list" = some none)
    (n_range : PySem.W.nsIn K mainGlobals "range" = some none)
    (n_set : PySem.W.nsIn K mainGlobals "set" = some none)
    (n_sorted : PySem.W.nsIn K mainGlobals "sorted" = some none)
    (n_sum : PySem.W.nsIn K mainGlobals "sum" = some none)
    (n_tuple : PySem.W.nsIn K mainGlobals "tuple" = some none)
    (k_int : ∀ d : D, PySem.W.kitOne K (.type (tyD d)) (.type "int") = some (ans_int (tyD d)))
    (k_bool : ∀ d : D, PySem.W.kitOne K (.type (tyD d)) (.type "bool") = some (ans_bool (tyD d)))
    (k_tuple : ∀ d : D, PySem.W.kitOne K (.type (tyD d)) (.type "tuple") = some (ans_tuple (tyD d)))
    (k_list : ∀ d : D, PySem.W.kitOne K (.type (tyD d)) (.type "list") = some (ans_list (tyD d)))
    {C_NoMarks : Addr} (o_NoMarks : PySem.W.nsIn K mainGlobals "NoMarks" = some (some (.ref C_NoMarks)))
    {C_NoPicture : Addr} (o_NoPicture : PySem.W.nsIn K mainGlobals "NoPicture" = some (some (.ref C_NoPicture)))
    {C_SeamError : Addr} (o_SeamError : PySem.W.nsIn K mainGlobals "SeamError" = some (some (.ref C_SeamError)))
    (e_NoPicture : PySem.W.excIn K C_NoPicture mroV "ValueError.__new__" = true)
    (v1_NoPicture : PySem.W.findIn K (.ref C_NoPicture) "__getattribute__" = some (some (.builtin "BaseException.__getattribute__"))) (v2_NoPicture : PySem.W.findIn K (.ref C_NoPicture) "__getattr__" = some none) (v3_NoPicture : (PySem.W.clsIn K C_NoPicture).isSome = true) (v4_NoPicture : PySem.W.findIn K (.ref C_NoPicture) "__class__" = some (some (.builtin "object.__class__")))
    (v5_NoPicture : PySem.W.specialIn K (.builtin "object.__class__") "__get__" = some (some (.builtin "getset_descriptor.__get__"))) (v6_NoPicture : PySem.W.takesIn K (.builtin "object.__class__") = some true) (v7_NoPicture : PySem.W.mroIn K C_NoPicture (.type "object") = some true) (v8_NoPicture : PySem.W.mroIn K C_NoPicture (.type "BaseException") = some true)
    (m_NoPicture_SeamError : PySem.W.exmOne K (.ref C_NoPicture) (.ref C_SeamError) = some true)
    (z_NoPicture_NoMarks : PySem.W.kitOne K (.ref C_NoPicture) (.ref C_NoMarks) = some false)
    (z_NoPicture_NoPicture : PySem.W.kitOne K (.ref C_NoPicture) (.ref C_NoPicture) = some true)
    (z_NoPicture_ValueError : PySem.W.kitOne K (.ref C_NoPicture) (.type "ValueError") = some true)
    (a_is_line : PySem.W.nsIn K mainGlobals "is_line" = some (some (.ref f_is_line))) (l_is_line : K.lookup f_is_line = some ⟨oc_is_line, od_is_line, .func (PySem.W.fnOf "is_line" "is_line" (defArgs s_is_line) (defBody s_is_line) (defScope s_is_line) .none kV_is_line dc_is_line pm_is_line an_is_line cd_is_line ct_is_line), sl_is_line⟩) (c_is_line : PySem.W.codeIn K cd_is_line "is_line" = true) (p_is_line : PySem.W.keepIn K (.ref f_is_line) = true)
    (a_is_whole : PySem.W.nsIn K mainGlobals "is_whole" = some (some (.ref f_is_whole))) (l_is_whole : K.lookup f_is_whole = some ⟨oc_is_whole, od_is_whole, .func (PySem.W.fnOf "is_whole" "is_whole" (defArgs s_is_whole) (defBody s_is_whole) (defScope s_is_whole) .none kV_is_whole dc_is_whole pm_is_whole an_is_whole cd_is_whole ct_is_whole), sl_is_whole⟩) (c_is_whole : PySem.W.codeIn K cd_is_whole "is_whole" = true) (p_is_whole : PySem.W.keepIn K (.ref f_is_whole) = true)
    (a_is_cell : PySem.W.nsIn K mainGlobals "is_cell" = some (some (.ref f_is_cell))) (l_is_cell : K.lookup f_is_cell = some ⟨oc_is_cell, od_is_cell, .func (PySem.W.fnOf "is_cell" "is_cell" (defArgs s_is_cell) (defBody s_is_cell) (defScope s_is_cell) .none kV_is_cell dc_is_cell pm_is_cell an_is_cell cd_is_cell ct_is_cell), sl_is_cell⟩) (c_is_cell : PySem.W.codeIn K cd_is_cell "is_cell" = true) (p_is_cell : PySem.W.keepIn K (.ref f_is_cell) = true)
    (a_is_row : PySem.W.nsIn K mainGlobals "is_row" = some (some (.ref f_is_row))) (l_is_row : K.lookup f_is_row = some ⟨oc_is_row, od_is_row, .func (PySem.W.fnOf "is_row" "is_row" (defArgs s_is_row) (defBody s_is_row) (defScope s_is_row) .none kV_is_row dc_is_row pm_is_row an_is_row cd_is_row ct_is_row), sl_is_row⟩) (c_is_row : PySem.W.codeIn K cd_is_row "is_row" = true) (p_is_row : PySem.W.keepIn K (.ref f_is_row) = true)
    (a_is_picture : PySem.W.nsIn K mainGlobals "is_picture" = some (some (.ref f_is_picture))) (l_is_picture : K.lookup f_is_picture = some ⟨oc_is_picture, od_is_picture, .func (PySem.W.fnOf "is_picture" "is_picture" (defArgs s_is_picture) (defBody s_is_picture) (defScope s_is_picture) .none kV_is_picture dc_is_picture pm_is_picture an_is_picture cd_is_picture ct_is_picture), sl_is_picture⟩) (c_is_picture : PySem.W.codeIn K cd_is_picture "is_picture" = true) (p_is_picture : PySem.W.keepIn K (.ref f_is_picture) = true)
    (a_need_picture : PySem.W.nsIn K mainGlobals "need_picture" = some (some (.ref f_need_picture))) (l_need_picture : K.lookup f_need_picture = some ⟨oc_need_picture, od_need_picture, .func (PySem.W.fnOf "need_picture" "need_picture" (defArgs s_need_picture) (defBody s_need_picture) (defScope s_need_picture) .none kV_need_picture dc_need_picture pm_need_picture an_need_picture cd_need_picture ct_need_picture), sl_need_picture⟩) (c_need_picture : PySem.W.codeIn K cd_need_picture "need_picture" = true) (p_need_picture : PySem.W.keepIn K (.ref f_need_picture) = true)
    (a_brightness : PySem.W.nsIn K mainGlobals "brightness" = some (some (.ref f_brightness))) (l_brightness : K.lookup f_brightness = some ⟨oc_brightness, od_brightness, .func (PySem.W.fnOf "brightness" "brightness" (defArgs s_brightness) (defBody s_brightness) (defScope s_brightness) .none kV_brightness dc_brightness pm_brightness an_brightness cd_brightness ct_brightness), sl_brightness⟩) (c_brightness : PySem.W.codeIn K cd_brightness "brightness" = true) (p_brightness : PySem.W.keepIn K (.ref f_brightness) = true)
    (a_counted : PySem.W.nsIn K mainGlobals "counted" = some (some (.ref f_counted))) (l_counted : K.lookup f_counted = some ⟨oc_counted, od_counted, .func (PySem.W.fnOf "counted" "counted" (defArgs s_counted) (defBody s_counted) (defScope s_counted) .none kV_counted dc_counted pm_counted an_counted cd_counted ct_counted), sl_counted⟩) (c_counted : PySem.W.codeIn K cd_counted "counted" = true) (p_counted : PySem.W.keepIn K (.ref f_counted) = true)
    (a_mirrored : PySem.W.nsIn K mainGlobals "mirrored" = some (some (.ref f_mirrored))) (l_mirrored : K.lookup f_mirrored = some ⟨oc_mirrored, od_mirrored, .func (PySem.W.fnOf "mirrored" "mirrored" (defArgs s_mirrored) (defBody s_mirrored) (defScope s_mirrored) .none kV_mirrored dc_mirrored pm_mirrored an_mirrored cd_mirrored ct_mirrored), sl_mirrored⟩) (c_mirrored : PySem.W.codeIn K cd_mirrored "mirrored" = true) (p_mirrored : PySem.W.keepIn K (.ref f_mirrored) = true)
    (a_size_of : PySem.W.nsIn K mainGlobals "size_of" = some (some (.ref f_size_of))) (l_size_of : K.lookup f_size_of = some ⟨oc_size_of, od_size_of, .func (PySem.W.fnOf "size_of" "size_of" (defArgs s_size_of) (defBody s_size_of) (defScope s_size_of) .none kV_size_of dc_size_of pm_size_of an_size_of cd_size_of ct_size_of), sl_size_of⟩) (c_size_of : PySem.W.codeIn K cd_size_of "size_of" = true) (p_size_of : PySem.W.keepIn K (.ref f_size_of) = true)
    (a_turned : PySem.W.nsIn K mainGlobals "turned" = some (some (.ref f_turned))) (l_turned : K.lookup f_turned = some ⟨oc_turned, od_turned, .func (PySem.W.fnOf "turned" "turned" (defArgs s_turned) (defBody s_turned) (defScope s_turned) .none kV_turned dc_turned pm_turned an_turned cd_turned ct_turned), sl_turned⟩) (c_turned : PySem.W.codeIn K cd_turned "turned" = true) (p_turned : PySem.W.keepIn K (.ref f_turned) = true)
    (a__law_no : PySem.W.nsIn K mainGlobals "_law_no" = some (some (.ref f__law_no))) (l__law_no : K.lookup f__law_no = some ⟨oc__law_no, od__law_no, .func (PySem.W.fnOf "_law_no" "_law_no" (defArgs s__law_no) (defBody s__law_no) (defScope s__law_no) .none kV__law_no dc__law_no pm__law_no an__law_no cd__law_no ct__law_no), sl__law_no⟩) (c__law_no : PySem.W.codeIn K cd__law_no "_law_no" = true) (p__law_no : PySem.W.keepIn K (.ref f__law_no) = true)
    (a__law_drawn : PySem.W.nsIn K mainGlobals "_law_drawn" = some (some (.ref f__law_drawn))) (l__law_drawn : K.lookup f__law_drawn = some ⟨oc__law_drawn, od__law_drawn, .func (PySem.W.fnOf "_law_drawn" "_law_drawn" (defArgs s__law_drawn) (defBody s__law_drawn) (defScope s__law_drawn) .none kV__law_drawn dc__law_drawn pm__law_drawn an__law_drawn cd__law_drawn ct__law_drawn), sl__law_drawn⟩) (c__law_drawn : PySem.W.codeIn K cd__law_drawn "_law_drawn" = true) (p__law_drawn : PySem.W.keepIn K (.ref f__law_drawn) = true)
    (a__law_picture : PySem.W.nsIn K mainGlobals "_law_picture" = some (some (.ref f__law_picture))) (l__law_picture : K.lookup f__law_picture = some ⟨oc__law_picture, od__law_picture, .func (PySem.W.fnOf "_law_picture" "_law_picture" (defArgs s__law_picture) (defBody s__law_picture) (defScope s__law_picture) .none kV__law_picture dc__law_picture pm__law_picture an__law_picture cd__law_picture ct__law_picture), sl__law_picture⟩) (c__law_picture : PySem.W.codeIn K cd__law_picture "_law_picture" = true) (p__law_picture : PySem.W.keepIn K (.ref f__law_picture) = true)
    (a__law_some : PySem.W.nsIn K mainGlobals "_law_some" = some (some (.ref f__law_some))) (l__law_some : K.lookup f__law_some = some ⟨oc__law_some, od__law_some, .func (PySem.W.fnOf "_law_some" "_law_some" (defArgs s__law_some) (defBody s__law_some) (defScope s__law_some) .none kV__law_some dc__law_some pm__law_some an__law_some cd__law_some ct__law_some), sl__law_some⟩) (c__law_some : PySem.W.codeIn K cd__law_some "_law_some" = true) (p__law_some : PySem.W.keepIn K (.ref f__law_some) = true)
    (a__law_turned : PySem.W.nsIn K mainGlobals "_law_turned" = some (some (.ref f__law_turned))) (l__law_turned : K.lookup f__law_turned = some ⟨oc__law_turned, od__law_turned, .func (PySem.W.fnOf "_law_turned" "_law_turned" (defArgs s__law_turned) (defBody s__law_turned) (defScope s__law_turned) .none kV__law_turned dc__law_turned pm__law_turned an__law_turned cd__law_turned ct__law_turned), sl__law_turned⟩) (c__law_turned : PySem.W.codeIn K cd__law_turned "_law_turned" = true) (p__law_turned : PySem.W.keepIn K (.ref f__law_turned) = true)
    (a_law : PySem.W.nsIn K mainGlobals "law" = some (some (.ref f_law))) (l_law : K.lookup f_law = some ⟨oc_law, od_law, .func (PySem.W.fnOf "law" "law" (defArgs s_law) (defBody s_law) (defScope s_law) .none kV_law dc_law pm_law an_law cd_law ct_law), sl_law⟩) (c_law : PySem.W.codeIn K cd_law "law" = true) (p_law : PySem.W.keepIn K (.ref f_law) = true)
    : ∃ fd : FuncData, (∀ (s : Shared) (v : Value), BindsTo s fd ⟨[v], []⟩ [("_law_script", v)]) ∧ ∀ base : Heap, K.In base → base.Ns mainGlobals mg → FnOk l.prog w K mg base CX0 9 fa fd ["_law_script"] (spD K 1 F_law) := by
  have e := hfa.symm.trans (PySem.W.mg_of X G a_law)
  cases e
  have X_NoPicture : XIn K C_NoPicture := ⟨v1_NoPicture, v2_NoPicture, v3_NoPicture, v4_NoPicture, v5_NoPicture, v6_NoPicture, v7_NoPicture, v8_NoPicture⟩
  have t_SeamError : ∀ c C', subX c "SeamError" = true → PySem.W.nsIn K mainGlobals c = some (some (.ref C')) → PySem.W.exmOne K (.ref C') (.ref C_SeamError) = some true := by
    intro c C' h1 h2
    rcases sub_cases h1 with rfl
    · cases o_NoPicture.symm.trans h2
      exact m_NoPicture_SeamError
  have i_NoMarks : ∀ c C', subX c c = true → PySem.W.nsIn K mainGlobals c = some (some (.ref C')) → XIn K C' ∧ PySem.W.kitOne K (.ref C') (.ref C_NoMarks) = some (subX c "NoMarks") := by
    intro c C' h1 h2
    rcases sub_cases h1 with rfl
    · cases o_NoPicture.symm.trans h2
      exact ⟨X_NoPicture, by rw [show subX "NoPicture" "NoMarks" = false from by decide]; exact z_NoPicture_NoMarks⟩
  have i_NoPicture : ∀ c C', subX c c = true → PySem.W.nsIn K mainGlobals c = some (some (.ref C')) → XIn K C' ∧ PySem.W.kitOne K (.ref C') (.ref C_NoPicture) = some (subX c "NoPicture") := by
    intro c C' h1 h2
    rcases sub_cases h1 with rfl
    · cases o_NoPicture.symm.trans h2
      exact ⟨X_NoPicture, by rw [show subX "NoPicture" "NoPicture" = true from by decide]; exact z_NoPicture_NoPicture⟩
  have i_ValueError : ∀ c C', subX c c = true → PySem.W.nsIn K mainGlobals c = some (some (.ref C')) → XIn K C' ∧ PySem.W.kitOne K (.ref C') (.type "ValueError") = some (subX c "ValueError") := by
    intro c C' h1 h2
    rcases sub_cases h1 with rfl
    · cases o_NoPicture.symm.trans h2
      exact ⟨X_NoPicture, by rw [show subX "NoPicture" "ValueError" = true from by decide]; exact z_NoPicture_ValueError⟩
  have T : Txt K mg := ⟨⟨_, PySem.W.mg_of X G x_MOST_CELL⟩, ⟨_, PySem.W.mg_of X G x_MOST_LONG⟩, PySem.W.mg_none_of X G n_ValueError, PySem.W.mg_none_of X G n_all, PySem.W.mg_none_of X G n_bool, PySem.W.mg_none_of X G n_int, PySem.W.mg_none_of X G n_isinstance, PySem.W.mg_none_of X G n_len, PySem.W.mg_none_of X G n_list, PySem.W.mg_none_of X G n_range, PySem.W.mg_none_of X G n_set, PySem.W.mg_none_of X G n_sorted, PySem.W.mg_none_of X G n_sum, PySem.W.mg_none_of X G n_tuple, k_int, k_bool, k_tuple, k_list, ⟨C_NoPicture, o_NoPicture, PySem.W.mg_of X G o_NoPicture, e_NoPicture⟩, ⟨C_SeamError, PySem.W.mg_of X G o_SeamError, t_SeamError⟩, ⟨C_NoMarks, PySem.W.mg_of X G o_NoMarks, i_NoMarks⟩, ⟨C_NoPicture, PySem.W.mg_of X G o_NoPicture, i_NoPicture⟩, i_ValueError⟩
  have u_is_line := fun_mk (st := s_is_line) l_is_line c_is_line p_is_line
  have u_is_whole := fun_mk (st := s_is_whole) l_is_whole c_is_whole p_is_whole
  have u_is_cell := fun_mk (st := s_is_cell) l_is_cell c_is_cell p_is_cell
  have u_is_row := fun_mk (st := s_is_row) l_is_row c_is_row p_is_row
  have u_is_picture := fun_mk (st := s_is_picture) l_is_picture c_is_picture p_is_picture
  have u_need_picture := fun_mk (st := s_need_picture) l_need_picture c_need_picture p_need_picture
  have u_brightness := fun_mk (st := s_brightness) l_brightness c_brightness p_brightness
  have u_counted := fun_mk (st := s_counted) l_counted c_counted p_counted
  have u_mirrored := fun_mk (st := s_mirrored) l_mirrored c_mirrored p_mirrored
  have u_size_of := fun_mk (st := s_size_of) l_size_of c_size_of p_size_of
  have u_turned := fun_mk (st := s_turned) l_turned c_turned p_turned
  have u__law_no := fun_mk (st := s__law_no) l__law_no c__law_no p__law_no
  have u__law_drawn := fun_mk (st := s__law_drawn) l__law_drawn c__law_drawn p__law_drawn
  have u__law_picture := fun_mk (st := s__law_picture) l__law_picture c__law_picture p__law_picture
  have u__law_some := fun_mk (st := s__law_some) l__law_some c__law_some p__law_some
  have u__law_turned := fun_mk (st := s__law_turned) l__law_turned c__law_turned p__law_turned
  have u_law := fun_mk (st := s_law) l_law c_law p_law
  have b_is_line := u_is_line.binds (ps := ["thing"]) fun _ _ _ _ _ _ us hl => lk1 hl fun _ => rfl
  have b_is_whole := u_is_whole.binds (ps := ["thing"]) fun _ _ _ _ _ _ us hl => lk1 hl fun _ => rfl
  have b_is_cell := u_is_cell.binds (ps := ["thing"]) fun _ _ _ _ _ _ us hl => lk1 hl fun _ => rfl
  have b_is_row := u_is_row.binds (ps := ["thing"]) fun _ _ _ _ _ _ us hl => lk1 hl fun _ => rfl
  have b_is_picture := u_is_picture.binds (ps := ["thing"]) fun _ _ _ _ _ _ us hl => lk1 hl fun _ => rfl
  have b_need_picture := u_need_picture.binds (ps := ["thing"]) fun _ _ _ _ _ _ us hl => lk1 hl fun _ => rfl
  have b_brightness := u_brightness.binds (ps := ["picture"]) fun _ _ _ _ _ _ us hl => lk1 hl fun _ => rfl
  have b_counted := u_counted.binds (ps := ["picture"]) fun _ _ _ _ _ _ us hl => lk1 hl fun _ => rfl
  have b_mirrored := u_mirrored.binds (ps := ["picture"]) fun _ _ _ _ _ _ us hl => lk1 hl fun _ => rfl
  have b_size_of := u_size_of.binds (ps := ["picture"]) fun _ _ _ _ _ _ us hl => lk1 hl fun _ => rfl
  have b_turned := u_turned.binds (ps := ["picture"]) fun _ _ _ _ _ _ us hl => lk1 hl fun _ => rfl
  have b__law_no := u__law_no.binds (ps := ["_law_way", "_law_thing"]) fun _ _ _ _ _ _ us hl => lk2 hl fun _ _ => rfl
  have b__law_drawn := u__law_drawn.binds (ps := ["_law_script", "_law_k", "_law_many"]) fun _ _ _ _ _ _ us hl => lk3 hl fun _ _ _ => rfl
  have b__law_picture := u__law_picture.binds (ps := ["_law_script", "_law_at", "_law_broad", "_law_tall"]) fun _ _ _ _ _ _ us hl => lk4 hl fun _ _ _ _ => rfl
  have b__law_some := u__law_some.binds (ps := ["_law_script", "_law_at", "_law_broad", "_law_tall"]) fun _ _ _ _ _ _ us hl => lk4 hl fun _ _ _ _ => rfl
  have b__law_turned := u__law_turned.binds (ps := ["_law_rows"]) fun _ _ _ _ _ _ us hl => lk1 hl fun _ => rfl
  have b_law := u_law.binds (ps := ["_law_script"]) fun _ _ _ _ _ _ us hl => lk1 hl fun _ => rfl
  refine ⟨PySem.W.fnOf "law" "law" (defArgs s_law) (defBody s_law) (defScope s_law) .none kV_law dc_law pm_law an_law cd_law ct_law, fun s v => .of_eq rfl, fun base _ _ => ?_⟩
  have G_is_line : FnD l.prog w K mg base 1 "is_line" 1 F_is_line := ok_is_line u_is_line (PySem.W.mg_of X G a_is_line) b_is_line T
  have G_is_whole : FnD l.prog w K mg base 1 "is_whole" 1 F_is_whole := ok_is_whole u_is_whole (PySem.W.mg_of X G a_is_whole) b_is_whole T
  have G_is_cell : FnD l.prog w K mg base 2 "is_cell" 1 F_is_cell := ok_is_cell u_is_cell (PySem.W.mg_of X G a_is_cell) b_is_cell T G_is_whole
  have G_is_row : FnD l.prog w K mg base 3 "is_row" 1 F_is_row := ok_is_row u_is_row (PySem.W.mg_of X G a_is_row) b_is_row T G_is_cell G_is_line
  have G_is_picture : FnD l.prog w K mg base 4 "is_picture" 1 F_is_picture := ok_is_picture u_is_picture (PySem.W.mg_of X G a_is_picture) b_is_picture T G_is_line G_is_row
  have G_need_picture : FnX l.prog w K mg base 5 "need_picture" 1 F_need_picture := ok_need_picture u_need_picture (PySem.W.mg_of X G a_need_picture) b_need_picture T G_is_picture
  have G_brightness : FnX l.prog w K mg base 6 "brightness" 1 F_brightness := ok_brightness u_brightness (PySem.W.mg_of X G a_brightness) b_brightness T G_need_picture
  have G_counted : FnX l.prog w K mg base 6 "counted" 1 F_counted := ok_counted u_counted (PySem.W.mg_of X G a_counted) b_counted T G_need_picture
  have G_mirrored : FnX l.prog w K mg base 6 "mirrored" 1 F_mirrored := ok_mirrored u_mirrored (PySem.W.mg_of X G a_mirrored) b_mirrored T G_need_picture
  have G_size_of : FnX l.prog w K mg base 6 "size_of" 1 F_size_of := ok_size_of u_size_of (PySem.W.mg_of X G a_size_of) b_size_of T G_need_picture
  have G_turned : FnX l.prog w K mg base 7 "turned" 1 F_turned := ok_turned u_turned (PySem.W.mg_of X G a_turned) b_turned T G_size_of
  have G__law_no : FnD l.prog w K mg base 8 "_law_no" 2 F__law_no := ok__law_no u__law_no (PySem.W.mg_of X G a__law_no) b__law_no T G_brightness G_counted G_mirrored G_size_of G_turned
  have G__law_drawn : FnD l.prog w K mg base 1 "_law_drawn" 3 F__law_drawn := ok__law_drawn u__law_drawn (PySem.W.mg_of X G a__law_drawn) b__law_drawn T
  have G__law_picture : FnD l.prog w K mg base 2 "_law_picture" 4 F__law_picture := ok__law_picture u__law_picture (PySem.W.mg_of X G a__law_picture) b__law_picture T G__law_drawn
  have G__law_some : FnD l.prog w K mg base 3 "_law_some" 4 F__law_some := ok__law_some u__law_some (PySem.W.mg_of X G a__law_some) b__law_some T G__law_drawn G__law_picture
  have G__law_turned : FnD l.prog w K mg base 1 "_law_turned" 1 F__law_turned := ok__law_turned u__law_turned (PySem.W.mg_of X G a__law_turned) b__law_turned T
  exact fnD (k := 8) u_law sc_law rfl rfl (fun cdv A outer s H E hr => bd_law T G__law_no G__law_some G__law_turned G_brightness G_counted G_is_picture G_mirrored G_size_of G_turned hr) fun ds d _ e => e
end K01
namespace K01
open PySem PySem.Spec L2 Pu
theorem walk {l : PySem.W.OpenLaw} {q : Program} {loose : List Str} {XP : (Str → Option Value) → Heap → Prop} {YP : World → Heap → Prop} {d : DefRec} {K : Params → PySem.W.Frag} (hn : l.most = some 63) (hdf : d.params.defaults = [])
    (hY : ∀ (w : World) (h : Heap), YP w h → (K w.params).In h)
    (F : ∀ (w : World) (mg : Str → Option Value) (fa : Addr) (h : Heap), (K w.params).In h → h.Ns mainGlobals mg → mg d.name = some (.ref fa) →
      ∃ fd : FuncData, (∀ (s : Shared) (u : Value), BindsTo s fd ⟨[u], []⟩ [("_law_script", u)]) ∧ ∀ base : Heap, (K w.params).In base → base.Ns mainGlobals mg → FnOk l.prog w (K w.params) mg base CX0 9 fa fd ["_law_script"] (spD (K w.params) 1 F_law)) :
    PySem.W.WalkO q loose XP YP l.row.toRowW d [] (fun f vs => PySem.call f vs) :=
  L2.walk_of (n := 63) (k := 9) (x := "_law_script") (CX := fun _ => CX0) (sp := fun w => spD (K w.params) 1 F_law) hn (by decide) hdf ⟨rfl, by decide, by decide⟩ hY F (fun _ _ a ns hl _ hS => sp_law hS (law_true ns hl)) fun _ _ _ _ _ z => z
end K01
open PySem PySem.W PyProof.Rows
set_option maxRecDepth 100000 in
set_option maxHeartbeats 0 in
theorem PySem.Challenge.cw_seamhall_k01_pictures_holds : PySem.Challenge.rw_seamhall_k01_pictures.Holds := by
  w_on; o_law; k_head; (case hw => w_witness2)
  k_fill
  refine K01.walk (l := PySem.Challenge.rw_seamhall_k01_pictures) rfl rfl (fun w h Y => PySem.W.kIn_of Y) ?F
  case F =>
    intro w mg fa h KX G hmg
    refine' K01.all_mk KX G hmg ?x_MOST_CELL ?x_MOST_LONG ?n_ValueError ?n_all ?n_bool ?n_int ?n_isinstance ?n_len ?n_list ?n_range ?n_set ?n_sorted ?n_sum ?n_tuple ?k_int ?k_bool ?k_tuple ?k_list ?o_NoMarks ?o_NoPicture ?o_SeamError ?e_NoPicture ?v1_NoPicture ?v2_NoPicture ?v3_NoPicture ?v4_NoPicture ?v5_NoPicture ?v6_NoPicture ?v7_NoPicture ?v8_NoPicture ?m_NoPicture_SeamError ?z_NoPicture_NoMarks ?z_NoPicture_NoPicture ?z_NoPicture_ValueError ?a_is_line ?l_is_line ?c_is_line ?p_is_line ?a_is_whole ?l_is_whole ?c_is_whole ?p_is_whole ?a_is_cell ?l_is_cell ?c_is_cell ?p_is_cell ?a_is_row ?l_is_row ?c_is_row ?p_is_row ?a_is_picture ?l_is_picture ?c_is_picture ?p_is_picture ?a_need_picture ?l_need_picture ?c_need_picture ?p_need_picture ?a_brightness ?l_brightness ?c_brightness ?p_brightness ?a_counted ?l_counted ?c_counted ?p_counted ?a_mirrored ?l_mirrored ?c_mirrored ?p_mirrored ?a_size_of ?l_size_of ?c_size_of ?p_size_of ?a_turned ?l_turned ?c_turned ?p_turned ?a__law_no ?l__law_no ?c__law_no ?p__law_no ?a__law_drawn ?l__law_drawn ?c__law_drawn ?p__law_drawn ?a__law_picture ?l__law_picture ?c__law_picture ?p__law_picture ?a__law_some ?l__law_some ?c__law_some ?p__law_some ?a__law_turned ?l__law_turned ?c__law_turned ?p__law_turned ?a_law ?l_law ?c_law ?p_law
    (case x_MOST_CELL => k_is)
    (case x_MOST_LONG => k_is)
    (case n_ValueError => k_is)
    (case n_all => k_is)
    (case n_bool => k_is)
    (case n_int => k_is)
    (case n_isinstance => k_is)
    (case n_len => k_is)
    (case n_list => k_is)
    (case n_range => k_is)
    (case n_set => k_is)
    (case n_sorted => k_is)
    (case n_sum => k_is)
    (case n_tuple => k_is)
    (case k_int => intro d; cases d; (show PySem.W.kitOne _ (Value.type "NoneType") (Value.type "int") = some false); kit_is; (show PySem.W.kitOne _ (Value.type "bool") (Value.type "int") = some true); kit_is; (show PySem.W.kitOne _ (Value.type "int") (Value.type "int") = some true); kit_is; (show PySem.W.kitOne _ (Value.type "str") (Value.type "int") = some false); kit_is; (show PySem.W.kitOne _ (Value.type "tuple") (Value.type "int") = some false); kit_is; (show PySem.W.kitOne _ (Value.type "list") (Value.type "int") = some false); kit_is)
    (case k_bool => intro d; cases d; (show PySem.W.kitOne _ (Value.type "NoneType") (Value.type "bool") = some false); kit_is; (show PySem.W.kitOne _ (Value.type "bool") (Value.type "bool") = some true); kit_is; (show PySem.W.kitOne _ (Value.type "int") (Value.type "bool") = some false); kit_is; (show PySem.W.kitOne _ (Value.type "str") (Value.type "bool") = some false); kit_is; (show PySem.W.kitOne _ (Value.type "tuple") (Value.type "bool") = some false); kit_is; (show PySem.W.kitOne _ (Value.type "list") (Value.type "bool") = some false); kit_is)
    (case k_tuple => intro d; cases d; (show PySem.W.kitOne _ (Value.type "NoneType") (Value.type "tuple") = some false); kit_is; (show PySem.W.kitOne _ (Value.type "bool") (Value.type "tuple") = some false); kit_is; (show PySem.W.kitOne _ (Value.type "int") (Value.type "tuple") = some false); kit_is; (show PySem.W.kitOne _ (Value.type "str") (Value.type "tuple") = some false); kit_is; (show PySem.W.kitOne _ (Value.type "tuple") (Value.type "tuple") = some true); kit_is; (show PySem.W.kitOne _ (Value.type "list") (Value.type "tuple") = some false); kit_is)
    (case k_list => intro d; cases d; (show PySem.W.kitOne _ (Value.type "NoneType") (Value.type "list") = some false); kit_is; (show PySem.W.kitOne _ (Value.type "bool") (Value.type "list") = some false); kit_is; (show PySem.W.kitOne _ (Value.type "int") (Value.type "list") = some false); kit_is; (show PySem.W.kitOne _ (Value.type "str") (Value.type "list") = some false); kit_is; (show PySem.W.kitOne _ (Value.type "tuple") (Value.type "list") = some false); kit_is; (show PySem.W.kitOne _ (Value.type "list") (Value.type "list") = some true); kit_is)
    (case o_NoMarks => k_is)
    (case o_NoPicture => k_is)
    (case o_SeamError => k_is)
    (case e_NoPicture => k_exc)
    (case v1_NoPicture => first | k_is | kernel_rfl)
    (case v2_NoPicture => first | k_is | kernel_rfl)
    (case v3_NoPicture => first | k_is | kernel_rfl)
    (case v4_NoPicture => first | k_is | kernel_rfl)
    (case v5_NoPicture => first | k_is | kernel_rfl)
    (case v6_NoPicture => first | k_is | kernel_rfl)
    (case v7_NoPicture => first | k_is | kernel_rfl)
    (case v8_NoPicture => first | k_is | kernel_rfl)
    (case m_NoPicture_SeamError => first | k_is | kernel_rfl)
    (case z_NoPicture_NoMarks => kit_is)
    (case z_NoPicture_NoPicture => kit_is)
    (case z_NoPicture_ValueError => kit_is)
    (case a_is_line => k_is)
    (case l_is_line => k_is)
    (case c_is_line => k_is)
    (case p_is_line => k_is)
    (case a_is_whole => k_is)
    (case l_is_whole => k_is)
    (case c_is_whole => k_is)
    (case p_is_whole => k_is)
    (case a_is_cell => k_is)
    (case l_is_cell => k_is)
    (case c_is_cell => k_is)
    (case p_is_cell => k_is)
    (case a_is_row => k_is)
    (case l_is_row => k_is)
    (case c_is_row => k_is)
    (case p_is_row => k_is)
    (case a_is_picture => k_is)
    (case l_is_picture => k_is)
    (case c_is_picture => k_is)
    (case p_is_picture => k_is)
    (case a_need_picture => k_is)
    (case l_need_picture => k_is)
    (case c_need_picture => k_is)
    (case p_need_picture => k_is)
    (case a_brightness => k_is)
    (case l_brightness => k_is)
    (case c_brightness => k_is)
    (case p_brightness => k_is)
    (case a_counted => k_is)
    (case l_counted => k_is)
    (case c_counted => k_is)
    (case p_counted => k_is)
    (case a_mirrored => k_is)
    (case l_mirrored => k_is)
    (case c_mirrored => k_is)
    (case p_mirrored => k_is)
    (case a_size_of => k_is)
    (case l_size_of => k_is)
    (case c_size_of => k_is)
    (case p_size_of => k_is)
    (case a_turned => k_is)
    (case l_turned => k_is)
    (case c_turned => k_is)
    (case p_turned => k_is)
    (case a__law_no => k_is)
    (case l__law_no => k_is)
    (case c__law_no => k_is)
    (case p__law_no => k_is)
    (case a__law_drawn => k_is)
    (case l__law_drawn => k_is)
    (case c__law_drawn => k_is)
    (case p__law_drawn => k_is)
    (case a__law_picture => k_is)
    (case l__law_picture => k_is)
    (case c__law_picture => k_is)
    (case p__law_picture => k_is)
    (case a__law_some => k_is)
    (case l__law_some => k_is)
    (case c__law_some => k_is)
    (case p__law_some => k_is)
    (case a__law_turned => k_is)
    (case l__law_turned => k_is)
    (case c__law_turned => k_is)
    (case p__law_turned => k_is)
    (case a_law => k_is)
    (case l_law => k_is)
    (case c_law => k_is)
    (case p_law => k_is)
