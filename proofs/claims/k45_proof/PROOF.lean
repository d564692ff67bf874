import PyProof.Rows.All
import Wide.All
import OpenK.AllK
import Wide.FinOn
import Lean
import PyProof.EqAt
import PyProof.EqKinds
import PyProof.TupleCall
import PyProof.NeKinds
import PySem.Challenge.RW_seamhall_k45_together
set_option bootstrap.genMatcherCode false
set_option compiler.extract_closed false
set_option genSizeOf false
set_option genInjectivity false
set_option tactic.hygienic false
set_option Elab.async false
set_option linter.all false
set_option maxRecDepth 100000
set_option maxHeartbeats 4000000
theorem z0a (n : Nat) : (0 : Int) ≤ (n : Int) := Int.natCast_nonneg n
theorem z0b {a b c : Nat} (h : a ≤ b) (k : b ≤ c) : a ≤ c := Nat.le_trans h k
theorem z0c {a b c : Nat} (h : a ≤ b) (k : b < c) : a < c := Nat.lt_of_le_of_lt h k
theorem z0d {a b c : Nat} (h : a < b) (k : b ≤ c) : a < c := Nat.lt_of_lt_of_le h k
theorem z0e {a b : Nat} (h : a < b) : a ≤ b := Nat.le_of_lt h
theorem z0f {a b : Nat} (h : a = b) : a ≤ b := Nat.le_of_eq h
theorem z0g (a : Nat) : a ≤ a := Nat.le_refl a
theorem z1a {h : PySem.Heap} {a : PySem.Addr} {o' : PySem.Obj} (o : PySem.Obj) (e : h.get? a = some o') : (h.push o).get? a = some o' := PySem.Heap.get?_push_of_some o e
theorem z1b {α : Type _} {i : Nat} {a : α} {l : List α} (h : l[i]? = some a) : ∃ h : i < l.length, l[i] = a := List.getElem?_eq_some_iff.mp h
theorem z1c {α : Type _} {as : List α} : as.toArray.size = as.length := List.size_toArray
theorem z1d {α : Type _} {as bs : List α} : (as ++ bs).length = as.length + bs.length := List.length_append
theorem z1e {α : Type _} {l : List α} {i j : Nat} (h : i ≠ j) {a : α} : (l.set i a)[j]? = l[j]? := List.getElem?_set_ne h
theorem z1f (h : PySem.Heap) {o : PySem.Obj} (e : o.isFreed = false) : (h.push o).get? h.objs.size = some o := PySem.Heap.get?_push_size h e
theorem z1g {α : Type _} {β : Type _} {as : List α} (f : α → β) : (as.map f).length = as.length := List.length_map f
theorem z1h {α : Type _} {β : Type _} {f : α → β} {a : α} {l : List α} : (a :: l).map f = f a :: l.map f := rfl
theorem z2a {α : Type _} {l : List α} {i : Nat} {a : α} (h : i < l.length) : (l.set i a)[i]? = some a := List.getElem?_set_self h
theorem z2b {α : Type _} {β : Type _} {f : α → β} {l : List α} {i : Nat} : (l.map f)[i]? = Option.map f l[i]? := List.getElem?_map
theorem z2c {h : PySem.Heap} {a : PySem.Addr} {o : PySem.Obj} (e : h.get? a = some o) : a < h.objs.size := PySem.Heap.lt_size e
theorem z2d {n : Nat} : (List.range n).length = n := List.length_range
theorem z2e {m n : Nat} (h : m ∈ List.range n) : m < n := List.mem_range.mp h
theorem z2f {α : Type _} (y : α) {a : α} {l : List α} (h : a ∈ l) : a ∈ y :: l := List.mem_cons_of_mem y h
theorem aN (h:True:=by rfl):True:=trivial
theorem cD (h:True:=by decide):True:=trivial
theorem lJ (h:True:=by first |exact Or.inl rfl |exact Or.inr rfl):True:=trivial
theorem lK (h:True:=by first |exact .inl rfl |exact .inr rfl):True:=trivial
theorem su (h:True:=by first |exact Or.inl rfl |exact Or.inr (Or.inl rfl) |exact Or.inr (Or.inr rfl)):True:=trivial
theorem yN (h:True:=by intro _u;rfl):True:=trivial
theorem ap6 (h:True:=by first |exact .inl rfl |exact .inr rfl |assumption):True:=trivial
theorem ap7 (h:True:=by with_unfolding_all rfl):True:=trivial
theorem ap8 (h:True:=by exact λ _u _u=>rfl):True:=trivial
theorem ap9 (h:True:=by exact Nat.le_of_ble_eq_true rfl):True:=trivial
theorem af4 (h:True:=by exact nomark _):True:=trivial
theorem oq0 {x0 x1 x2:Nat} (a0:x0=x2) (a1:x2<=x1):x0<=x1:=by (subst a0;exact a1)
theorem Qg {x0 x1 x2:Nat} (a0:x2=x0) (a1:x2<=x1):x0<=x1:=by (subst a0;exact a1)
theorem oq2 {x0 x1:Nat} (a0:x0<=x1):(((x0:Nat):Int) - ((x1:Nat):Int))<=(0:Int):=by exact Int.sub_nonpos_of_le (Int.ofNat_le.mpr a0)
theorem oq3 {x0 x1:Int} (a0:x1 < x0):((((Int.toNat (x0 - x1)):Nat):Int) - ((0:Nat):Int))=(x0 - x1):=by exact Int.toNat_of_nonneg (Int.sub_nonneg_of_le (Int.le_of_lt a0))
theorem oq4 {x0 x1:Int} (a0:¬(x1 < x0)):((((Int.toNat (x0 - x1)):Nat):Int) - ((0:Nat):Int))=(0:Int):=by (rw[Int.toNat_of_nonpos (Int.sub_nonpos_of_le (Int.not_lt.mp a0))];rfl)
theorem oq5 {x0:Int} (a0:(0:Int) < x0):x0≠(0:Int):=by exact Int.ne_of_gt a0
theorem oq6 {x0 x1 x2 x3:Nat} (a0:((x0+(16*x3))+200) < x2) (a1:x1<=x3):((x0+(16*x1))+200) < x2:=by exact z0c (Nat.add_le_add_right (Nat.add_le_add_left (Nat.mul_le_mul_left 16 a1) _) 200) a0
theorem oq7 {x0 x1 x2 x3:Nat} (a0:((x0+(3*x3))+5) < x2) (a1:x1<=x3):((x0+(3*x1))+5) < x2:=by exact z0c (Nat.add_le_add_right (Nat.add_le_add_left (Nat.mul_le_mul_left 3 a1) _) 5) a0
theorem oq8 {x0 x1 x2:Nat} (a0:((x0+(16*(x1+1)))+200) < x2):(((x0+3)+(16*x1))+200) < x2:=by exact z0c (Nat.add_le_add_right (by rw[Nat.mul_succ,Nat.add_assoc,Nat.add_comm 3];exact Nat.add_le_add_left (Nat.add_le_add_left (by decide) _) _) 200) a0
theorem oq9 {x0 x1 x2:Nat} (a0:((x0+(3*(x1+1)))+5) < x2):(((x0+1)+(3*x1))+5) < x2:=by exact z0c (Nat.add_le_add_right (by rw[Nat.mul_succ,Nat.add_assoc,Nat.add_comm 1];exact Nat.add_le_add_left (Nat.add_le_add_left (by decide) _) _) 5) a0
theorem aiv {x0 x1 x2:Nat} (a0:((x0+(3*x2))+5) < x1):x0 < x1:=by exact z0c (z0b (Nat.le_add_right _ _) (Nat.le_add_right _ _)) a0
theorem aiw {x0 x1:Nat} (a0:(min x0 x1)=x0):x0<=x1:=by exact z0b (z0f a0.symm) (Nat.min_le_right _ _)
theorem acX {x0 x1 x2:Nat} (a0:x0 < x2) (a1:x2=x1):x0 < x1:=by exact a1▸a0
theorem aix {x0 x1 x2:Nat} (a0:x0=x2) (a1:x2<=x1):(x0+(x1 - x0))=x1:=by (subst a0;exact Nat.add_sub_cancel' a1)
theorem aiy {x1:Nat} {x0:Int} (a0:x0 < (0:Int)):(Int.toNat (x0+((x1:Nat):Int)))<=x1:=by exact Int.toNat_le.mpr (Int.le_trans (Int.add_le_add_right (Int.le_of_lt a0) _) (Int.le_of_eq (Int.zero_add _)))
theorem aiz {x1:Nat} {x0:Int} (a0:x0 < (0:Int)):(x0+((x1:Nat):Int))<=((x1:Nat):Int):=by exact Int.le_trans (Int.add_le_add_right (Int.le_of_lt a0) _) (Int.le_of_eq (Int.zero_add _))
theorem aiA:¬((1:Int) < (0:Int)):=by decide
theorem aiB {x0 x1:Nat}:(Int.toNat (((((x0:Nat):Int) - ((x1:Nat):Int)) - (1:Int))+(1:Int)))=(x0 - x1):=by (rw[Int.sub_add_cancel];exact Int.toNat_sub _ _)
theorem aiC {x0 x1:Nat} (a0:¬(((x1:Nat):Int) < ((x0:Nat):Int))):(Int.toNat (0:Int))=(x0 - x1):=by exact (Nat.sub_eq_zero_of_le (Int.ofNat_le.mp (Int.not_lt.mp a0))).symm
theorem aiD {x0 x1:Nat}:(Int.toNat (((x0:Nat):Int)+(((x1:Nat):Int)*(1:Int))))=(x0+x1):=by (rw[Int.mul_one];exact Int.toNat_natCast _)
theorem aiE {x0 x1 x2 x3:Nat} (a0:x2<=x3):(min (x0 - x1) (x2 - x1))<=x3:=by exact z0b (Nat.min_le_right _ _) (z0b (Nat.sub_le _ _) a0)
theorem aiF {x0 x1 x2:Nat} (a0:(x0 - x2)=x1) (a1:x0<=x1):x0=x1:=by (subst a0;exact Nat.le_antisymm a1 (Nat.sub_le _ _))
theorem aiG {x0:Nat} (a0:((x0:Nat):Int)=(0:Int)):x0=(0:Nat):=by exact Int.ofNat.inj a0
theorem aiH {x0 x1 x2:Nat}:(min (x0 - x1) (x2 - x1))<=x2:=by exact z0b (Nat.min_le_right _ _) (Nat.sub_le _ _)
theorem aiI {x0:Nat} {x1:Int} (a0:(0:Int)<=x1):(-((x0:Nat):Int))<=x1:=by exact Int.le_trans (Int.neg_nonpos_of_nonneg (z0a _)) a0
theorem aiJ {x0 x1:Nat} {x2:Int} (a0:(0:Int)<=x2) (a1:(Int.toNat x2)=x0) (a2:x2 < ((x1:Nat):Int)):x0 < x1:=by (subst a1;exact (Int.toNat_lt a0).mpr a2)
theorem aiK {x1:Nat} {x0:Int} (a0:¬((0:Int)<=x0)):x0 < ((x1:Nat):Int):=by exact Int.lt_of_lt_of_le (Int.not_le.mp a0) (z0a _)
theorem aiL {x0 x1:Nat} {x2:Int} (a0:(-((x1:Nat):Int))<=x2) (a1:(Int.toNat (x2+((x1:Nat):Int)))=x0) (a2:¬((0:Int)<=x2)):x0 < x1:=by (subst a1;have h:=Int.add_le_add_right a0 x1;rw[Int.add_left_neg] at h;refine (Int.toNat_lt h).mpr ?_;have q:=Int.add_lt_add_right (Int.not_le.mp a2) x1;rw[Int.zero_add] at q;exact q)
theorem acY {x1 x2:Nat} {x0:Int} (a0:x0 < ((x1:Nat):Int)) (a1:x1<=x2) (a2:x2 < ((2:Nat) ^ (63:Nat))):x0 < ((2:Int) ^ (63:Nat)):=by exact Int.lt_trans a0 (Int.lt_of_lt_of_le (Int.ofNat_lt.mpr (z0c a1 a2)) (by decide:((2 ^ 63:Nat):Int)<=2 ^ 63))
theorem acZ {x1 x2:Nat} {x0:Int} (a0:(-((x1:Nat):Int))<=x0) (a1:x1<=x2) (a2:x2 < ((2:Nat) ^ (63:Nat))):(-((2:Int) ^ (63:Nat)))<=x0:=by exact Int.le_trans (Int.neg_le_neg (Int.le_trans (Int.ofNat_le.mpr (z0e (z0c a1 a2))) (by decide:((2 ^ 63:Nat):Int)<=2 ^ 63))) a0
theorem aiM {x0 x2:Nat} {x1:Int} (a0:(-((x2:Nat):Int))<=x1) (a1:x2=x0):(-((x0:Nat):Int))<=x1:=by exact a1▸a0
theorem aiN {x1 x2:Nat} {x0:Int} (a0:(-((x1:Nat):Int))<=x0) (a1:x1<=x2) (a2:x2 < ((2:Nat) ^ (63:Nat))):¬(x0 < (-((2:Int) ^ (63:Nat)))):=by exact Int.not_lt.mpr (Int.le_trans (Int.neg_le_neg (Int.le_trans (Int.ofNat_le.mpr (z0e (z0c a1 a2))) (by decide:((2 ^ 63:Nat):Int)<=2 ^ 63))) a0)
theorem aiO {x1 x2:Nat} {x0:Int} (a0:x0 < ((x1:Nat):Int)) (a1:x1<=x2) (a2:x2 < ((2:Nat) ^ (63:Nat))):¬(x0>=((2:Int) ^ (63:Nat))):=by exact Int.not_le.mpr (Int.lt_trans a0 (Int.lt_of_lt_of_le (Int.ofNat_lt.mpr (z0c a1 a2)) (by decide:((2 ^ 63:Nat):Int)<=2 ^ 63)))
theorem aiP {x0 x1 x2:Nat} (a0:x2 < x1) (a1:x2=x0):x0<=x1:=by exact z0e (a1▸a0)
theorem aiQ {x0:Int} (a0:(0:Int) < x0):(Int.natAbs x0)≠(0:Nat):=by exact λ h=>Int.ne_of_gt a0 (Int.natAbs_eq_zero.mp h)
theorem aiR {x0:Nat} (a0:x0 < 64):x0 < 9000:=by exact ((λ h=>z0d h (Nat.le_add_left _ _)) a0)
theorem aiS {x0 x1:Nat} (a0:¬(x0 < x1)):x0=(x1+(x0 - x1)):=by exact (Nat.add_sub_cancel' (Nat.not_lt.mp a0)).symm
theorem af5 {x0 x1:Nat}:((x0+x1) - x0)=x1:=by exact Nat.add_sub_cancel_left _ _
theorem aiT {x0 x1 x2:Nat} (a0:x0 < x2) (a1:x2<=x1):x0≠x1:=by exact Nat.ne_of_lt (z0d a0 a1)
theorem af6 {x0 x1:Nat} (a0:x1=(x0+1)):x0<=x1:=by exact a0▸Nat.le_succ _
theorem af7 {x0 x1 x2:Nat} (a0:(x0+1)<=x1) (a1:x0=(x2+1)) (a2:x1 < x2):False:=by (subst a1;exact absurd (z0c a0 a2) (Nat.not_lt.mpr (Nat.le_add_right _ 2)))
theorem af8 {x0 x1 x2:Nat} (a0:(x2+1)<=x1) (a1:x2=(x0+1)):x0<=x1:=by (subst a1;exact z0b (Nat.le_add_right _ 2) a0)
theorem af9 {x0 x1 x2:Nat} (a0:x0 < x2) (a1:x1=(x2+1)):x0≠x1:=by (subst a1;exact Nat.ne_of_lt (Nat.lt_succ_of_lt a0))
theorem aga {x0 x1 x2 x3:Nat} (a0:(x2+1)<=x0) (a1:x1 < x3) (a2:x2=(x3+1)):x0≠x1:=by (subst a2;exact Nat.ne_of_gt (z0d a1 (z0b (Nat.le_add_right _ 2) a0)))
theorem aiU {x0 x1:Nat} (a0:x0=(x1+1)):x0≠x1:=by (subst a0;exact Nat.succ_ne_self _)
theorem aiV {x0 x1 x2:Nat} (a0:(x2+1)<=x0) (a1:x2=(x1+1)):x0≠x1:=by (subst a1;exact Nat.ne_of_gt (z0d (Nat.lt_succ_of_lt (Nat.lt_succ_self _)) a0))
theorem agb {x0 x1:Nat} (a0:x1 < x0):(x0 - (x1+1)) < (x0 - x1):=by exact Nat.sub_lt_sub_left a0 (Nat.lt_succ_self _)
theorem Yq {x0 x1:Nat} (a0:x0<=x1) (a1:¬(x0 < x1)):x0=x1:=by exact Nat.le_antisymm a0 (Nat.not_lt.mp a1)
theorem aiW {x0 x1 x2:Nat} (a0:1000000 < x1) (a1:x2 < 1000000) (a2:x2=x0):x0 < x1:=by exact Nat.lt_trans (a2▸a1) a0
theorem agc {x0 x1 x2 x3:Nat} (a0:x0=(x3+x2)) (a1:x1=x3):(x0 - x1)=x2:=by (subst a0 a1;exact Nat.add_sub_cancel_left _ _)
theorem Yr {x0 x1 x2 x3:Nat} (a0:x0=x3) (a1:x2=(x3+x1)):(x0+x1)=x2:=by (rw[a0,a1])
theorem ac0 {x0 x1 x2:Nat} (a0:x0 < x2) (a1:x1=x2):x0 < x1:=by (subst a1;exact a0)
theorem agd {x0:Nat} (a0:(x0+1)<=0):False:=by exact Nat.not_succ_le_zero _ a0
theorem aiX {x0 x1 x2:Nat} (a0:(x0+(x2+1)) < x1):x0 < x1:=by exact z0c (Nat.le_add_right _ _) a0
theorem agf {x0 x1 x2:Nat} (a0:(x2+1)<=(x1+1)) (a1:x0<=x2):x0<=x1:=by exact z0b a1 (Nat.le_of_lt_succ a0)
theorem aiY {x0 x1 x2:Nat} (a0:(x0+(x1+1)) < x2):((x0+1)+x1) < x2:=by exact z0c (z0f (Nat.succ_add _ _)) a0
theorem agg {x0 x1:Nat} (a0:(x0+60) < x1):x0 < x1:=by exact z0c (Nat.le_add_right _ _) a0
theorem Ys {x0 x1:Nat} (a0:(x1+1)<=40) (a1:x0<=x1):x0<=40:=by exact z0b a1 (Nat.le_of_succ_le a0)
theorem agh {x0 x1:Nat} (a0:(x0+60) < x1):((x0+1)+40) < x1:=by exact z0c (Nat.add_le_add_left (by decide:41<=60) x0) a0
theorem aiZ {x0 x1 x2:Nat} (a0:((x0+(16*x2))+200) < x1):(x0+60) < x1:=by exact z0c (Nat.add_le_add (Nat.le_add_right _ _) (by decide)) a0
theorem ai0 {x0 x1 x2:Nat} (a0:x0<=x2) (a1:x1<=x2):(max x0 x1)<=x2:=by exact Nat.max_le.mpr ⟨a0,a1⟩
theorem ai1:(2147483563:Int)≠(0:Int):=by decide
theorem ai2:(2147483399:Int)≠(0:Int):=by decide
theorem ai3 {x0:Int} (a0:(0:Int)<=x0) (a1:x0 < ((0:Nat):Int)):False:=by exact absurd a1 (Int.not_lt.mpr a0)
theorem ai4 {x1:Nat} {x0:Int} (a0:x0 < (((x1+(1:Nat)):Nat):Int)):(x0 - (1:Int)) < ((x1:Nat):Int):=by exact Int.sub_right_lt_of_lt_add a0
theorem ai5 {x0:Int} (a0:(0:Int) < x0):(0:Int)<=(x0 - (1:Int)):=by exact (Int.sub_nonneg_of_le a0)
theorem ai6 {x0:Int} (a0:x0 < (60:Int)):x0 < ((64:Nat):Int):=by exact Int.lt_trans a0 (by decide)
theorem ai7 {x0:Nat} (a0:x0<=0):(x0+1)<=40:=by exact z0b (Nat.succ_le_succ a0) (by decide)
theorem ai8 {x0:Nat}:(0:Int) < (((x0+(1:Nat)):Nat):Int):=by exact Int.ofNat_lt.mpr (Nat.succ_pos _)
theorem ai9 {x0 x1:Nat} (a0:((x0:Nat):Int) > ((x1:Nat):Int)) (a1:x0<=x1):False:=by exact Nat.not_lt.mpr a1 (Int.ofNat_lt.mp a0)
theorem aja {x0 x1:Nat} (a0:x0<=x1) (a1:x1<=((((2:Nat) ^ (63:Nat)) - (1:Nat)) / (8:Nat))):¬(((x0:Nat):Int) > ((((2:Int) ^ (63:Nat)) - (1:Int)) / (8:Int))):=by exact Int.not_lt.mpr (Int.le_trans (Int.ofNat_le.mpr (z0b a0 a1)) (by decide))
theorem ac1 {x0:Int} (a0:(1:Int)<=x0) (a1:x0 < ((2:Int) ^ (63:Nat))):((-(9223372036854775808:Int))<=x0)/\(x0 < (9223372036854775808:Int)):=by exact⟨Int.le_trans (by decide) a0,Int.lt_of_lt_of_le a1 (by decide)⟩
theorem agi {x0 x1:Nat} (a0:¬(x1<=x0)):x0 < x1:=by exact Nat.not_le.mp a0
theorem ajb {x0 x1 x2 x3:Nat} (a0:(x2<=x1)\/(x3<=x1)) (a1:x3=x0) (a2:¬(x2<=x1)):x0<=x1:=by exact a1▸a0.resolve_left a2
theorem ajP {x0:Nat}:(x0+2)≠(x0+4):=by exact λ h=>absurd (Nat.add_left_cancel h) (by decide)
theorem ajQ {x0:Nat}:(x0+3)≠(x0+4):=by simp
theorem ajR {x0:Nat}:x0≠(x0+4):=by exact λ h=>absurd (Nat.add_left_cancel (n:=x0) (m:=0) h) (by decide)
theorem ajS {x0:Nat}:(x0+1)≠(x0+4):=by exact λ h=>absurd (Nat.add_left_cancel h) (by decide)
theorem ajT {x0:Nat}:(x0+2)≠(x0+3):=by exact λ h=>absurd (Nat.add_left_cancel h) (by decide)
theorem ajU {x0:Nat}:(x0+2)≠x0:=by simp
theorem ajV {x0:Nat}:(x0+2)≠(x0+1):=by exact λ h=>absurd (Nat.add_left_cancel h) (by decide)
theorem ajW {x0:Nat}:(x0+3)≠x0:=by exact λ h=>absurd (Nat.add_left_cancel (n:=x0) (k:=0) h) (by decide)
theorem ajX {x0:Nat}:(x0+3)≠(x0+1):=by exact λ h=>absurd (Nat.add_left_cancel h) (by decide)
theorem ajY {x0:Nat}:x0≠(x0+1):=by simp
theorem ajc {x0 x1 x2:Nat} (a0:(min x0 x2)<=x1):(x0<=x1)\/(x2<=x1):=by exact (Nat.le_total x0 x2).elim (λ h=> .inl (Nat.min_eq_left h▸a0)) (λ h=> .inr (Nat.min_eq_right h▸a0))
theorem ajd {x0:Nat}:(x0+1)≠x0:=by exact Nat.succ_ne_self _
theorem agj {x0 x1:Nat} (a0:x0 < x1):(x0+1)<=x1:=by exact a0
theorem aje {x0 x1:Nat} (a0:x1<=x0):((x0+1) - (x1+1)) < ((x0+1) - x1):=by exact Nat.sub_lt_sub_left (Nat.lt_succ_of_le a0) (Nat.lt_succ_self _)
theorem ajf {x0 x1 x2 x3 x4:Nat} (a0:1000000 < x1) (a1:(x2+(x3+1))=x4) (a2:x2=x0) (a3:x4<=1000000):x0 < x1:=by (subst a2;exact z0c (z0b (z0b (Nat.le_add_right _ _) (z0f a1)) a3) a0)
theorem ajg {x0 x1 x2:Nat} (a0:x0=x2) (a1:x1=(x2+1)):x0<=x1:=by (subst a0 a1;exact Nat.le_succ _)
theorem agk {x0:Nat} (a0:x0<=1000000):x0<=16777216:=by omega
theorem agl {x0:Nat} (a0:x0<=1000000):¬(x0 > (((2 ^ 63) - 1) / 8)):=by omega
theorem ajh {x0 x1 x2 x3 x4:Nat} (a0:1000000 < x2) (a1:(x3+x4)<=1000000) (a2:x3=x0) (a3:x4=x1):(x0+x1)<=(x2+1):=by (subst a2 a3;exact z0b a1 (z0b (z0e a0) (Nat.le_succ _)))
theorem aji {x0 x1 x2 x3 x4:Nat} (a0:1000000 < x2) (a1:(x3+x4)<=1000000) (a2:x3=x0) (a3:x4=x1):¬((x0+x1) > x2):=by (subst a2 a3;exact Nat.not_lt.mpr (z0b a1 (z0e a0)))
theorem ajj {x0 x1 x2:Nat} (a0:1000000 < x2) (a1:(x0+x1)<=1000000):(x0+x1)<=x2:=by exact z0b a1 (z0e a0)
theorem ajk {x0:Int}:(x0 - (0:Int))=x0:=by exact Int.sub_zero _
theorem ajl {x0:Int} (a0:(0:Int)<=x0) (a1:¬((0:Int) < x0)):(0:Int)=x0:=by exact Int.le_antisymm a0 (Int.not_lt.mp a1)
theorem ajm {x0:Int} (a0:(0:Int)<=x0) (a1:x0<=(1000:Int)):(((((((-((2:Int) ^ (63:Nat)))<=(0:Int))/\((0:Int) < ((2:Int) ^ (63:Nat))))/\(((-((2:Int) ^ (63:Nat)))<=x0)/\(x0 < ((2:Int) ^ (63:Nat)))))/\(((-((2:Int) ^ (63:Nat)))<=(1:Int))/\((1:Int) < ((2:Int) ^ (63:Nat)))))/\(((-((2:Int) ^ (63:Nat)))<=(-(1:Int)))/\((-(1:Int)) < ((2:Int) ^ (63:Nat)))))/\(((-((2:Int) ^ (63:Nat)))<=((0:Int) - (1:Int)))/\(((0:Int) - (1:Int)) < ((2:Int) ^ (63:Nat)))))/\(((-((2:Int) ^ (63:Nat)))<=x0)/\(x0 < ((2:Int) ^ (63:Nat)))):=by (have p:(-(2 ^ 63):Int)<=x0:=Int.le_trans (by decide) a0;have q:x0 < 2 ^ 63:=Int.lt_of_le_of_lt a1 (by decide);exact⟨⟨⟨⟨⟨by decide,p,q⟩,by decide⟩,by decide⟩,by decide⟩,p,q⟩)
theorem ajn {x0:Int}:((0:Int)+((x0 - (1:Int))*(1:Int)))=(x0 - (1:Int)):=by simp
theorem ajo {x0:Int} (a0:(0:Int)<=x0):((((Int.toNat x0):Nat):Int) - ((0:Nat):Int))=x0:=by exact Int.toNat_of_nonneg a0
theorem ahF {x0 x1:Int} (a0:x1 < x0):(x0 - x1)=(((Int.toNat (x0 - x1)):Nat):Int):=by exact (Int.toNat_of_nonneg (Int.sub_nonneg_of_le (Int.le_of_lt a0))).symm
theorem ahG {x0 x1:Int} (a0:¬(x1 < x0)):(0:Int)=(((Int.toNat (x0 - x1)):Nat):Int):=by (rw[Int.toNat_of_nonpos (Int.sub_nonpos_of_le (Int.not_lt.mp a0))];rfl)
theorem ahH {x0 x1:Int} (a0:(-(1000:Int))<=x1) (a1:x0<=(1000:Int)):(Int.toNat (x0 - x1))<=((2:Nat) ^ (24:Nat)):=by exact Int.toNat_le.mpr (Int.le_trans (Int.sub_le_sub a1 a0) (by decide))
theorem ad5 {x0:Int} (a0:x0<=(1000:Int)):x0 < ((2:Int) ^ (62:Nat)):=by exact Int.lt_of_le_of_lt a0 (by decide)
theorem ad6 {x0:Int} (a0:(-(1000:Int))<=x0):(-((2:Int) ^ (62:Nat)))<=x0:=by exact Int.le_trans (by decide) a0
theorem ahI {x0 x1:Int} (a0:(-(1000:Int))<=x1) (a1:x0<=(1000:Int)):(Int.toNat (x0 - x1))<=(1000000:Nat):=by exact Int.toNat_le.mpr (Int.le_trans (Int.sub_le_sub a1 a0) (by decide))
theorem ahJ {x0 x1 x2:Nat} (a0:x0=(x1+x2)):(x0 - x1)=x2:=by (subst a0;exact Nat.add_sub_cancel_left _ _)
theorem ad7 {x0:Nat} (a0:2<=x0):x0≠0:=by omega
theorem ad8 {x0:Nat} (a0:¬(x0=0)) (a1:¬(x0=1)):2<=x0:=by omega
theorem ad9 {x0:Nat}:¬(((x0:Nat):Int) < (0:Int)):=by exact Int.not_lt.mpr (z0a _)
theorem aea {x0 x1 x2:Nat} (a0:(x0 - (x1+1))=(x2+1)):(x0 - ((x1+1)+1))=x2:=by omega
theorem aeb {x0:Int}:((0:Int)+x0)=x0:=by omega
theorem Yt {x0 x1:Int} (a0:x1<=x0):(0:Int)<=(x0 - x1):=by omega
theorem Je {x0:Int}:x0=(x0+(0:Int)):=by omega
theorem aec {x0 x1:Int} (a0:(x0 - x1) < (x0 - x1)):False:=by omega
theorem aed {x2:Nat} {x0 x1:Int} (a0:x0<=x1) (a1:¬((x2=(0:Nat))\/(x0=x1))):x0 < x1:=by omega
theorem vP {x0 x1:Nat} (a0:x0 < x1) (a1:¬((x0+1) < x1)):(x0+1)=x1:=by omega
theorem Yu {x0 x1 x2:Int} (a0:(0:Int)<=x0) (a1:x2<=x1):(-x0)<=(x1 - x2):=by omega
theorem aee {x0 x1 x2:Int} (a0:(x2 - x1)<=x0):(-x0)<=(x1 - x2):=by omega
theorem PJ {x0 x1:Nat} (a0:(x0+1)=x1):¬((x0+1) < x1):=by omega
theorem aef {x0:Int}:x0=((0:Int)+x0):=by omega
theorem ahK {x0 x1:Nat} (a0:x0 < (x1+1)) (a1:¬(x0 < x1)):x0=x1:=by exact Nat.le_antisymm (Nat.le_of_lt_succ a0) (Nat.not_lt.mp a1)
theorem aeg {x0 x1:Int} (a0:x0<=(x1+(0:Int))) (a1:x1<=(x0+(0:Int))):(x0 - x1)=(0:Int):=by omega
theorem PL {x0 x1:Int} (a0:x0<=(x1+(0:Int))):(x0 - x1)<=(0:Int):=by omega
theorem aeh {x0 x1:Int} (a0:(x1 - x0)=(0:Int)):x0<=(x1+(0:Int)):=by omega
theorem aei {x0 x1 x2:Int} (a0:x0<=(x2+(0:Int))):(x0 - x1)<=(x2 - x1):=by omega
theorem PN {x0 x1 x2:Nat} (a0:((x0+(x2+1))+1)=x1):(x0+1) < x1:=by omega
theorem ahL {x0 x1 x2:Nat} (a0:x0 < x2) (a1:x2 < x1):x0 < x1:=by exact Nat.lt_trans a0 a1
theorem aej {x0 x1 x2 x3:Int} (a0:x0<=(x2+x3)) (a1:x2<=x1) (a2:x3<=x1):x0<=((2:Int)*x1):=by omega
theorem ahM {x0:Int} (a0:(0:Int)<=x0):(0:Int)<=((0:Int)+x0):=by exact Int.add_nonneg (by decide) a0
theorem gB {x0:Nat} (a0:x0<=20):x0<=1000000:=by exact z0b a0 (by decide)
theorem sI {x0:Nat} (a0:x0<=20):x0 < (2 ^ 62):=by exact z0c a0 (by decide)
theorem ahN {x0 x1:Nat} (a0:(x0+(x1+1))<=1000000):((x0+(0+1))+x1)<=1000000:=by exact z0b (z0f (Nat.succ_add _ _)) a0
theorem ahO {x0:Nat} (a0:x0<=20):(0+x0)<=1000000:=by exact z0b (z0f (Nat.zero_add _)) (z0b a0 (by decide))
theorem aek {x0:Nat}:(0:Int)<=((x0:Nat):Int):=by exact z0a _
theorem ahP {x2:Nat} {x0 x1:Int} (a0:(0:Int)<=x0) (a1:(0:Int)<=x1):(0:Int)<=(((x0+(1:Int))+x1)+((x2:Nat):Int)):=by exact Int.add_nonneg (Int.add_nonneg (Int.add_nonneg a0 (by decide)) a1) (z0a _)
theorem ahQ {x0 x1:Int} (a0:((0:Int)<=x0)/\(x0 < x1)) (a1:x1<=(100:Int)):((0:Int)<=x0)/\(x0<=(99:Int)):=by exact⟨a0.1,Int.le_of_lt_add_one (Int.lt_of_lt_of_le a0.2 a1)⟩
theorem ael {x0:Int} (a0:(0:Int)<=x0):(0:Int)<=((1:Int)+x0):=by exact Int.add_nonneg (by decide) a0
theorem aem {x0:Nat} {x1:Int} (a0:((1:Int)+x1)=((x0:Nat):Int)) (a1:(0:Int)<=x1):(1:Nat)<=x0:=by exact Int.ofNat_le.mp (a0▸Int.le_add_of_nonneg_right a1)
theorem ahR {x0:Nat} {x1:Int} (a0:((1:Int)+x1)=((x0:Nat):Int)) (a1:x1 < (3:Int)):x0<=(20:Nat):=by exact Int.ofNat_le.mp (a0▸Int.le_trans (Int.add_le_add_left (Int.le_of_lt a1) 1) (by decide))
theorem ahS {x0:Nat} {x1:Int} (a0:((1:Int)+x1)=((x0:Nat):Int)) (a1:x1 < (4:Int)):x0<=(20:Nat):=by exact Int.ofNat_le.mp (a0▸Int.le_trans (Int.add_le_add_left (Int.le_of_lt a1) 1) (by decide))
theorem ahT {x0:Nat} {x1:Int} (a0:((1:Int)+x1)=((x0:Nat):Int)) (a1:x1 < (3:Int)):x0<=(3:Nat):=by exact Int.ofNat_le.mp (a0▸Int.add_comm x1 1▸Int.add_one_le_of_lt a1)
theorem ahU {x0:Nat} {x1:Int} (a0:((1:Int)+x1)=((x0:Nat):Int)) (a1:x1 < (4:Int)):x0<=(4:Nat):=by exact Int.ofNat_le.mp (a0▸Int.add_comm x1 1▸Int.add_one_le_of_lt a1)
theorem ahV {x0:Nat} (a0:(1:Nat)<=x0):(((x0:Nat):Int) - (1:Int))=(((x0 - (1:Nat)):Nat):Int):=by exact (Int.ofNat_sub a0).symm
theorem ahW {x0:Nat} (a0:(0:Int) > (((x0:Nat):Int) - (1:Int))):(0:Int)=(((x0 - (1:Nat)):Nat):Int):=by (rw[Nat.sub_eq_zero_of_le (Nat.le_of_lt_succ (Int.ofNat_lt.mp (Int.lt_of_sub_neg a0 |> λ h=>Int.lt_trans h (by decide))))];rfl)
theorem ahX {x0:Nat} (a0:¬((0:Int) > (((x0:Nat):Int) - (1:Int)))):(((x0:Nat):Int) - (1:Int))=(((x0 - (1:Nat)):Nat):Int):=by exact (Int.ofNat_sub (Int.ofNat_le.mp (Int.le_of_sub_nonneg (Int.not_lt.mp a0)))).symm
theorem ahY {x0 x1:Nat} (a0:((x0:Nat):Int) < (((x1+(1:Nat)):Nat):Int)):((x0:Nat):Int)=(((min (x1+(1:Nat)) x0):Nat):Int):=by (rw[Nat.min_eq_right (z0e (Int.ofNat_lt.mp a0))])
theorem ahZ {x0 x1:Nat} (a0:¬(((x1:Nat):Int) < (((x0+(1:Nat)):Nat):Int))):(((x0+(1:Nat)):Nat):Int)=(((min (x0+(1:Nat)) x1):Nat):Int):=by (rw[Nat.min_eq_left (Int.ofNat_le.mp (Int.not_lt.mp a0))])
theorem ah0 {x0 x1:Nat} (a0:1<=x1):(min (x0+1) (x1 - 1)) < x1:=by exact z0c (Nat.min_le_right _ _) (Nat.sub_lt a0 Nat.zero_lt_one)
theorem PX {x0 x1:Nat} (a0:x0 < x1):(x0 - 1) < x1:=by exact z0c (Nat.sub_le _ _) a0
theorem Yv {x0 x1:Nat} (a0:x0 < x1):(min (x0+1) (x1 - 1)) < x1:=by exact z0c (Nat.min_le_right _ _) (Nat.sub_lt (Nat.zero_lt_of_lt a0) Nat.zero_lt_one)
theorem ah1 {x0:Nat} (a0:x0<=20):(1+(x0 - 1))<=1000000:=by exact z0b (Nat.add_le_add_left (z0b (Nat.sub_le _ _) a0) 1) (by decide)
theorem ah2 {x0 x1:Nat} (a0:(x0+1) < x1):x0 < (x1 - 1):=by exact Nat.lt_sub_of_add_lt a0
theorem ah3 {x0 x1:Nat}:((min (x0+2) x1) - (x0 - 1))<=3:=by exact z0b (Nat.sub_le_sub_right (Nat.min_le_left _ _) _) (Nat.sub_le_of_le_add (by rw[Nat.add_comm 3];exact Nat.succ_le_succ (Nat.succ_le_succ (Nat.le_succ_of_pred_le (z0g _)))))
theorem aen {x0:Nat} (a0:x0<=20):x0 < (2 ^ 64):=by omega
theorem Jf {x0 x1:Nat} (a0:x0 < x1) (a1:x1<=20):x0<=20:=by omega
theorem aeo {x0 x1:Nat} (a0:x0 < x1) (a1:x1<=20):(x0+1)<=20:=by omega
theorem ah4 {x0:Nat} (a0:x0<=20):x0<=1000:=by exact z0b a0 (by decide)
theorem ah5 {x0 x1:Nat} (a0:((x0:Nat):Int)=((x1:Nat):Int)):x0=x1:=by exact Int.ofNat.inj a0
theorem ah6 {x0:Nat}:((((x0+(1:Nat)):Nat):Int) - (1:Int))=((x0:Nat):Int):=by simp
theorem aep {x0:Nat} (a0:x0<=(20*20)):(2*(x0+1))<=900:=by omega
namespace L2
open PySem PySem.Spec PyProof.Rows
noncomputable abbrev Key:=Sum Int Str
noncomputable def keyIs:Key->Value->Bool
 | .inl k,v=>Value.isInt k v
 | .inr x,v=>Value.isStrOf x v
noncomputable def keyH (w:World):Key->Int
 | .inl k=>hashInt k
 | .inr x=>hashStr w x
theorem keyIs_shape:∀{k:Key} {v:Value},keyIs k v=true->(∃i t,k=Sum.inl i/\v=Value.int i t)\/(∃x t,k=Sum.inr x/\v=Value.str x t)
 | .inl i,v,h=>by
  obtain⟨t,e⟩:=Value.isInt_shape (k:=i) (v:=v) h;exact .inl ⟨i,t,rfl,e⟩
 | .inr x,v,h=>by
  obtain⟨t,e⟩:=Value.isStrOf_shape (x:=x) (v:=v) h;exact .inr ⟨x,t,rfl,e⟩
theorem keyIs_int (i:Int) (t:Tok):keyIs (.inl i) (.int i t)=true:=by simp[keyIs,Value.isInt]
theorem keyIs_str (x:Str) (t:Tok):keyIs (.inr x) (.str x t)=true:=by simp[keyIs,Value.isStrOf]
theorem key_ll (a b:Int):decide ((Sum.inl a:Key)=Sum.inl b)=(a ==b):=by
 by_cases e:a=b
 ·subst e;simp
 ·have h:¬(Sum.inl a:Key)=Sum.inl b:=λ q=>e (Sum.inl.inj q);rw[decide_eq_false h];exact (beq_eq_false_iff_ne.mpr e).symm
theorem key_rr (a b:Str):decide ((Sum.inr a:Key)=Sum.inr b)=decide (a=b):=by
 by_cases e:a=b
 ·subst e;simp
 ·have h:¬(Sum.inr a:Key)=Sum.inr b:=λ q=>e (Sum.inr.inj q);rw[decide_eq_false h,decide_eq_false e]
theorem key_lr (a:Int) (b:Str):decide ((Sum.inl a:Key)=Sum.inr b)=false:=decide_eq_false (λ q=>nomatch q)
theorem key_rl (a:Str) (b:Int):decide ((Sum.inr a:Key)=Sum.inl b)=false:=decide_eq_false (λ q=>nomatch q)
noncomputable def mixKind (prog:Program) (w:World):PySem.KeyKind prog w Key where
 is:=keyIs
 hash:=keyH w
 inj :=λ v a b ha hb=>by
  rcases keyIs_shape ha with⟨i,t,rfl,rfl⟩ |⟨x,t,rfl,rfl⟩
  ·rcases keyIs_shape hb with⟨j,u,rfl,e⟩ |⟨y,u,rfl,e⟩
   ·injection e with e1 _;rw[e1]
   ·exact nomatch e
  ·rcases keyIs_shape hb with⟨j,u,rfl,e⟩ |⟨y,u,rfl,e⟩
   ·exact nomatch e
   ·injection e with e1 _;rw[e1]
 byValue:=λ k v h=>by
  rcases keyIs_shape h with⟨i,t,rfl,rfl⟩ |⟨x,t,rfl,rfl⟩ <;> rfl
 pyHash:=λ hv h=>by
  rcases keyIs_shape hv with⟨i,t,rfl,rfl⟩ |⟨x,t,rfl,rfl⟩
  ·exact wpAny_pyHash_int h
  ·exact wpAny_pyHash_str h
 eqBool:=λ hu hv h=>by
  rcases keyIs_shape hu with⟨i,t,rfl,rfl⟩ |⟨x,t,rfl,rfl⟩
  ·rcases keyIs_shape hv with⟨j,u,rfl,rfl⟩ |⟨y,u,rfl,rfl⟩
   ·rw[key_ll] at h;exact wpAny_eqBool_int h
   ·rw[key_lr] at h;exact SeqAt.EqAt.int_str i t y u _ _ _ _ h
  ·rcases keyIs_shape hv with⟨j,u,rfl,rfl⟩ |⟨y,u,rfl,rfl⟩
   ·rw[key_rl] at h;exact SeqAt.EqAt.str_int x t j u _ _ _ _ h
   ·rw[key_rr] at h;exact wpAny_eqBool_str h
 «strs»:=λ k x t v h=>by
  rcases keyIs_shape h with⟨i,u,rfl,e⟩ |⟨y,u,rfl,e⟩
  ·exact nomatch e
  ·injection e with e1 _;subst e1;cases v <;> rfl
theorem mixKind_int (prog:Program) (w:World) (i:Int) (t:Tok):(mixKind prog w).is (.inl i) (.int i t)=true:=keyIs_int i t
theorem mixKind_str (prog:Program) (w:World) (x:Str) (t:Tok):(mixKind prog w).is (.inr x) (.str x t)=true:=keyIs_str x t
set_option genInjectivity true in
inductive V where
 |non |bl (b:Bool) |int (i:Int) |str (x:Str) |byt (b:Array UInt8) |flt (b:UInt64) |ref (a:Addr) |ty (n:String)
 deriving DecidableEq
noncomputable def RelV:V->Value->Prop
 | .non,u=>u=Value.none
 | .bl b,u=>u=Value.bool b
 | .int i,u=>∃t,u=Value.int i t
 | .str x,u=>∃t,u=Value.str x t
 | .byt b,u=>∃t,u=Value.bytes b t
 | .flt b,u=>∃t,u=Value.float b t
 | .ref a,u=>u=Value.ref a
 | .ty n,u=>u=Value.type n
noncomputable abbrev Vals:List V->List Value->Prop:=Paired RelV
theorem Vals.length {xs:List V} {us:List Value} (r:Vals xs us):xs.length=us.length:=Paired.length r
theorem Vals.get:∀{xs:List V} {us:List Value} {i:Nat} {x:V},Vals xs us->xs[i]?=some x->∃u,us[i]?=some u/\RelV x u
 |_,_,_,_,.nil,e=>by simp at e
 |_,_,0,_,.cons r _,e=>by simp at e;subst e;exact⟨_,rfl,r⟩
 | _,_,i+1,x,.cons _ t,e=>by
  obtain⟨u,h1,h2⟩:=Vals.get (i:=i) (x:=x) t (by simpa using e);exact⟨u,by simpa using h1,h2⟩
theorem Vals.set {x:V} {u:Value} (r:RelV x u):∀{xs:List V} {us:List Value} (i:Nat),Vals xs us->Vals (xs.set i x) (us.set i u)
 |_,_,_,.nil=> .nil
 |_,_,0,.cons _ t=> .cons r t
 |_,_,i+1,.cons q t=> .cons q (Vals.set r i t)
theorem Vals.append:∀{xs ys:List V} {us ws:List Value},Vals xs us->Vals ys ws->Vals (xs++ys) (us++ws)
 :=by
 intro xs ys us ws h q
 induction h with
 |nil=>exact q
 |cons r t ih=>exact .cons r ih
theorem Vals.take:∀{xs:List V} {us:List Value} (n:Nat),Vals xs us->Vals (xs.take n) (us.take n)
 |_,_,0,_=> .nil
 |_,_,_+1,.nil=> .nil
 |_,_,n+1,.cons r t=> .cons r (Vals.take n t)
theorem Vals.drop:∀{xs:List V} {us:List Value} (n:Nat),Vals xs us->Vals (xs.drop n) (us.drop n)
 |_,_,0,r=>r
 |_,_,_+1,.nil=> .nil
 |_,_,n+1,.cons _ t=>Vals.drop n t
noncomputable def RelO:Option V->Option Value->Prop
 |some v,some u=>RelV v u
 |none,none=>True
 |_,_=>False
noncomputable def KV {κ:Type}:List (κ×V)->List (κ×Value)->Prop:=Paired λ (p:κ×V) (q:κ×Value)=>p.1=q.1/\RelV p.2 q.2
noncomputable def kV:Key->V
 | .inl i=> .int i
 | .inr x=> .str x
set_option genInjectivity true in
inductive HO where
 /-- a list -/
 |lst (xs:List V)
 /-- a tuple (never changes) -/
 |tup (xs:List V)
 /-- a dict whose keys are ints and texts;one whose keys are tuples of ints and texts (the empty one is both) -/
 |dK (kvs:List (Key×V)) |dT (kvs:List (List Key×V))
 /-- a set of ints:its members,its size -/
 |set (S:Int->Bool) (n:Nat)
 /-- an instance of the class at C,its dict at dx,its attributes -/
 |ins (C dx:Addr) (fs:List (Str×V))
 /-- the dict of the instance at x -/
 |own (x:Addr)
 /-- the dict of an exception -/
 |xd (fs:List (Str×V))
 /-- a bound method,f of x -/
 |met (f x:Addr)
 /-- a range object lo,lo+1,.. below hi -/
 |rng (lo hi:Int)
 /-- a thing that is known to the object (the script;a dict while a loop walks it):read,never written while it is so -/
 |frz (o:Obj) (u:HO)
 /-- a code object's table -/
 |tbl (ps:Array Value)
 /-- any other thing,by what is true of its one object (a def of one's own:SetO a S n:=HO.ext λ h=> ..) -/
 |ext (φ:Heap->Prop)
noncomputable abbrev Hp:=Addr->Option HO
noncomputable def upd (H:Hp) (a:Addr) (o:HO):Hp:=λ b=>if b=a then some o else H b
theorem upd_same {H:Hp} {a:Addr} {o:HO}:upd H a o a=some o:=by unfold upd;rw[if_pos rfl]
theorem upd_ne {H:Hp} {a b:Addr} {o:HO} (h:b≠a):upd H a o b=H b:=by unfold upd;rw[if_neg h]
theorem ne_of {H:Hp} {a b:Addr} {o u:HO} (h:H a=some o) (h':H b=some u) (d:o≠u):a≠b:=by
 intro e;subst e;rw[h] at h';exact d (Option.some.inj h')
theorem ne_of_none {H:Hp} {a b:Addr} {o:HO} (h:H a=some o) (h':H b=none):a≠b:=by
 intro e;subst e;rw[h] at h';cases h'
section
variable (P:Program) (w:World)
noncomputable def ObjOk (H:Hp) (h:Heap) (a:Addr):HO->Prop
 | .lst xs=>xs.length<=sizeLine/\∃(its:List Value) (n:Nat),Vals xs its/\h.get? a=some {cls:= .type "list",data:= .seq its.toArray n}
 | .tup xs=>xs.length<=sizeLine/\∃its:List Value,Vals xs its/\IsTup h a its.toArray
 | .dK kvs=>kvs.length<=sizeLine/\(a ==sysModules)=false/\∃vs,KV kvs vs/\h.DictOf (mixKind P w) a vs
 | .dT kvs=>kvs.length<=sizeLine/\(a ==sysModules)=false/\∃xs:List (List Key×Addr×Value),
   Paired (λ (p:List Key×V) (q:List Key×Addr×Value)=>p.1=q.1/\H q.2.1=some (.tup (p.1.map kV))/\RelV p.2 q.2.2) kvs xs/\
   ∃o es ep,h.get? a=some o/\o.ExactDict/\o.data= .dict es ep/\es.toList=xs.map (entryOfKey (tupleKind (mixKind P w)))/\(xs.map (·.1)).Nodup
 | .set S n=>h.SetOf (intKind P w) a S n
 | .ins C dx fs=>H dx=some (.own a)/\fs.length<=1000/\dx≠a/\h.get? a=some (PySem.W.instObj C dx)/\
   ∃mA,h.Ns1 dx mA/\(∀f,RelO (fs.lookup f) (mA f))/\PySem.Within mA (fs.map (·.1))
 | .own _=>∃o,h.get? a=some o
 | .xd fs=>∃mA,h.Ns1 a mA/\∀f,RelO (fs.lookup f) (mA f)
 | .rng lo hi=>∃t u v,h.get? a=some {cls:= .type "range",data:= .fields #[.int lo t,.int hi u,.int 1 v]}
 | .frz o u=>h.get? a=some o/\ObjOk H h a u
 | .tbl ps=>∃qs:Array Value,h.get? a=some (PySem.W.tabObj qs)/\TriplesOk qs.toList/\∀pos cv,codeAmong pos qs.toList=some cv->∃c oc vs q t tq,cv= .ref c/\H c=some (.frz oc (.own c))/\oc.data= .fields vs/\vs[1]?=some (.str q t)/\ps[0]?=some (.str q tq)
 | .met f x=>h.get? a=some (PySem.W.methodObj (.ref f) (.ref x))
 | .ext φ=>φ h/\(∃o,h.get? a=some o)/\∀h1 h2:Heap,φ h1->(∀o,h1.get? a=some o->h2.get? a=some o)->φ h2
noncomputable def HOk (H:Hp) (h:Heap):Prop:=∀a o,H a=some o->ObjOk P w H h a o
end
section
variable {P:Program} {w:World} {H H':Hp} {h h':Heap} {a:Addr} {o:HO}
theorem ObjOk.lt (x:ObjOk P w H h a o):a < h.objs.size:=by
 cases o with
 |lst xs=>obtain⟨_,_,_,_,e⟩:=x;exact z2c e
 |tup xs=>obtain⟨_,_,_,p⟩:=x;exact p.lt
 |dK kvs=>obtain⟨_,_,_,_,o,_,_,e,_⟩:=x;exact z2c e
 |dT kvs=>obtain⟨_,_,_,_,o,_,_,e,_⟩:=x;exact z2c e
 |set S n=>obtain⟨o,_,_,_,e,_⟩:=x;exact z2c e
 |ins C dx fs=>obtain⟨_,_,_,e,_⟩:=x;exact z2c e
 |own y=>obtain⟨_,e⟩:=x;exact z2c e
 |xd fs=>obtain⟨_,⟨_,_,_,e,_⟩,_⟩:=x;exact z2c e
 |rng lo hi=>obtain⟨_,_,_,e⟩:=x;exact z2c e
 |frz ob u=>obtain⟨e,_⟩:=x;exact z2c e
 |tbl ps=>obtain⟨_,e,_⟩:=x;exact z2c e
 |met f y=>exact z2c (show h.get? a=some _ from x)
 |ext φ=>obtain⟨_,⟨_,e⟩,_⟩:=x;exact z2c e
theorem Paired.mapP {α β:Type} {F G:α->β->Prop}:∀{l₁:List α} {l₂:List β},Paired F l₁ l₂->(∀a b,F a b->G a b)->Paired G l₁ l₂
 :=by
 intro l₁ l₂ h f
 induction h with
 |nil=>exact .nil
 |cons r t ih=>exact .cons (f _ _ r) ih
theorem ObjOk.stay (x:ObjOk P w H h a o) (k:∀b u,(b=a\/H b=some (.own a))->h.get? b=some u->h'.get? b=some u)
  (ho:∀b,H b=some (.own a)->H' b=some (.own a)) (ht:∀b xs,H b=some (.tup xs)->H' b=some (.tup xs)) (hz:∀b o u,(∃vs,o.data= .fields vs)->H b=some (.frz o u)->H' b=some (.frz o u)):ObjOk P w H' h' a o:=by
 induction o with
 |lst xs=>obtain⟨z,its,n,r,e⟩:=x;exact⟨z,its,n,r,k _ _ (.inl rfl) e⟩
 |tup xs=>obtain⟨z,its,r,ob,e,c⟩:=x;exact⟨z,its,r,ob,k _ _ (.inl rfl) e,c⟩
 |dK kvs=>obtain⟨z,y,vs,r,ob,es,ep,e,c⟩:=x;exact⟨z,y,vs,r,ob,es,ep,k _ _ (.inl rfl) e,c⟩
 | dT kvs=>
  obtain⟨z,y,xs,r,ob,es,ep,e,c⟩:=x;exact⟨z,y,xs,Paired.mapP r λ p q z=>⟨z.1,ht _ _ z.2.1,z.2.2⟩,ob,es,ep,k _ _ (.inl rfl) e,c⟩
 |set S n=>obtain⟨ob,es,ep,t,e,c⟩:=x;exact⟨ob,es,ep,t,k _ _ (.inl rfl) e,c⟩
 | ins C dx fs=>
  obtain⟨d,z,ne,e,mA,⟨od,es,ep,e2,c⟩,r⟩:=x;exact⟨ho _ d,z,ne,k _ _ (.inl rfl) e,mA,⟨od,es,ep,k _ _ (.inr d) e2,c⟩,r⟩
 |own y=>obtain⟨ob,e⟩:=x;exact⟨ob,k _ _ (.inl rfl) e⟩
 |xd fs=>obtain⟨mA,⟨od,es,ep,e,c⟩,r⟩:=x;exact⟨mA,⟨od,es,ep,k _ _ (.inl rfl) e,c⟩,r⟩
 |rng lo hi=>obtain⟨t,u,v,e⟩:=x;exact⟨t,u,v,k _ _ (.inl rfl) e⟩
 |frz ob u ih=>obtain⟨e,q⟩:=x;exact⟨k _ _ (.inl rfl) e,ih q⟩
 | tbl ps=>
  obtain⟨qs,e,tr,al⟩:=x;exact⟨qs,k a _ (.inl rfl) e,tr,λ p cv z=>by
   obtain⟨c,oc,vs,q,t,tq,e1,e2,e3,r⟩:=al p cv z;exact⟨c,oc,vs,q,t,tq,e1,hz _ _ _ ⟨vs,e3⟩ e2,e3,r⟩⟩
 | met f y=>
  have e:h.get? a=some (PySem.W.methodObj (.ref f) (.ref y)):=x;show h'.get? a=some (PySem.W.methodObj (.ref f) (.ref y));exact k a _ (.inl rfl) e
 |ext φ=>obtain⟨p,⟨o,e⟩,st⟩:=x;exact⟨st _ _ p λ o q=>k _ _ (.inl rfl) q,⟨o,k _ _ (.inl rfl) e⟩,st⟩
theorem HOk.lt (x:HOk P w H h) (e:H a=some o):a < h.objs.size:=(x a o e).lt
theorem HOk.fresh (x:HOk P w H h) (e:h.objs.size<=a):H a=none:=by
 cases q:H a with
 |none=>rfl
 |some u=>exact absurd (z0d (x.lt q) e) (Nat.lt_irrefl _)
theorem HOk.kept (x:HOk P w H h) (k:∀b u,h.get? b=some u->h'.get? b=some u):HOk P w H h':=λ a o e=>
 (x a o e).stay (λ b u _u q=>k b u q) (λ _u q=>q) (λ _u _u q=>q) λ _u _u _u _u q=>q
theorem HOk.laid (x:HOk P w H h) (k:∀b u,h.get? b=some u->h'.get? b=some u) (hp:h.objs.size<=a) (new:ObjOk P w (upd H a o) h' a o):HOk P w (upd H a o) h':=λ b u e=>by
 have hn:=x.fresh hp;by_cases hb:b=a
 ·subst hb;rw[upd_same] at e;cases e;exact new
 ·rw[upd_ne hb] at e;exact (x b u e).stay (λ c v _u q=>k c v q) (λ c q=>by rw[upd_ne (ne_of_none q hn)];exact q) (λ c xs q=>by rw[upd_ne (ne_of_none q hn)];exact q) λ c _u _u _u q=>by rw[upd_ne (ne_of_none q hn)];exact q
end
noncomputable def Rd (H:Hp) (a:Addr) (u:HO):Prop:=H a=some u\/∃o,H a=some (.frz o u)
theorem Rd.ok {P:Program} {w:World} {H:Hp} {h:Heap} {a:Addr} {u:HO} (r:Rd H a u) (x:HOk P w H h):ObjOk P w H h a u:=by
 rcases r with r |⟨o,r⟩
 ·exact x a u r
 ·obtain⟨_,q⟩:=x a _ r;exact q
noncomputable def Mut:Option HO->Prop
 |some (.lst _)=>True
 |some (.dK _)=>True
 |some (.dT _)=>True
 |some (.set _ _)=>True
 |some (.ins _ _ _)=>True
 |some (.ext _)=>True
 |_=>False
section
variable {P:Program} {w:World} {H:Hp} {h h':Heap} {x e:Addr} {o':HO}
theorem HOk.write (ok:HOk P w H h) (mu:Mut (H x)) (he:e=x\/H e=some (.own x)) (k:∀b u,b≠e->h.get? b=some u->h'.get? b=some u) (heo:∃u,h'.get? e=some u)
  (new:ObjOk P w (upd H x o') h' x o'):HOk P w (upd H x o') h':=λ b u q=>by
 have nown:∀c y,H c=some (.own y)->c≠x:=λ c y r z=>by subst z;rw[r] at mu;exact mu
 have ntup:∀c xs,H c=some (.tup xs)->c≠x:=λ c xs r z=>by subst z;rw[r] at mu;exact mu
 by_cases hb:b=x
 ·subst hb;rw[upd_same] at q;cases q;exact new
 ·rw [upd_ne hb] at q;by_cases hbe:b=e
  ·have q':H b=some (.own x):=by
    rcases he with z |z
    ·exact absurd (hbe.trans z) hb
    ·rw[hbe];exact z
   rw[q] at q';cases q';obtain⟨v,hv⟩:=heo;exact⟨v,by rw[hbe];exact hv⟩
  ·refine (ok b u q).stay (λ c v hc r=>k c v ?_ r) (λ c r=>by rw[upd_ne (nown c b r)];exact r) (λ c xs r=>by rw[upd_ne (ntup c xs r)];exact r) λ c o1 u1 _u r=>by rw[upd_ne (λ z=>by rw[z] at r;rw[r] at mu;exact mu)];exact r
   rcases hc with rfl |hc
   ·exact hbe
   ·rintro rfl
    rcases he with z |z
    ·exact nown c b hc z
    ·rw[hc] at z;cases z;exact hb rfl
end
structure Un (fs ex:List Addr) (H H':Hp) (h h':Heap):Prop where
 keep:∀b o,h.get? b=some o->H b=none->b∉fs->b∉ex->h'.get? b=some o
 slot:∀b o,h.get? b=some o->H b=none->b∈fs->b∉ex->∃sl,h'.get? b=some {o with slots:=sl}
 free:∀b o,h.get? b=some o->H b=none->b∉ex->H' b=none
 there:∀b o,h.get? b=some o->b∉ex->∃o',h'.get? b=some o'
 tups:∀b xs,H b=some (.tup xs)->H' b=some (.tup xs)
 frzs:∀b o u,H b=some (.frz o u)->H' b=some (.frz o u)
 tbls:∀b ps,H b=some (.tbl ps)->∃more,H' b=some (.tbl (ps++more))
section
variable {fs fs' ex ex':List Addr} {H H1 H2:Hp} {h h1 h2 h':Heap} {a x e:Addr} {o:HO}
theorem Un.any (u:Un fs ex H H1 h h1) {b:Addr} {ob:Obj} (q:h.get? b=some ob) (n:H b=none) (hx:b∉ex):∃sl,h1.get? b=some {ob with slots:=sl}:=by
 by_cases hb:b∈fs
 ·exact u.slot b ob q n hb hx
 ·exact⟨ob.slots,u.keep b ob q n hb hx⟩
theorem Un.kept (k:∀b u,h.get? b=some u->h'.get? b=some u):Un fs ex H H h h':=
 ⟨λ b ob q _u _u _u=>k b ob q,λ b ob q _u _u _u=>⟨ob.slots,k b ob q⟩,λ _u _u _u n _u=>n,λ b ob q _u=>⟨ob,k b ob q⟩,λ _u _u q=>q,λ _u _u _u q=>q,λ _u ps q=>⟨#[],by rw[q];simp⟩⟩
theorem Un.refl:Un fs ex H H h h:=Un.kept λ _u _u q=>q
theorem Un.laid (k:∀b u,h.get? b=some u->h'.get? b=some u) (hp:h.objs.size<=a) (hn:H a=none):Un fs ex H (upd H a o) h h' where
 keep:=λ b u q _u _u _u=>k b u q
 slot:=λ b u q _u _u _u=>⟨u.slots,k b u q⟩
 free:=λ b u q n _u=>by rw[upd_ne (Nat.ne_of_lt (z0d (z2c q) hp))];exact n
 there:=λ b u q _u=>⟨u,k b u q⟩
 tups:=λ b xs q=>by rw[upd_ne (ne_of_none q hn)];exact q
 frzs:=λ b u xs q=>by rw[upd_ne (ne_of_none q hn)];exact q
 tbls:=λ b ps q=>⟨#[],by rw[upd_ne (ne_of_none q hn),q];simp⟩
theorem Un.write (mu:Mut (H x)) (he:e=x\/H e=some (.own x)) (k:∀b u,b≠e->h.get? b=some u->h'.get? b=some u) (heo:∃u,h'.get? e=some u):Un fs ex H (upd H x o) h h':=by
 have hx:∀b,H b=none->b≠x:=λ b n z=>by subst z;rw[n] at mu;exact mu
 have hb:∀b,H b=none->b≠e:=λ b n z=>by
  subst z;rcases he with r |r
  ·exact hx b n r
  ·rw[n] at r;cases r
 have hm:∀b u,H b=some u->¬Mut (some u)->b≠x:=λ b u q nm z=>by subst z;rw[q] at mu;exact nm mu
 refine⟨λ b u q n _u _u=>k b u (hb b n) q,λ b u q n _u _u=>⟨u.slots,k b u (hb b n) q⟩,λ b u q n _u=>by rw[upd_ne (hx b n)];exact n,λ b u q _u=>?_,
  λ b xs q=>by rw[upd_ne (hm b _ q λ z=>z)];exact q,λ b u xs q=>by rw[upd_ne (hm b _ q λ z=>z)];exact q,λ b ps q=>⟨#[],by rw[upd_ne (hm b _ q λ z=>z),q];simp⟩⟩
 by_cases hbe:b=e
 ·subst hbe;exact heo
 ·exact⟨u,k b u hbe q⟩
end
noncomputable def trk (h:Heap) (H:Hp):List Addr:=(List.range h.objs.size).filter λ a=>(H a).isSome
noncomputable def hidT (h:Heap) (H:Hp):Heap:=PySem.W.hideAll h (trk h H)
theorem hidT_size (h:Heap) (H:Hp):(hidT h H).objs.size=h.objs.size:=PySem.W.hideAll_size _ _
theorem hidT_get {h:Heap} {H:Hp} {b:Addr} {o:Obj} (e:h.get? b=some o) (n:H b=none):(hidT h H).get? b=some o:=
 PySem.W.hideAll_get _ e λ hm=>by
  have q:(H b).isSome=true:=(List.mem_filter.mp hm).2;rw[n] at q;simp at q
theorem of_hidT {h:Heap} {H:Hp} {b:Addr} {o:Obj} (e:(hidT h H).get? b=some o):h.get? b=some o/\H b=none:=by
 have e':h.get? b=some o:=PySem.W.of_hideAll (trk h H) e;refine⟨e',?_⟩;cases q:H b with
 |none=>rfl
 | some x=>
  have hm:b∈trk h H:=List.mem_filter.mpr ⟨List.mem_range.mpr (z2c e'),by simp[q]⟩;have z:(hidT h H).get? b=none:=PySem.W.hideAll_none (trk h H) hm;rw[z] at e;cases e
noncomputable def allNews (g h:Heap) (L:Addr):List (Addr×Obj):=(List.range h.objs.size).filterMap λ a=>if a=L\/(g.get? a).isSome=true then none else (h.get? a).map λ o=>(a,o)
noncomputable def rest (g h:Heap) (L d:Addr):List (Addr×Obj):=(allNews g h L).filter λ p=>decide (p.1≠d)
structure Mod (K:PySem.W.Frag) (mg:Str->Option Value) (base:Heap):Prop where
 kin:K.In base
 glob:base.Ns mainGlobals mg
 blt:∃mb,base.Ns builtinsNs mb/\∀x:Str,x≠"__name__"->mb x=bootBuiltins x
 nolimit:base.NoLimit
structure Cx where
 prog:Program
 w:World
 K:PySem.W.Frag
 mg:Str->Option Value
 base:Heap
 A:Around
 N:List Str
 s₀:Shared
 H₀:Hp
 env:Env
 outer:List Env
 stack:List Env
 ex:List Addr
 fn:Str->Bool
 calm:Bool
 pn:List (Addr×Obj)
 xe:Value->Shared->Prop
noncomputable def frs (l:List Env):List Addr:=l.filterMap (·.frame)
noncomputable abbrev Cx.fs (X:Cx):List Addr:=frs X.outer
noncomputable def Vis (sc:Scope) (x:Str):Prop:=sc.names.lookup x=some .local\/sc.names.lookup x=some .cell\/sc.names.lookup x=some .free
noncomputable def Loc (sc:Scope) (x:Str):Prop:=sc.names.lookup x=some .local\/sc.names.lookup x=some .cell
noncomputable def Look (env:Env) (h:Heap) (m:Str->Option Value) (x:Str) (u:Value):Prop:=
 (env.kindOf x=some .local/\m x=some u)\/((env.kindOf x=some .cell\/env.kindOf x=some .free)/\∃c,env.cells.lookup x=some c/\h.IsCell c (some u))
structure Cx.Ok (X:Cx):Prop where
 mod:Mod X.K X.mg X.base
 kind:X.env.scope.kind= .function
 glob:X.env.globals=mainGlobals
 blt:X.env.builtins=builtinsNs
 above:X.s₀.heap.objs.size<=X.env.locals
 inj:∀x y c,X.env.cells.lookup x=some c->X.env.cells.lookup y=some c->x=y
 has:∀x,(X.env.kindOf x=some .cell\/X.env.kindOf x=some .free)->∃c,X.env.cells.lookup x=some c
 cab:∀x c,X.fn x=true->X.env.cells.lookup x=some c->X.s₀.heap.objs.size<=c
 hd:X.calm=true->X.A.handled=none
 frames:X.A.frames=some X.stack
 stk:X.stack=X.outer\/(X.stack=X.env::X.outer/\X.env.frame=some X.env.locals)
 exf:∀b∈X.ex,b≠X.env.locals/\∀x c,X.env.cells.lookup x=some c->c≠b
 bs:∀b o,X.base.get? b=some o->X.s₀.heap.get? b=some o/\X.H₀ b=none
 bsz:X.base.objs.size<=X.s₀.heap.objs.size
 noex:∀b o,X.base.get? b=some o->b∉X.ex
 exfs:∀b∈X.ex,b∉X.fs
 funs:X.s₀.heap.FunFrames X.base X.outer
 frf:∀b∈X.fs,X.H₀ b=none
structure Inv (X:Cx) (pins:List (Addr×Obj)) (σ:List (Option V)) (H:Hp) (s:Shared):Prop where
 ok:X.Ok
 os:s.os=X.s₀.os
 bare:AllBare s.gens
 base:Un X.fs X.ex X.H₀ H X.s₀.heap s.heap
 loc:∃m,s.heap.Ns X.env.locals m/\∀(i:Nat) (x:Str) (v:V),X.N[i]?=some x->σ[i]?=some (some v)->Vis X.env.scope x->∃u,RelV v u/\Look X.env s.heap m x u
 cell:∀x c,X.env.cells.lookup x=some c->∃v,s.heap.IsCell c v
 free:H X.env.locals=none
 freeC:∀x c,X.env.cells.lookup x=some c->H c=none
 pin:∀p∈X.pn++pins,s.heap.get? p.1=some p.2/\H p.1=none/\p.1≠X.env.locals/\p.1∉X.fs/\∀v,p.2.data≠.cell v
 hok:HOk X.prog X.w H s.heap
 len:σ.length=X.N.length
section
variable {X:Cx} {pins:List (Addr×Obj)} {σ:List (Option V)} {H H':Hp} {s:Shared} {h':Heap}
theorem Cx.Ok.nofr (ok:X.Ok) {b:Addr} {o:Obj} (e:X.base.get? b=some o):b∉X.fs:=λ hb=>by
 have:=(ok.funs.mem hb).1;rw[e] at this;cases this
theorem Inv.bs (I:Inv X pins σ H s):∀b o,X.base.get? b=some o->s.heap.get? b=some o/\H b=none:=λ b o e=>
 ⟨I.base.keep b o (I.ok.bs b o e).1 (I.ok.bs b o e).2 (I.ok.nofr e) (I.ok.noex b o e),I.base.free b o (I.ok.bs b o e).1 (I.ok.bs b o e).2 (I.ok.noex b o e)⟩
theorem Inv.bk (I:Inv X pins σ H s):∀b o,X.base.get? b=some o->s.heap.get? b=some o:=λ b o e=>(I.bs b o e).1
theorem Inv.mod (I:Inv X pins σ H s):Mod X.K X.mg X.base:=I.ok.mod
theorem Inv.kIn (I:Inv X pins σ H s):X.K.In s.heap:=I.ok.mod.kin.keeps I.bk
theorem Inv.lt (I:Inv X pins σ H s):X.env.locals < s.heap.objs.size:=let ⟨_,hn,_⟩:=I.loc;hn.lt
theorem Inv.sz (I:Inv X pins σ H s):X.s₀.heap.objs.size<=s.heap.objs.size:=z0b I.ok.above (z0e I.lt)
theorem Inv.nofs (I:Inv X pins σ H s) {a:Addr} (h:s.heap.objs.size<=a):a∉X.fs:=λ hb=>by
 obtain⟨_,o,ho,_⟩:=I.ok.funs.mem hb;exact absurd (z0d (z2c ho) (z0b I.sz h)) (Nat.lt_irrefl _)
theorem Inv.cne (I:Inv X pins σ H s):∀x c,X.env.cells.lookup x=some c->c≠X.env.locals:=λ x c e z=>by
 obtain⟨v,o,ho,hd⟩:=I.cell x c e;obtain⟨m,⟨o',es,ep,ho',hd',_⟩,_⟩:=I.loc;rw[z,ho'] at ho;cases ho;rw[hd'] at hd;cases hd
theorem Inv.funs (I:Inv X pins σ H s):s.heap.FunFrames X.base X.outer:=by
 have all:∀(l:List Env),(∀b∈frs l,b∈X.fs)->X.s₀.heap.FunFrames X.base l->s.heap.FunFrames X.base l:=by
  intro l
  induction l with
  |nil=>intro _u _u;trivial
  | cons env r ih=>
   intro hs hl;obtain⟨hk,⟨L,o,hf,hn,ho,hd⟩,hr⟩:=hl;have hL:L∈X.fs:=hs L (by unfold frs;rw[List.filterMap_cons,hf];exact List.mem_cons_self);obtain⟨sl,e⟩:=I.base.slot L o ho (I.ok.frf L hL) hL λ z=>I.ok.exfs L z hL;exact⟨hk,⟨L,_,hf,hn,e,hd⟩,ih (λ b hb=>hs b (by unfold frs;rw[List.filterMap_cons,hf];exact z2f _ hb)) hr⟩
 exact all X.outer (λ _u hb=>hb) I.ok.funs
theorem Inv.stack (I:Inv X pins σ H s):s.heap.FunFrames X.base X.stack:=by
 rcases I.ok.stk with e |⟨e,hf⟩
 ·rw[e];exact I.funs
 ·rw[e];obtain⟨m,hn,_⟩:=I.loc;refine .cons (by rw[I.ok.kind];decide) hf hn ?_ I.funs;exact Heap.get?_none_of_le (z0b I.ok.bsz I.ok.above)
theorem Inv.stkSub (I:Inv X pins σ H s):∀b∈frs X.stack,b∈X.env.locals::X.fs:=λ b hb=>by
 rcases I.ok.stk with e |⟨e,hf⟩
 ·rw[e] at hb;exact z2f _ hb
 ·rw[e] at hb;unfold frs at hb;rw[List.filterMap_cons,hf] at hb;exact hb
theorem Inv.stkFree (I:Inv X pins σ H s):∀b∈frs X.stack,H b=none:=λ b hb=>by
 rcases List.mem_cons.mp (I.stkSub b hb) with e |hb
 ·rw[e];exact I.free
 ·obtain⟨_,o,ho,_⟩:=I.ok.funs.mem hb;exact I.base.free b o ho (I.ok.frf b hb) λ z=>I.ok.exfs b z hb
theorem Inv.step {g':Array GenState} {t':Nat} {d':Drawn} {ch:List Addr} (I:Inv X pins σ H s)
  (hch:∀b∈ch,(b∈X.ex\/X.s₀.heap.objs.size<=b)/\b≠X.env.locals/\(∀x c,X.env.cells.lookup x=some c->c≠b)/\∀p∈X.pn++pins,p.1≠b)
  (keep:∀b o,b≠X.env.locals->b∉X.fs->b∉ch->s.heap.get? b=some o->H b=none->h'.get? b=some o)
  (slot:∀b o,b≠X.env.locals->b∈X.fs->b∉ch->s.heap.get? b=some o->H b=none->∃sl,h'.get? b=some {o with slots:=sl}) (free:∀b o,b∉ch->s.heap.get? b=some o->H b=none->H' b=none)
  (there:∀b o,b∉ch->s.heap.get? b=some o->∃o',h'.get? b=some o')
  (tups:∀b xs,H b=some (.tup xs)->H' b=some (.tup xs)) (frzs:∀b o u,H b=some (.frz o u)->H' b=some (.frz o u)) (tbls:∀b ps,H b=some (.tbl ps)->∃more,H' b=some (.tbl (ps++more)))
  (ns:∀m,s.heap.Ns X.env.locals m->h'.Ns X.env.locals m) (hok:HOk X.prog X.w H' h') (hg:AllBare g'):
  Inv X pins σ H' {s with heap:=h',gens:=g',drawn:=d',toks:=t'}:=by
 have neL:∀b o,X.s₀.heap.get? b=some o->b≠X.env.locals:=λ b o e=>Nat.ne_of_lt (z0d (z2c e) I.ok.above);have neC:∀b o,X.s₀.heap.get? b=some o->b∉X.ex->b∉ch:=λ b o e hx hb=>by
  rcases (hch b hb).1 with z |z
  ·exact hx z
  ·exact absurd (z0d (z2c e) z) (Nat.lt_irrefl _)
 have cellK:∀x c,X.env.cells.lookup x=some c->∀v,s.heap.IsCell c v->h'.IsCell c v:=λ x c e v ⟨o,ho,hd⟩=>by
  have nch:c∉ch:=λ z=>(hch c z).2.2.1 x c e rfl;by_cases hc:c∈X.fs
  ·obtain⟨sl,q⟩:=slot c o (I.cne x c e) hc nch ho (I.freeC x c e);exact⟨_,q,hd⟩
  ·exact⟨o,keep c o (I.cne x c e) hc nch ho (I.freeC x c e),hd⟩
 refine⟨I.ok,I.os,hg,⟨λ b o e n hb hx=>?_,λ b o e n hb hx=>?_,λ b o e n hx=>?_,λ b o e hx=>?_,λ b xs e=>tups b xs (I.base.tups b xs e),λ b o xs e=>frzs b o xs (I.base.frzs b o xs e),λ b ps e=>?_⟩,?_,λ x c e=>?_,?_,λ x c e=>?_,λ p hp=>?_,hok,I.len⟩
 ·exact keep b o (neL b o e) hb (neC b o e hx) (I.base.keep b o e n hb hx) (I.base.free b o e n hx)
 ·obtain⟨sl,e1⟩:=I.base.slot b o e n hb hx;obtain⟨sl',e2⟩:=slot b _ (neL b o e) hb (neC b o e hx) e1 (I.base.free b o e n hx);exact⟨sl',e2⟩
 ·obtain⟨o',e1⟩:=I.base.there b o e hx;exact free b o' (neC b o e hx) e1 (I.base.free b o e n hx)
 ·obtain⟨o',e1⟩:=I.base.there b o e hx;exact there b o' (neC b o e hx) e1
 ·obtain⟨m1,e1⟩:=I.base.tbls b ps e;obtain⟨m2,e2⟩:=tbls b _ e1;exact⟨m1++m2,by rw[e2,Array.append_assoc]⟩
 ·obtain⟨m,hn,hl⟩:=I.loc;refine⟨m,ns m hn,λ i x v e1 e2 e3=>?_⟩;obtain⟨u,r,l⟩:=hl i x v e1 e2 e3;refine⟨u,r,?_⟩;rcases l with l |⟨k,c,e,z⟩
  ·exact .inl l
  ·exact .inr ⟨k,c,e,cellK x c e _ z⟩
 ·obtain⟨v,z⟩:=I.cell x c e;exact⟨v,cellK x c e v z⟩
 ·obtain⟨m,⟨o,_,_,ho,_⟩,_⟩:=I.loc;exact free _ o (λ z=>(hch _ z).2.1 rfl) ho I.free
 ·obtain⟨v,o,ho,hd⟩:=I.cell x c e;exact free c o (λ z=>(hch c z).2.2.1 x c e rfl) ho (I.freeC x c e)
 ·obtain⟨e,n,ne,nf,d⟩:=I.pin p hp;have nch:p.1∉ch:=λ z=>(hch p.1 z).2.2.2 p hp rfl;exact⟨keep p.1 p.2 ne nf nch e n,free p.1 p.2 nch e n,ne,nf,d⟩
theorem Inv.un {t':Nat} (I:Inv X pins σ H s) (u:Un X.fs [] H H' s.heap h') (hok:HOk X.prog X.w H' h'):Inv X pins σ H' {s with heap:=h',toks:=t'}:=by
 obtain⟨m,⟨o,es,ep,ho,r⟩,_⟩:=id I.loc;obtain⟨sl,hL⟩:=u.any ho I.free (by simp);exact I.step (g':=s.gens) (d':=s.drawn) (ch:=[]) (λ _u z=>nomatch z) (λ b o _u hb _u e n=>u.keep b o e n hb (by simp)) (λ b o _u hb _u e n=>u.slot b o e n hb (by simp)) (λ b o _u e n=>u.free b o e n (by simp)) (λ b o _u e=>u.there b o e (by simp)) u.tups u.frzs u.tbls (λ m' hm=>by
  obtain⟨o',es',ep',ho',r'⟩:=hm;rw[ho] at ho';cases ho';exact⟨_,es',ep',hL,r'⟩) hok I.bare
theorem Inv.call {g':Array GenState} {t':Nat} {d':Drawn} {ch:List Addr} (I:Inv X pins σ H s) (u:Un (frs X.stack) ch H H' s.heap h') (hok:HOk X.prog X.w H' h') (hg:AllBare g')
  (hch:∀b∈ch,(b∈X.ex\/X.s₀.heap.objs.size<=b)/\b≠X.env.locals/\(∀x c,X.env.cells.lookup x=some c->c≠b)/\∀p∈X.pn++pins,p.1≠b):
  Inv X pins σ H' {s with heap:=h',gens:=g',drawn:=d',toks:=t'}:=by
 obtain⟨m,⟨o,es,ep,ho,r⟩,_⟩:=id I.loc;obtain⟨sl,hL⟩:=u.any ho I.free λ z=>(hch _ z).2.1 rfl;exact I.step (ch:=ch) hch (λ b o hL hb hc e n=>u.keep b o e n (λ z=>(List.mem_cons.mp (I.stkSub b z)).elim hL hb) hc) (λ b o _u _u hc e n=>u.any e n hc) (λ b o hc e n=>u.free b o e n hc) (λ b o hc e=>u.there b o e hc) u.tups u.frzs u.tbls (λ m' hm=>by
  obtain⟨o',es',ep',ho',r'⟩:=hm;rw[ho] at ho';cases ho';exact⟨_,es',ep',hL,r'⟩) hok hg
theorem Inv.turned {t':Nat} {it:Addr} (I:Inv X pins σ H s) (k:∀b o,b≠it->s.heap.get? b=some o->h'.get? b=some o) (hn:H it=none) (hL:it≠X.env.locals)
  (h1:it∈X.ex\/X.s₀.heap.objs.size<=it) (h2:∀x c,X.env.cells.lookup x=some c->c≠it) (h3:∀p∈X.pn++pins,p.1≠it):Inv X pins σ H {s with heap:=h',toks:=t'}:=by
 have nit:∀b u,H b=some u->b≠it:=λ b u e z=>by rw[z,hn] at e;cases e
 refine I.step (g':=s.gens) (d':=s.drawn) (ch:=[it]) (λ b hb=>?_) (λ b o _u _u hc e _u=>k b o (λ z=>hc (by simp[z])) e) (λ b o _u _u hc e _u=>⟨o.slots,k b o (λ z=>hc (by simp[z])) e⟩) (λ _u _u _u _u n=>n)
  (λ b o hc e=>⟨o,k b o (λ z=>hc (by simp[z])) e⟩) (λ _u _u e=>e) (λ _u _u _u e=>e) (λ b ps e=>⟨#[],by rw[e];simp⟩) (λ m hm=>?_) (λ b u e=>?_) I.bare
 ·have e:b=it:=by simpa using hb
  subst e;exact⟨h1,hL,h2,h3⟩
 ·obtain⟨o,es,ep,ho,r⟩:=hm;exact⟨o,es,ep,k _ o (Ne.symm hL) ho,r⟩
 ·refine (I.hok b u e).stay (λ c v hc q=>k c v ?_ q) (λ _u q=>q) (λ _u _u q=>q) λ _u _u _u _u q=>q;rcases hc with z |z
  ·rw[z];exact nit b u e
  ·exact nit c _ z
theorem Inv.tok (I:Inv X pins σ H s) (t:Nat):Inv X pins σ H {s with toks:=t}:=I.un (h':=s.heap) (t':=t) Un.refl I.hok
theorem Inv.kept {t':Nat} (I:Inv X pins σ H s) (k:∀b u,s.heap.get? b=some u->h'.get? b=some u):Inv X pins σ H {s with heap:=h',toks:=t'}:=I.un (Un.kept k) (I.hok.kept k)
theorem Inv.laid {a:Addr} {o:HO} {t':Nat} (I:Inv X pins σ H s) (k:∀b u,s.heap.get? b=some u->h'.get? b=some u) (hp:s.heap.objs.size<=a) (new:ObjOk X.prog X.w (upd H a o) h' a o):
  Inv X pins σ (upd H a o) {s with heap:=h',toks:=t'}:=I.un (Un.laid k hp (I.hok.fresh hp)) (I.hok.laid k hp new)
theorem Inv.write {x e:Addr} {o:HO} {t':Nat} (I:Inv X pins σ H s) (mu:Mut (H x)) (he:e=x\/H e=some (.own x)) (k:∀b u,b≠e->s.heap.get? b=some u->h'.get? b=some u) (heo:∃u,h'.get? e=some u)
  (new:ObjOk X.prog X.w (upd H x o) h' x o):Inv X pins σ (upd H x o) {s with heap:=h',toks:=t'}:=I.un (Un.write mu he k heo) (I.hok.write mu he k heo new)
theorem Inv.pins_of {pins':List (Addr×Obj)} (I:Inv X pins σ H s) (h:∀p∈pins',s.heap.get? p.1=some p.2/\H p.1=none/\p.1≠X.env.locals/\p.1∉X.fs/\∀v,p.2.data≠.cell v):Inv X pins' σ H s:=
 ⟨I.ok,I.os,I.bare,I.base,I.loc,I.cell,I.free,I.freeC,λ p hp=>(List.mem_append.mp hp).elim (λ z=>I.pin p (List.mem_append_left _ z)) (h p),I.hok,I.len⟩
theorem nodup_ix {N:List Str} (hN:N.Nodup) {i j:Nat} {x:Str} (a:N[i]?=some x) (b:N[j]?=some x):i=j:=by
 obtain⟨h1,e1⟩:=z1b a;obtain⟨h2,e2⟩:=z1b b;exact (List.getElem_inj hN).mp (e1.trans e2.symm)
theorem store_ok2 {M:Model} {A:Around} {E:Value->Shared->Prop} {i:Nat} {x:Str} {v:V} {u:Value} {Q:Unit->Shared->Prop} (I:Inv X pins σ H s) (hN:X.N.Nodup) (hi:X.N[i]?=some x) (hx:Loc X.env.scope x) (r:RelV v u)
  (h:∀s',Inv X pins (σ.set i (some v)) H s'->(∃a,Heap.SameBut a s.heap s'.heap/\(a=X.env.locals\/X.env.cells.lookup x=some a))->Q () s') (hf:autoParam (X.fn x=true\/X.env.scope.names.lookup x=some .local) ap6._auto_1):wpAny M A (storeName X.env x u) Q E s:=by
 obtain⟨m,hn,hl⟩:=id I.loc;have hcls:(X.env.scope.kind == .class || (X.env.scope.kind == .module && X.env.locals !=X.env.globals))=false:=by rw[I.ok.kind];rfl
 have hiσ:i < σ.length:=by rw[I.len];exact (z1b hi).1
 have cne:=I.cne;have tracked:∀{a:Addr} {h':Heap},(∃o,s.heap.get? a=some o/\H a=none)->Heap.SameBut a s.heap h'->HOk X.prog X.w H h':=λ {a h'} ha hs b ob e=>by
  obtain⟨_,_,hfree⟩:=ha;refine (I.hok b ob e).stay (λ c w' hc q=>(hs.2 c ?_).trans q) (λ _u q=>q) (λ _u _u q=>q) λ _u _u _u _u q=>q
  rintro rfl
  rcases hc with rfl |hc
  ·rw[hfree] at e;cases e
  ·rw[hfree] at hc;cases hc
 rcases hx with hk |hk
 ·refine wpAny_storeName_local hk hn (λ h' hn' hs=>?_) hcls;obtain⟨oL,_,_,hoL,_⟩:=id hn;refine h _ ⟨I.ok,I.os,I.bare,⟨λ b o e n hb hx=>?_,λ b o e n hb hx=>?_,I.base.free,λ b o e hx=>?_,I.base.tups,I.base.frzs,I.base.tbls⟩,⟨_,hn',λ j y v' e1 e2 e3=>?_⟩,λ y c e=>?_,I.free,I.freeC,λ p hp=>?_,tracked ⟨oL,hoL,I.free⟩ hs,by simpa using I.len⟩ ⟨_,hs,.inl rfl⟩
  ·exact (hs.2 b (Nat.ne_of_lt (z0d (z2c e) I.ok.above))).trans (I.base.keep b o e n hb hx)
  ·obtain⟨sl,e1⟩:=I.base.slot b o e n hb hx;exact⟨sl,(hs.2 b (Nat.ne_of_lt (z0d (z2c e) I.ok.above))).trans e1⟩
  ·obtain⟨o',e1⟩:=I.base.there b o e hx;exact⟨o',(hs.2 b (Nat.ne_of_lt (z0d (z2c e) I.ok.above))).trans e1⟩
  ·by_cases hj:j=i
   ·subst hj;rw[hi] at e1;cases e1;rw[z2a hiσ] at e2;cases e2;exact⟨u,r,.inl ⟨hk,by simp⟩⟩
   ·rw[z1e (Ne.symm hj)] at e2;obtain⟨u',r',q⟩:=hl j y v' e1 e2 e3;refine⟨u',r',?_⟩;rcases q with⟨k,e⟩ |⟨k,c,e,z⟩
    ·refine .inl ⟨k,?_⟩;have:y≠x:=λ e=>hj (nodup_ix hN e1 (e▸hi));simp[this,e]
    ·exact .inr ⟨k,c,e,z.sameBut hs (cne y c e)⟩
  ·obtain⟨w',z⟩:=I.cell y c e;exact⟨w',z.sameBut hs (cne y c e)⟩
  ·obtain⟨e,n,ne,nf,d⟩:=I.pin p hp;exact⟨(hs.2 p.1 ne).trans e,n,ne,nf,d⟩
 ·have hfn:X.fn x=true:=by
   rcases hf with z |z
   ·exact z
   ·rw[z] at hk;cases hk
  obtain⟨c,hc⟩:=I.ok.has x (.inl hk);obtain⟨w',z⟩:=I.cell x c hc;refine wpAny_storeName_cell I.ok.kind hk hc z (λ h' hc' hs=>?_);obtain⟨oc,hoc,hocd⟩:=id z;refine h {s with heap:=h'} ⟨I.ok,I.os,I.bare,⟨λ b o e n hb hx=>?_,λ b o e n hb hx=>?_,I.base.free,λ b o e hx=>?_,I.base.tups,I.base.frzs,I.base.tbls⟩,⟨m,hn.sameBut hs (Ne.symm (cne x c hc)),λ j y v' e1 e2 e3=>?_⟩,λ y c' e=>?_,I.free,I.freeC,λ p hp=>?_,tracked ⟨oc,hoc,I.freeC x c hc⟩ hs,by simpa using I.len⟩ ⟨c,hs,.inr hc⟩
  ·exact (hs.2 b (Nat.ne_of_lt (z0d (z2c e) (I.ok.cab x c hfn hc)))).trans (I.base.keep b o e n hb hx)
  ·obtain⟨sl,e1⟩:=I.base.slot b o e n hb hx;exact⟨sl,(hs.2 b (Nat.ne_of_lt (z0d (z2c e) (I.ok.cab x c hfn hc)))).trans e1⟩
  ·obtain⟨o',e1⟩:=I.base.there b o e hx;exact⟨o',(hs.2 b (Nat.ne_of_lt (z0d (z2c e) (I.ok.cab x c hfn hc)))).trans e1⟩
  ·by_cases hj:j=i
   ·subst hj;rw[hi] at e1;cases e1;rw[z2a hiσ] at e2;cases e2;exact⟨u,r,.inr ⟨.inl hk,c,hc,hc'⟩⟩
   ·rw[z1e (Ne.symm hj)] at e2;obtain⟨u',r',q⟩:=hl j y v' e1 e2 e3;refine⟨u',r',?_⟩;rcases q with q |⟨k,c',e,z'⟩
    ·exact .inl q
    ·refine .inr ⟨k,c',e,z'.sameBut hs ?_⟩
     rintro rfl
     exact hj (nodup_ix hN e1 (I.ok.inj _ _ _ e hc▸hi))
  ·by_cases hcc:c'=c
   ·subst hcc;exact⟨_,hc'⟩
   ·obtain⟨w2,z2⟩:=I.cell y c' e;exact⟨w2,z2.sameBut hs hcc⟩
  ·obtain⟨e,n,ne,nf,d⟩:=I.pin p hp;refine⟨(hs.2 p.1 ?_).trans e,n,ne,nf,d⟩;intro q;rw[q,hoc] at e;have q':oc=p.2:=Option.some.inj e;exact d w' (by rw[<-q'];exact hocd)
theorem store_ok {M:Model} {A:Around} {E:Value->Shared->Prop} {i:Nat} {x:Str} {v:V} {u:Value} {Q:Unit->Shared->Prop} (I:Inv X pins σ H s) (hN:X.N.Nodup) (hi:X.N[i]?=some x) (hx:Loc X.env.scope x) (r:RelV v u)
  (h:∀s',Inv X pins (σ.set i (some v)) H s'->Q () s') (hf:autoParam (X.fn x=true\/X.env.scope.names.lookup x=some .local) ap6._auto_1):wpAny M A (storeName X.env x u) Q E s:=
 store_ok2 I hN hi hx r (λ s' I' _u=>h s' I') hf
theorem Inv.call' {s':Shared} {ch:List Addr} (I:Inv X pins σ H s) (ho:s'.os=s.os) (u:Un (frs X.stack) ch H H' s.heap s'.heap) (hok:HOk X.prog X.w H' s'.heap) (hg:AllBare s'.gens)
  (hch:∀b∈ch,(b∈X.ex\/X.s₀.heap.objs.size<=b)/\b≠X.env.locals/\(∀x c,X.env.cells.lookup x=some c->c≠b)/\∀p∈X.pn++pins,p.1≠b):Inv X pins σ H' s':=by
 obtain⟨h',g',d',t',o'⟩:=s';have e:o'=s.os:=ho;subst e;exact I.call (g':=g') (t':=t') (d':=d') u hok hg hch
end
noncomputable abbrev XK:=Value->Option Addr->Hp->Prop
noncomputable abbrev St:=List (Option V)
noncomputable abbrev VK:=V->Hp->Prop
noncomputable abbrev TE:=St->Hp->VK->Prop
noncomputable abbrev TT:=St->Hp->(Bool->Hp->Prop)->Prop
noncomputable abbrev TA:=St->Hp->(List V->Hp->Prop)->Prop
structure Ends where
 nx:St->Hp->Prop
 rt:VK
 bk:St->Hp->Prop:=λ _u _u=>False
 ct:St->Hp->Prop:=λ _u _u=>False
noncomputable abbrev TS:=Ends->St->Hp->Prop
inductive EP (X:Cx) (pins:List (Addr×Obj)) (σ:St) (Q:VK) (u:Value) (s':Shared):Prop
 |mk (v:V) (H':Hp) (I:Inv X pins σ H' s') (r:RelV v u) (q:Q v H'):EP X pins σ Q u s'
inductive TP (X:Cx) (pins:List (Addr×Obj)) (σ:St) (Q:Bool->Hp->Prop) (b:Bool) (s':Shared):Prop
 |mk (H':Hp) (I:Inv X pins σ H' s') (q:Q b H'):TP X pins σ Q b s'
inductive AP (X:Cx) (pins:List (Addr×Obj)) (σ:St) (Q:List V->Hp->Prop) (us:List Value) (s':Shared):Prop
 |mk (vs:List V) (H':Hp) (I:Inv X pins σ H' s') (r:Vals vs us) (q:Q vs H'):AP X pins σ Q us s'
inductive W4 (X:Cx) (pins:List (Addr×Obj)) (D:St->Hp->Prop) (s':Shared):Prop
 |mk (σ':St) (H':Hp) (I:Inv X pins σ' H' s') (d:D σ' H'):W4 X pins D s'
inductive SPr (X:Cx) (pins:List (Addr×Obj)) (D:V->Hp->Prop) (u:Value) (s':Shared):Prop
 |mk (v:V) (σ':St) (H':Hp) (I:Inv X pins σ' H' s') (r:RelV v u) (d:D v H'):SPr X pins D u s'
def SP (X:Cx) (pins:List (Addr×Obj)) (D:Ends) (f:Flow) (s':Shared):Prop:=
 match f with
 | .next=>W4 X pins D.nx s'
 | .brk=>W4 X pins D.bk s'
 | .cont=>W4 X pins D.ct s'
 | .ret u=>SPr X pins D.rt u s'
noncomputable def PE (X:Cx) (e:Expr) (t:TE):Prop:=
 ∀(pins:List (Addr×Obj)) (s:Shared) (σ:St) (H:Hp) (Q:VK),Inv X pins σ H s->t σ H Q->wpAny (model X.prog X.w) X.A (eval e X.env) (EP X pins σ Q) X.xe s
noncomputable def PT (X:Cx) (e:Expr) (t:TT):Prop:=
 ∀(pins:List (Addr×Obj)) (s:Shared) (σ:St) (H:Hp) (Q:Bool->Hp->Prop),Inv X pins σ H s->t σ H Q->wpAny (model X.prog X.w) X.A (isTrue e X.env (eval e X.env)) (TP X pins σ Q) X.xe s
noncomputable def PW (X:Cx) (e:Expr) (t:TT):Prop:=
 ∀(whole:Sem Value) (pins:List (Addr×Obj)) (s:Shared) (σ:St) (H:Hp) (Q:Bool->Hp->Prop),Inv X pins σ H s->t σ H Q->wpAny (model X.prog X.w) X.A (isTrue e X.env whole) (TP X pins σ Q) X.xe s
noncomputable def PA (X:Cx) (es:List Expr) (t:TA):Prop:=
 ∀(pos:Pos) (pins:List (Addr×Obj)) (s:Shared) (σ:St) (H:Hp) (Q:List V->Hp->Prop),Inv X pins σ H s->t σ H Q->wpAny (model X.prog X.w) X.A (spliced (backTo pos (starEach es X.env))) (AP X pins σ Q) X.xe s
noncomputable def PS (X:Cx) (st:Stmt) (t:TS):Prop:=
 ∀(pins:List (Addr×Obj)) (s:Shared) (σ:St) (H:Hp) (D:Ends),Inv X pins σ H s->t D σ H->wpAny (model X.prog X.w) X.A (exec st X.env) (SP X pins D) X.xe s
noncomputable def PSs (X:Cx) (st:List Stmt) (t:TS):Prop:=
 ∀(pins:List (Addr×Obj)) (s:Shared) (σ:St) (H:Hp) (D:Ends),Inv X pins σ H s->t D σ H->wpAny (model X.prog X.w) X.A (execs st X.env) (SP X pins D) X.xe s
theorem thn {α:Type} {t:Sem α} {Q Q':α->Shared->Prop} {M:Model} {A:Around} {E:Value->Shared->Prop} {s:Shared} (h:wpAny M A t Q E s) (hQ:∀a s,Q a s->Q' a s):wpAny M A t Q' E s:=wpAny_mono h hQ λ _u _u x=>x
section
variable {X:Cx}
theorem bin {a b:Expr} {ta tb:TE} (ha:PE X a ta) (hb:PE X b tb) {pins:List (Addr×Obj)} {s:Shared} {σ:St} {H:Hp} {R:V->V->Hp->Prop} (I:Inv X pins σ H s) (h:ta σ H λ x H1=>tb σ H1 λ y H2=>R x y H2)
  {α:Type} {Q:α->Shared->Prop} {f:Value->Value->Sem α}
  (hf:∀v u s2 x y H2,Inv X pins σ H2 s2->RelV x v->RelV y u->R x y H2->wpAny (model X.prog X.w) X.A (f v u) Q X.xe s2):
  wpAny (model X.prog X.w) X.A (eval a X.env) (λ v s₁=>wpAny (model X.prog X.w) X.A (eval b X.env) (λ u s₂=>wpAny (model X.prog X.w) X.A (f v u) Q X.xe s₂) X.xe s₁) X.xe s:=by
 refine thn (ha pins s σ H _ I h) λ v s1 bh=>?_;obtain⟨x,H1,I1,r1,q1⟩:=bh;refine thn (hb pins s1 σ H1 _ I1 q1) λ u s2 bh=>?_;obtain⟨y,H2,I2,r2,q2⟩:=bh;exact hf v u s2 x y H2 I2 r1 r2 q2
noncomputable def tVar (i:Nat):TE:=λ σ H Q=>∃v,σ[i]?=some (some v)/\Q v H
noncomputable def tC (v:V):TE:=λ _u H Q=>Q v H
theorem pe_var {i:Nat} {x:Str} {pos:Pos} (hN:X.N[i]?=some x) (hv:Vis X.env.scope x) (hd:autoParam ((x ==("__debug__" :Str))=false) cD._auto_1) (hcd:autoParam ((x ==("__classdict__" :Str))=false) cD._auto_1):PE X (.Name x pos) (tVar i):=by
 intro pins s σ H Q I h;obtain⟨v,e,h⟩:=h;obtain⟨m,hn,hl⟩:=I.loc;obtain⟨u,r,l⟩:=hl i x v hN e hv;have fin:EP X pins σ Q u s:=⟨v,H,I,r,h⟩;rcases l with⟨hk,hm⟩ |⟨hk,c,hc,hcell⟩
 ·exact wpAny_Name (wpAny_loadName_local I.ok.kind hk hn hm fin) hd
 ·rcases hk with hk |hk
  ·exact wpAny_Name (wpAny_loadName_cell I.ok.kind hk hc hcell fin) hd
  ·exact wpAny_Name (wpAny_loadName_free I.ok.kind hk hc hcell fin hcd) hd
theorem pe_int {i j pos}:PE X (.Constant (.int i) j pos) (tC (.int i)):=λ _u _u _u H _u I h=>wpAny_Constant_int ⟨.int i,H,I.tok _,⟨_,rfl⟩,h⟩
theorem pe_bl {b j pos}:PE X (.Constant (.bool b) j pos) (tC (.bl b)):=λ _u _u _u H _u I h=>Constant_bool ⟨.bl b,H,I,rfl,h⟩
theorem pe_non {j pos}:PE X (.Constant .none j pos) (tC .non):=λ _u _u _u H _u I h=>Constant_none ⟨.non,H,I,rfl,h⟩
theorem pe_str {x j pos}:PE X (.Constant (.str x) j pos) (tC (.str x)):=λ _u _u _u H _u I h=>Calls.Constant_str ⟨.str x,H,I.tok _,⟨_,rfl⟩,h⟩
noncomputable def Gl (X:Cx) (x:Str):Prop:=X.env.kindOf x=some .globalImplicit
theorem ld_glob {E:Value->Shared->Prop} {pins:List (Addr×Obj)} {s:Shared} {σ:St} {H:Hp} {x:Str} {u:Value} {pos:Pos} {Q:Value->Shared->Prop} (I:Inv X pins σ H s) (hg:Gl X x) (hm:X.mg x=some u) (h:Q u s)
  (hd:autoParam ((x ==("__debug__" :Str))=false) cD._auto_1):wpAny (model X.prog X.w) X.A (eval (.Name x pos) X.env) Q E s:=
 Calls.Name_function_global I.ok.kind hg (Calls.loadGlobal_global (by rw[I.ok.glob];exact I.mod.glob.keeps I.bk) hm h) hd
theorem ld_blt {E:Value->Shared->Prop} {pins:List (Addr×Obj)} {s:Shared} {σ:St} {H:Hp} {x:Str} {u:Value} {pos:Pos} {Q:Value->Shared->Prop} (I:Inv X pins σ H s) (hg:Gl X x) (hm:X.mg x=none) (hv:bootBuiltins x=some u) (h:Q u s)
  (hn:autoParam (x≠"__name__") cD._auto_1) (hd:autoParam ((x ==("__debug__" :Str))=false) cD._auto_1):wpAny (model X.prog X.w) X.A (eval (.Name x pos) X.env) Q E s:=by
 obtain⟨mb,h1,h2⟩:=I.mod.blt;exact Calls.Name_function_global I.ok.kind hg (Calls.loadGlobal_builtin (by rw[I.ok.glob];exact I.mod.glob.keeps I.bk) hm (by rw[I.ok.blt];exact h1.keeps I.bk) ((h2 x hn).trans hv) h) hd
theorem pe_glob {x:Str} {v:V} {u:Value} {pos:Pos} (hg:Gl X x) (hm:X.mg x=some u) (r:RelV v u) (hd:autoParam ((x ==("__debug__" :Str))=false) cD._auto_1):PE X (.Name x pos) (tC v):=
 λ _u _u _u H _u I h=>ld_glob I hg hm ⟨v,H,I,r,h⟩ hd
theorem pe_bltn {x:Str} {v:V} {u:Value} {pos:Pos} (hg:Gl X x) (hm:X.mg x=none) (hv:bootBuiltins x=some u) (r:RelV v u) (hn:autoParam (x≠"__name__") cD._auto_1) (hd:autoParam ((x ==("__debug__" :Str))=false) cD._auto_1):PE X (.Name x pos) (tC v):=
 λ _u _u _u H _u I h=>ld_blt I hg hm hv ⟨v,H,I,r,h⟩ hn hd
variable {a b:Expr} {ta tb:TE} {pos:Pos}
noncomputable def PC (X:Cx) (op:CmpOp) (a b:Expr) (t:TE):Prop:=
 ∀ (pins:List (Addr×Obj)) (s:Shared) (σ:St) (H:Hp) (Q:VK),Inv X pins σ H s->t σ H Q->
  wpAny (model X.prog X.w) X.A (eval a X.env) (λ v s₁=>wpAny (model X.prog X.w) X.A (eval b X.env) (λ u s₂=>wpAny (model X.prog X.w) X.A (compareOp op v u) (EP X pins σ Q) X.xe s₂) X.xe s₁) X.xe s
theorem nobehind (b:Expr) {op:CmpOp} (h:op≠.In) (h2:op≠.NotIn):behindInMarks op b=false:=by
 have e1:(op ==CmpOp.In)=false:=by cases op <;> first |rfl |exact absurd rfl h
 have e2:(op ==CmpOp.NotIn)=false:=by cases op <;> first |rfl |exact absurd rfl h2
 cases b <;> simp[behindInMarks,e1,e2]
noncomputable def tB (t:TE):TT:=λ σ H Q=>t σ H λ x H1=>∃c,x= .bl c/\Q c H1
theorem pt_cmp {op:CmpOp} {t:TE} (h:PC X op a b t) (h1:behindInMarks op b=false:=by first |exact nobehind _ (by decide) (by decide) |rfl):PT X (.Compare a [op] [b] pos) (tB t):=by
 intro pins s σ H Q I hw;refine wpAny_isTrue_Compare1 (thn (h pins s σ H _ I hw) λ v s1 h1=>thn h1 λ u s2 h2=>thn h2 λ c s3 ⟨x,H1,I1,r1,q1⟩=>?_) h1;obtain⟨d,rfl,q⟩:=q1;cases r1;exact wpAny_truthy_bool ⟨H1,I1,q⟩
theorem pt_val {e:Expr} {t:TE} (h:PE X e t) (he:autoParam (∀whole,isTrue e X.env whole=(do let v <-whole;standAt e.pos;holding [v] (truthy v))) yN._auto_1):PT X e (tB t):=by
 intro pins s σ H Q I hw;refine isTrue_plain (thn (h pins s σ H _ I hw) λ v s1 ⟨x,H1,I1,r1,q1⟩=>?_) (he _);obtain⟨d,rfl,q⟩:=q1;cases r1;exact wpAny_truthy_bool ⟨H1,I1,q⟩
variable {tA tB':TT} {rest:List Expr}
noncomputable def tAnd (t u:TT):TT:=λ σ H Q=>t σ H λ c H1=>if c=true then u σ H1 Q else Q false H1
noncomputable def tOr (t u:TT):TT:=λ σ H Q=>t σ H λ c H1=>if c=true then Q true H1 else u σ H1 Q
noncomputable def tNot (t:TT):TT:=λ σ H Q=>t σ H λ c H1=>Q (!c) H1
theorem pw_and1 (ha:PT X a tA):PW X (.BoolOp .And [a] pos) tA:=by
 intro wh pins s σ H Q I h;refine isTrue_and (thn (ha pins s σ H Q I h) λ c s1 e=>?_);cases c with
 |true=>exact isTrue_and_nil e
 |false=>exact e
theorem pw_or1 (ha:PT X a tA):PW X (.BoolOp .Or [a] pos) tA:=by
 intro wh pins s σ H Q I h;refine isTrue_or (thn (ha pins s σ H Q I h) λ c s1 e=>?_);cases c with
 |false=>exact isTrue_or_nil e
 |true=>exact e
theorem pw_and (ha:PT X a tA) (hb:PW X (.BoolOp .And (b::rest) pos) tB'):PW X (.BoolOp .And (a::b::rest) pos) (tAnd tA tB'):=by
 intro wh pins s σ H Q I h;refine isTrue_and (thn (ha pins s σ H _ I h) λ c s1 bh=>?_);obtain⟨H1,I1,q1⟩:=bh;cases c with
 |true=>exact hb wh pins s1 σ H1 Q I1 q1
 |false=>exact⟨H1,I1,q1⟩
theorem pw_or (ha:PT X a tA) (hb:PW X (.BoolOp .Or (b::rest) pos) tB'):PW X (.BoolOp .Or (a::b::rest) pos) (tOr tA tB'):=by
 intro wh pins s σ H Q I h;refine isTrue_or (thn (ha pins s σ H _ I h) λ c s1 bh=>?_);obtain⟨H1,I1,q1⟩:=bh;cases c with
 |true=>exact⟨H1,I1,q1⟩
 |false=>exact hb wh pins s1 σ H1 Q I1 q1
theorem pt_not (ha:PT X a tA):PT X (.UnaryOp .Not a pos) (tNot tA):=by
 intro pins s σ H Q I h;refine isTrue_not (thn (ha pins s σ H (λ c H1=>Q (!c) H1) I h) λ c s1 hz=>?_);obtain⟨H1,I1,q1⟩:=hz;exact⟨H1,I1,q1⟩
noncomputable def tAndV (ta tb:TE):TE:=λ σ H Q=>ta σ H λ x H1=>∃c,x= .bl c/\if c=true then tb σ H1 Q else Q (.bl false) H1
noncomputable def tNotV (ta:TE):TE:=λ σ H Q=>ta σ H λ x H1=>∃c,x= .bl c/\Q (.bl (!c)) H1
theorem pe_one {op} {t:TE} (h:PE X a t):PE X (.BoolOp op [a] pos) t:=λ pins s σ H Q I hw=>BoolOp_one (h pins s σ H Q I hw)
theorem pe_and (ha:PE X a ta) (hb:PE X (.BoolOp .And (b::rest) pos) tb):PE X (.BoolOp .And (a::b::rest) pos) (tAndV ta tb):=by
 intro pins s σ H Q I h;refine BoolOp_and (thn (ha pins s σ H _ I h) λ v s1 bh=>?_);obtain⟨x,H1,I1,r1,q1⟩:=bh;obtain⟨c,rfl,q1⟩:=q1;cases r1;refine wpAny_truthy_bool ?_;cases c with
 |true=>exact hb pins s1 σ H1 Q I1 q1
 |false=>exact⟨.bl false,H1,I1,rfl,q1⟩
theorem pe_not (ha:PE X a ta):PE X (.UnaryOp .Not a pos) (tNotV ta):=by
 intro pins s σ H Q I h;refine UnaryOp_ (thn (ha pins s σ H _ I h) λ v s1 bh=>?_);obtain⟨x,H1,I1,r1,q1⟩:=bh;obtain⟨c,rfl,q1⟩:=q1;cases r1;exact not_of (wpAny_truthy_bool ⟨.bl (!c),H1,I1,rfl,q1⟩)
noncomputable def tIf (t:TT) (ta tb:TE):TE:=λ σ H Q=>t σ H λ c H1=>if c=true then ta σ H1 Q else tb σ H1 Q
theorem pe_ifExp {c:Expr} (hc:PT X c tA) (ha:PE X a ta) (hb:PE X b tb):PE X (.IfExp c a b pos) (tIf tA ta tb):=by
 intro pins s σ H Q I h;refine wpAny_IfExp (thn (hc pins s σ H _ I h) λ d s1 bh=>?_);obtain⟨H1,I1,q1⟩:=bh;cases d with
 |true=>exact ha pins s1 σ H1 Q I1 q1
 |false=>exact hb pins s1 σ H1 Q I1 q1
end
noncomputable def SqL (K:PySem.W.Frag) (H:Hp) (a:Addr) (xs:List V):Prop:=
 Rd H a (.lst xs)\/
  ∃(o:Obj) (its:Array Value) (n:Nat),K.lookup a=some o/\o.cls= .type "list"/\o.dict=none/\o.data= .seq its n/\its.size<=sizeLine/\Vals xs its.toList
noncomputable def SqT (K:PySem.W.Frag) (H:Hp) (a:Addr) (xs:List V):Prop:=
 Rd H a (.tup xs)\/
  ∃(o:Obj) (its:Array Value) (n:Nat),K.lookup a=some o/\o.cls= .type "tuple"/\o.data= .seq its n/\its.size<=sizeLine/\Vals xs its.toList
noncomputable def absV:Value->Option V
 | .none=>some .non
 | .bool b=>some (.bl b)
 | .int i _=>some (.int i)
 | .str x _=>some (.str x)
 | .bytes b _=>some (.byt b)
 | .float b _=>some (.flt b)
 | .ref a=>some (.ref a)
 | .type n=>some (.ty n)
 |_=>none
theorem RelV.abs {x:V} {u:Value} (r:RelV x u):absV u=some x:=by
 cases x with
 |non=>cases r;rfl
 |bl _=>cases r;rfl
 |int _=>obtain⟨t,rfl⟩:=r;rfl
 |str _=>obtain⟨t,rfl⟩:=r;rfl
 |byt _=>obtain⟨t,rfl⟩:=r;rfl
 |flt _=>obtain⟨t,rfl⟩:=r;rfl
 |ref _=>cases r;rfl
 |ty _=>cases r;rfl
theorem RelV.inj {x y:V} {u:Value} (r:RelV x u) (q:RelV y u):x=y:=Option.some.inj (r.abs.symm.trans q.abs)
theorem Vals.inj:∀{xs ys:List V} {us:List Value},Vals xs us->Vals ys us->xs=ys
 :=by
 intro xs ys us h
 induction h generalizing ys with
 |nil=>intro q;cases q;rfl
 |cons r t ih=>intro q;cases q with |cons r' t'=>rw[r.inj r',ih t']
section
variable {X:Cx} {pins:List (Addr×Obj)} {σ:St} {H:Hp} {s:Shared} {a:Addr} {xs ys:List V}
theorem SqL.of {K:PySem.W.Frag} (h:H a=some (.lst xs)):SqL K H a xs:= .inl (.inl h)
theorem SqT.of {K:PySem.W.Frag} (h:H a=some (.tup xs)):SqT K H a xs:= .inl (.inl h)
theorem Inv.list (I:Inv X pins σ H s) (h:SqL X.K H a xs):∃its:List Value,Vals xs its/\PlainL s.heap a its.toArray/\xs.length<=sizeLine:=by
 rcases h with h |⟨o,its,n,hk,hc,hd,hs,hz,r⟩
 ·obtain⟨z,its,n,r,e⟩:=h.ok I.hok;exact⟨its,r,⟨_,n,e,rfl,rfl,rfl⟩,z⟩
 ·refine⟨its.toList,r,⟨o,n,I.kIn a o hk,hc,hd,by simpa using hs⟩,?_⟩;have e:=r.length;simp only[Array.length_toList] at e;exact oq0 e hz
theorem Inv.tuple (I:Inv X pins σ H s) (h:SqT X.K H a xs):∃its:List Value,Vals xs its/\IsTup s.heap a its.toArray/\xs.length<=sizeLine:=by
 rcases h with h |⟨o,its,n,hk,hc,hs,hz,r⟩
 ·obtain⟨z,its,r,p⟩:=h.ok I.hok;exact⟨its,r,p,z⟩
 ·refine⟨its.toList,r,⟨o,I.kIn a o hk,hc,n,by simpa using hs⟩,?_⟩;have e:=r.length;simp only[Array.length_toList] at e;exact oq0 e hz
theorem Inv.list_inj (I:Inv X pins σ H s) (h:SqL X.K H a xs) (h':SqL X.K H a ys):xs=ys:=by
 obtain⟨its,r,⟨o,n,e,_,_,d⟩,_⟩:=I.list h;obtain⟨its',r',⟨o',n',e',_,_,d'⟩,_⟩:=I.list h';rw[e] at e';cases e';rw[d] at d';injection d' with d1 _;have:its=its':=by simpa using congrArg Array.toList d1
 subst this;exact r.inj r'
theorem Inv.tuple_inj (I:Inv X pins σ H s) (h:SqT X.K H a xs) (h':SqT X.K H a ys):xs=ys:=by
 obtain⟨its,r,⟨o,e,_,n,d⟩,_⟩:=I.tuple h;obtain⟨its',r',⟨o',e',_,n',d'⟩,_⟩:=I.tuple h';rw[e] at e';cases e';rw[d] at d';injection d' with d1 _;have:its=its':=by simpa using congrArg Array.toList d1
 subst this;exact r.inj r'
end
noncomputable abbrev Cx.wish (X:Cx) (E:Value->Shared->Prop):Cx:={X with xe:=E}
noncomputable abbrev Cx.nox (X:Cx):Cx:=X.wish λ _u _u=>False
theorem Cx.Ok.wish {X:Cx} (ok:X.Ok) (E:Value->Shared->Prop):(X.wish E).Ok:=
 ⟨ok.mod,ok.kind,ok.glob,ok.blt,ok.above,ok.inj,ok.has,ok.cab,ok.hd,ok.frames,ok.stk,ok.exf,ok.bs,ok.bsz,ok.noex,ok.exfs,ok.funs,ok.frf⟩
theorem Cx.Ok.unwish {X:Cx} {E:Value->Shared->Prop} (ok:(X.wish E).Ok):X.Ok:=
 ⟨ok.mod,ok.kind,ok.glob,ok.blt,ok.above,ok.inj,ok.has,ok.cab,ok.hd,ok.frames,ok.stk,ok.exf,ok.bs,ok.bsz,ok.noex,ok.exfs,ok.funs,ok.frf⟩
section
variable {X:Cx} {pins:List (Addr×Obj)} {σ:St} {H:Hp} {s:Shared} {E:Value->Shared->Prop}
theorem Inv.wish (I:Inv X pins σ H s) (E:Value->Shared->Prop):Inv (X.wish E) pins σ H s:=⟨I.ok.wish E,I.os,I.bare,I.base,I.loc,I.cell,I.free,I.freeC,I.pin,I.hok,I.len⟩
theorem Inv.unwish (I:Inv (X.wish E) pins σ H s):Inv X pins σ H s:=⟨I.ok.unwish,I.os,I.bare,I.base,I.loc,I.cell,I.free,I.freeC,I.pin,I.hok,I.len⟩
theorem SP.unwish {D:Ends} {f:Flow} {s':Shared} (h:SP (X.wish E) pins D f s'):SP X pins D f s':=by
 cases f with
 |next=>obtain⟨σ',H',I,q⟩:=h;exact⟨σ',H',I.unwish,q⟩
 |brk=>obtain⟨σ',H',I,q⟩:=h;exact⟨σ',H',I.unwish,q⟩
 |cont=>obtain⟨σ',H',I,q⟩:=h;exact⟨σ',H',I.unwish,q⟩
 |ret u=>obtain⟨v,σ',H',I,r,q⟩:=h;exact⟨v,σ',H',I.unwish,r,q⟩
theorem PSs.nox {st:List Stmt} {t:TS} (h:PSs X.nox st t):PSs X st t:=λ pins s σ H D I hw=>
 wpAny_mono (h pins s σ H D (I.wish _) hw) (λ _u _u q=>q.unwish) λ _u _u z=>False.elim z
end
section
variable {X:Cx} {st:Stmt} {rest:List Stmt} {t u:TS} {e:Expr} {te:TE} {pos:Pos}
noncomputable def tNext:TS:=λ D σ H=>D.nx σ H
noncomputable def tSeq (t u:TS):TS:=λ D σ H=>t {D with nx:=u D} σ H
theorem pss_nil:PSs X [] tNext:=λ _u _u σ H _u I h=>wpAny_execs_nil ⟨σ,H,I,h⟩
theorem pss_cons (h1:PS X st t) (h2:PSs X rest u):PSs X (st::rest) (tSeq t u):=by
 intro pins s σ H D I h;refine wpAny_execs_cons (thn (h1 pins s σ H {D with nx:=u D} I h) λ f s1 q=>?_);cases f with
 | next=>
  obtain⟨σ',H',I',q⟩:=q;exact h2 pins s1 σ' H' D I' q
 |ret v=>exact q
 |brk=>exact q
 |cont=>exact q
theorem pss_one (h1:PS X st t):PSs X [st] t:=by
 intro pins s σ H D I h;refine wpAny_execs_cons (thn (h1 pins s σ H D I h) λ f s1 q=>?_);cases f with
 |next=>exact wpAny_execs_nil q
 |ret v=>exact q
 |brk=>exact q
 |cont=>exact q
theorem Inv.quiet {pins:List (Addr×Obj)} {σ:St} {H:Hp} {s:Shared} (I:Inv X pins σ H s):interactive X.env=false:=by simp[interactive,I.ok.kind]
noncomputable def tDrop (te:TE):TS:=λ D σ H=>te σ H λ _u H1=>D.nx σ H1
theorem ps_expr (he:PE X e te) (hs:autoParam (swapsWith e none pos.line X.env=pure false) aN._auto_1):PS X (.Expr e pos) (tDrop te):=by
 intro pins s σ H D I h;exact wpAny_Expr_any (thn (he pins s σ H _ I h) λ v s1 ⟨x,H1,I1,r1,q1⟩=>⟨σ,H1,I1,q1⟩) I.quiet hs
noncomputable def tRet (te:TE):TS:=λ D σ H=>te σ H D.rt
theorem ps_ret (he:PE X e te):PS X (.Return (some e) pos) (tRet te):=by
 intro pins s σ H D I h;exact wpAny_Return_some (thn (he pins s σ H _ I h) λ v s1 ⟨x,H1,I1,r1,q1⟩=>⟨x,σ,H1,I1,r1,q1⟩)
noncomputable def tIfS (c:TT) (t u:TS):TS:=λ D σ H=>c σ H λ b H1=>if b=true then t D σ H1 else u D σ H1
theorem ps_if {c:Expr} {a b:List Stmt} {tc:TT} (hc:PT X c tc) (ha:PSs X a t) (hb:PSs X b u):PS X (.If c a b pos) (tIfS tc t u):=by
 intro pins s σ H D I h;refine wpAny_If (thn (hc pins s σ H _ I h) λ d s1 bh=>?_);obtain⟨H1,I1,q1⟩:=bh;cases d with
 |true=>exact ha pins s1 σ H1 D I1 q1
 |false=>exact hb pins s1 σ H1 D I1 q1
end
noncomputable abbrev TG:=V->St->Hp->(St->Hp->Prop)->Prop
noncomputable abbrev TGs:=List V->St->Hp->(St->Hp->Prop)->Prop
noncomputable def PG (X:Cx) (target:Expr) (t:TG):Prop:=
 ∀ (pins:List (Addr×Obj)) (s:Shared) (σ:St) (H:Hp) (v:V) (u:Value) (Q:St->Hp->Prop),Inv X pins σ H s->RelV v u->t v σ H Q->
  wpAny (model X.prog X.w) X.A (assign target X.env u) (λ _u s'=>W4 X pins Q s') X.xe s
noncomputable def PGs (X:Cx) (ts:List Expr) (t:TGs):Prop:=
 ∀ (pins:List (Addr×Obj)) (s:Shared) (σ:St) (H:Hp) (vs:List V) (us:List Value) (Q:St->Hp->Prop),Inv X pins σ H s->Vals vs us->t vs σ H Q->
  wpAny (model X.prog X.w) X.A (assignInOrder ((assignEach ts X.env).map (·.2)) us) (λ _u s'=>W4 X pins Q s') X.xe s
noncomputable abbrev TSet:=V->V->V->Hp->(Hp->Prop)->Prop
noncomputable def PSet (X:Cx) (t:TSet):Prop:=
 ∀ (pins:List (Addr×Obj)) (s:Shared) (σ:St) (H:Hp) (o i v:V) (ov iv u:Value) (Q:Hp->Prop),Inv X pins σ H s->RelV o ov->RelV i iv->RelV v u->t o i v H Q->
  wpAny (model X.prog X.w) X.A (setItem ov iv u) (λ _u s'=>∃H',Inv X pins σ H' s'/\Q H') X.xe s
noncomputable abbrev TIp:=V->V->Hp->VK->Prop
noncomputable def PIp (X:Cx) (op:Operator) (t:TIp):Prop:=
 ∀ (pins:List (Addr×Obj)) (s:Shared) (σ:St) (H:Hp) (x y:V) (v u:Value) (Q:VK),Inv X pins σ H s->RelV x v->RelV y u->t x y H Q->
  wpAny (model X.prog X.w) X.A (inplaceOp op v u) (EP X pins σ Q) X.xe s
section
variable {X:Cx} {pos:Pos}
noncomputable def gName (i:Nat):TG:=λ v σ H Q=>Q (σ.set i (some v)) H
theorem pg_name {i:Nat} {x:Str} (hN:X.N.Nodup) (hi:X.N[i]?=some x) (hx:Loc X.env.scope x) (hf:autoParam (X.fn x=true\/X.env.scope.names.lookup x=some .local) ap6._auto_1):PG X (.Name x pos) (gName i):=by
 intro pins s σ H v u Q I r h;exact wpAny_assign_Name (store_ok I hN hi hx r (λ s' I'=>⟨_,H,I',h⟩) hf)
noncomputable def gNil:TGs:=λ vs σ H Q=>vs=[]/\Q σ H
noncomputable def gCons (t:TG) (u:TGs):TGs:=λ vs σ H Q=>∃v r,vs=v::r/\t v σ H λ σ' H'=>u r σ' H' Q
theorem pgs_nil:PGs X [] gNil:=by
 intro pins s σ H vs us Q I r h;obtain⟨e,h⟩:=h;subst e;cases r;exact assignInOrder_nil ⟨σ,H,I,h⟩
theorem pgs_cons {e:Expr} {es:List Expr} {t:TG} {u:TGs} (h1:PG X e t) (h2:PGs X es u)
  (hs:autoParam ((assignEach (e::es) X.env).map (·.2)=assign e X.env::(assignEach es X.env).map (·.2)) aN._auto_1):PGs X (e::es) (gCons t u):=by
 intro pins s σ H vs us Q I r h;obtain⟨v,vr,e1,h⟩:=h;subst e1;cases r with
 | cons r rr=>
  rw[hs];refine assignInOrder_cons (thn (h1 pins s σ H _ _ _ I r h) λ _u s1 bh=>?_);obtain⟨σ1,H1,I1,q1⟩:=bh;exact h2 pins s1 σ1 H1 _ _ Q I1 rr q1
noncomputable def gTup (K:PySem.W.Frag) (n:Nat) (t:TGs):TG:=λ v σ H Q=>∃a xs,v= .ref a/\SqT K H a xs/\xs.length=n/\t xs σ H Q
theorem pg_tup {es:List Expr} {k:Nat} {t:TGs} {n:Nat} (hc:X.calm=true) (h:PGs X es t)
  (hn:autoParam ((assignEach es X.env).length=n) aN._auto_1) (hst:autoParam ((assignEach es X.env).findIdx? (·.1)=none) aN._auto_1):PG X (.Tuple es k pos) (gTup X.K n t):=by
 intro pins s σ H v u Q I r hw;obtain⟨a,xs,e1,hq,hl,hw⟩:=hw;subst e1;cases r;obtain⟨its,rv,ht,hz⟩:=I.tuple hq;refine assign_Tuple_tuple (I.ok.hd hc) ht (by simp[hn,<-hl,rv.length]) hst λ h' hx=>?_;have I1:Inv X pins σ H {s with heap:=h'}:=I.kept (t':=s.toks) λ b o e=>hx b o (Nat.ne_of_lt (z2c e)) e;exact h pins _ σ H xs _ Q I1 (by simpa using rv) hw
noncomputable def gSub (to ti:TE) (t:TSet):TG:=λ v σ H Q=>to σ H λ o H1=>ti σ H1 λ i H2=>t o i v H2 λ H3=>Q σ H3
theorem pg_sub {o i:Expr} {to ti:TE} {t:TSet} (ho:PE X o to) (hi:PE X i ti) (hs:PSet X t)
  (ha:autoParam (∀v,assign (.Subscript o i pos) X.env v=(do
   let ov <-holding [v] (eval o X.env)
   let iv <-holding [v,ov] (eval i X.env)
   standAt pos
   holding [v,ov,iv] (setItem ov iv v)
   release [v,ov,iv] [])) yN._auto_1):PG X (.Subscript o i pos) (gSub to ti t):=by
 intro pins s σ H v u Q I r h;rw[ha];refine wpAny_bind (wpAny_holding (thn (ho pins s σ H _ I h) λ ov s1 bh=>?_));obtain⟨x,H1,I1,r1,q1⟩:=bh;refine wpAny_bind (wpAny_holding (thn (hi pins s1 σ H1 _ I1 q1) λ iv s2 bh=>?_));obtain⟨y,H2,I2,r2,q2⟩:=bh;refine wpAny_bind (wpAny_standAt (wpAny_bind (wpAny_holding (thn (hs pins s2 σ H2 x y v ov iv u _ I2 r1 r2 r q2) λ _u s3 bh=>?_))));obtain⟨H3,I3,q3⟩:=bh;exact wpAny_release ⟨σ,H3,I3,q3⟩
noncomputable def tAsg (te:TE) (g:TG):TS:=λ D σ H=>te σ H λ x H1=>g x σ H1 D.nx
theorem ps_asg {tg e:Expr} {te:TE} {g:TG} (he:PE X e te) (hg:PG X tg g) (hs:autoParam (swapsWithSole [tg] e pos.line X.env=pure false) aN._auto_1) (hw:autoParam (swappedStores [tg] e X.env=pure none) aN._auto_1)
  (h1:autoParam ((assignEach [tg] X.env).map (·.2)=[assign tg X.env]) aN._auto_1):PS X (.Assign [tg] e pos) (tAsg te g):=by
 intro pins s σ H D I h;refine wpAny_Assign_stores (thn (he pins s σ H _ I h) λ v s1 ⟨x,H1,I1,r1,q1⟩=>?_) hs hw;rw[h1];exact thn (hg pins s1 σ H1 x v _ I1 r1 q1) λ _u s2 q=>q
theorem ps_set {i:Nat} {x:Str} {e:Expr} {te:TE} {pos':Pos} (hN:X.N.Nodup) (hi:X.N[i]?=some x) (hx:Loc X.env.scope x) (he:PE X e te) (hs:autoParam (swapsWith e (some (.Name x pos')) pos.line X.env=pure false) aN._auto_1) (hf:autoParam (X.fn x=true\/X.env.scope.names.lookup x=some .local) ap6._auto_1):
  PS X (.Assign [.Name x pos'] e pos) (tAsg te (gName i)):=by
 intro pins s σ H D I h;refine wpAny_Assign_Name (thn (he pins s σ H _ I h) λ v s1 ⟨y,H1,I1,r1,q1⟩=>?_) hs;exact store_ok I1 hN hi hx r1 (λ s2 I2=>⟨_,H1,I2,q1⟩) hf
noncomputable def tPar (i j:Nat) (ta:TA):TS:=λ D σ H=>ta σ H λ vs H1=>∃v w,vs=[v,w]/\D.nx ((σ.set i (some v)).set j (some w)) H1
theorem ps_par {i j:Nat} {x y:Str} {a b:Expr} {ta:TA} {px py pt:Pos} {kt k2 pt2} (hc:X.calm=true) (hN:X.N.Nodup) (hi:X.N[i]?=some x) (hj:X.N[j]?=some y) (hij:i≠j)
  (hx:X.env.scope.names.lookup x=some .local) (hy:X.env.scope.names.lookup y=some .local) (ha:PA X [a,b] ta)
  (hw:swappedStores [.Tuple [.Name x px,.Name y py] kt pt] (.Tuple [a,b] k2 pt2) X.env=pure (some [x,y]))
  (hs:autoParam (swapsWithSole [.Tuple [.Name x px,.Name y py] kt pt] (.Tuple [a,b] k2 pt2) pos.line X.env=pure false) aN._auto_1):
  PS X (.Assign [.Tuple [.Name x px,.Name y py] kt pt] (.Tuple [a,b] k2 pt2) pos) (tPar i j ta):=by
 intro pins s σ H D I h;rw[exec_Assign_arm];refine wpAny_bind (wpAny_standAt ?_);rw[hs];refine wpAny_bind (wpAny_pure ?_);rw[if_neg (by decide)];refine wpAny_bind (Tuple_ (thn (ha _ pins s σ H _ I h) λ us s1 bh=>?_));obtain⟨vs,H1,I1,r1,q1⟩:=bh;obtain⟨v,w,e1,q1⟩:=q1;subst e1;obtain⟨u1,u2,rfl,rv,rw'⟩:∃u1 u2,us=[u1,u2]/\RelV v u1/\RelV w u2:=by
  cases r1 with
  | cons p q=>
   cases q with
   | cons p' q'=>
    cases q';exact⟨_,_,rfl,p,p'⟩
 refine wpAny_newObj_type ?_ (by show 2<=sizeLine;decide);have I2:Inv X pins σ H1 {s1 with heap:=s1.heap.push {cls:= .type "tuple",data:= .seq [u1,u2].toArray}}:=I1.kept (t':=s1.toks) λ b o e=>z1a _ e;rw[hw];refine wpAny_bind (wpAny_pure ?_);show wpAny (model X.prog X.w) X.A (do rule "assign.swapped-stores";let items <-unpackItems (.ref s1.heap.objs.size) 2 none;assignInOrder [λ v=>bindName X.env y v,λ v=>bindName X.env x v] items.reverse;pure Flow.next) _ _ _;refine wpAny_bind (wpAny_rule (wpAny_bind (unpackItems_tuple (items:= #[u1,u2]) (I.ok.hd hc) (IsTup.new s1.heap _) λ h' hx'=>?_)));have I3:=I2.kept (h':=h') (t':=s1.toks) λ b o e=>hx' b o (Nat.ne_of_lt (z2c e)) e;show wpAny _ _ (assignInOrder [λ v=>bindName X.env y v,λ v=>bindName X.env x v] [u2,u1] >>=λ _u=>pure Flow.next) _ _ _;refine wpAny_bind (assignInOrder_cons (wpAny_bindName (store_ok I3 hN hj (.inl hy) rw' (λ s2 I4=>?_) (.inr hy))));refine assignInOrder_cons (wpAny_bindName (store_ok I4 hN hi (.inl hx) rv (λ s3 I5=>assignInOrder_nil (wpAny_pure ?_)) (.inr hx)));rw[List.set_comm _ _ (Ne.symm hij)] at I5;exact⟨_,H1,I5,q1⟩
noncomputable def tAug (i:Nat) (te:TE) (ti:TIp):TS:=λ D σ H=>∃x,σ[i]?=some (some x)/\te σ H λ y H1=>ti x y H1 λ z H2=>D.nx (σ.set i (some z)) H2
theorem ps_aug {i:Nat} {x:Str} {e:Expr} {te:TE} {op:Operator} {ti:TIp} {pos':Pos} (hN:X.N.Nodup) (hi:X.N[i]?=some x) (hx:Loc X.env.scope x) (he:PE X e te) (ho:PIp X op ti) (hf:autoParam (X.fn x=true\/X.env.scope.names.lookup x=some .local) ap6._auto_1):
  PS X (.AugAssign (.Name x pos') op e pos) (tAug i te ti):=by
 intro pins s σ H D I h;obtain⟨v,e1,h⟩:=h;obtain⟨m,hn,hl⟩:=I.loc;have vis:Vis X.env.scope x:=by rcases hx with k |k;exact .inl k;exact .inr (.inl k)
 obtain⟨u,r,l⟩:=hl i x v hi e1 vis;refine wpAny_AugAssign_Name ?_;have go:wpAny (model X.prog X.w) X.A (eval e X.env) (λ w s₂=>wpAny (model X.prog X.w) X.A (inplaceOp op u w) (λ r s₃=>wpAny (model X.prog X.w) X.A (storeName X.env x r) (λ _u=>SP X pins D .next) X.xe s₃) X.xe s₂) X.xe s:=by
  refine thn (he pins s σ H _ I h) λ w s1 bh=>?_;obtain⟨y,H1,I1,r1,q1⟩:=bh;refine thn (ho pins s1 σ H1 v y u w _ I1 r r1 q1) λ z s2 bh=>?_;obtain⟨zv,H2,I2,r2,q2⟩:=bh;exact store_ok I2 hN hi hx r2 (λ s3 I3=>⟨_,H2,I3,q2⟩) hf
 rcases l with⟨hk,hm⟩ |⟨hk,c,hc,hcell⟩
 ·exact wpAny_loadName_local I.ok.kind hk hn hm go
 ·rcases hk with hk |hk
  ·exact wpAny_loadName_cell I.ok.kind hk hc hcell go
  ·rcases hx with k |k
   ·have:X.env.scope.names.lookup x=some .free:=hk;rw[k] at this;cases this
   ·have:X.env.scope.names.lookup x=some .free:=hk;rw[k] at this;cases this
end
section
variable {X:Cx} {pos:Pos}
noncomputable def tWhile (c:TT) (tb:TS):TS:=λ D σ H=>∃W:Nat->St->Hp->Prop,(∃m,W m σ H)/\∀m σ H,W m σ H->
 c σ H λ b H1=>if b=true then ∃N:St->Hp->Prop,(∀σ' H',N σ' H'->∃m',m' < m/\W m' σ' H')/\tb {D with nx:=N,ct:=N,bk:=D.nx} σ H1 else D.nx σ H1
theorem ps_while {c:Expr} {body:List Stmt} {tc:TT} {tb:TS} (hp:PassesOwn (model X.prog X.w) X.A X.env X.xe) (hc:PT X c tc) (hb:PSs X body tb):PS X (.While c body [] pos) (tWhile tc tb):=by
 intro pins s σ H D I h;obtain⟨W,⟨m0,w0⟩,turn⟩:=h;refine wpAny_While (codeAny_whileLoop (λ n s'=>∃σ' H',Inv X pins σ' H' s'/\W n σ' H') ?_ m0 ⟨σ,H,I,w0⟩)
 rintro n s1 ⟨σ1,H1,I1,w1⟩
 refine wpAny_passesOwn hp (thn (hc pins s1 σ1 H1 _ I1 (turn n σ1 H1 w1)) λ b s2 bh=>?_);obtain⟨H2,I2,q2⟩:=bh;cases b with
 | true=>
  obtain⟨N,hN,q2⟩:=q2;rw[if_pos rfl];refine wpAny_passesOwn hp (thn (hb pins s2 σ1 H2 _ I2 q2) λ f s3 q3=>?_);cases f with
  | next=>
   obtain⟨σ3,H3,I3,n3⟩:=q3;obtain⟨m',hm,w3⟩:=hN σ3 H3 n3;exact⟨m',hm,σ3,H3,I3,w3⟩
  | cont=>
   obtain⟨σ3,H3,I3,n3⟩:=q3;obtain⟨m',hm,w3⟩:=hN σ3 H3 n3;exact⟨m',hm,σ3,H3,I3,w3⟩
  |brk=>exact q3
  |ret v=>exact q3
 | false=>
  rw[if_neg Bool.false_ne_true];exact wpAny_execs_nil ⟨σ1,H2,I2,q2⟩
end
structure It where
 go:Nat->Hp->Prop
 yld:Nat->Hp->V->Hp->Prop
 stop:Nat->Hp->Prop
noncomputable def FpOk (X:Cx) (pins:List (Addr×Obj)) (H:Hp) (b:Addr):Prop:=
 H b=none/\b≠X.env.locals/\b∉X.fs/\(b∈X.ex\/X.s₀.heap.objs.size<=b)/\(∀x c,X.env.cells.lookup x=some c->c≠b)/\∀p∈X.pn++pins,p.1≠b
theorem Inv.fpOk {X:Cx} {pins:List (Addr×Obj)} {σ:St} {H H':Hp} {s:Shared} {b:Addr} (I:Inv X pins σ H s) (hb:s.heap.objs.size<=b) (hn:H' b=none):FpOk X pins H' b:=by
 refine⟨hn,Nat.ne_of_gt (z0d I.lt hb),I.nofs hb,.inr (z0b I.sz hb),λ x c e z=>?_,λ p hp z=>?_⟩
 ·obtain⟨v,q⟩:=I.cell x c e;exact absurd (z0d q.lt (by rw[z];exact hb)) (Nat.lt_irrefl _)
 ·exact absurd (z0d (z2c (I.pin p hp).1) (by rw[z];exact hb)) (Nat.lt_irrefl _)
inductive aer (X:Cx) (pins:List (Addr×Obj)) (σ:St) (H:Hp) (J:It) (tn:Nat->Heap->Prop) (fp:List Addr) (i:Nat) (u:Value) (s2:Shared):Prop
 |mk (x:V) (H':Hp) (I:Inv X pins σ H' s2) (r:RelV x u) (y:J.yld i H x H') (st:tn (i+1) s2.heap) (f:∀b∈fp,H' b=none):aer X pins σ H J tn fp i u s2
structure Turn (P:Program) (w:World) (K:PySem.W.Frag) (tg:Expr) (J:It) (fp:List Addr) (it:Addr) (tn:Nat->Heap->Prop):Prop where
 mem:it∈fp
 obj:∀i h,tn i h->∀b∈fp,∃o,h.get? b=some o/\∀v,o.data≠.cell v
 keep:∀i h h',tn i h->(∀b∈fp,∀o,h.get? b=some o->h'.get? b=some o)->tn i h'
 item:∀(X:Cx),X.prog=P->X.w=w->X.K=K->X.calm=true->∀(i:Nat) (pins:List (Addr×Obj)) (s:Shared) (σ:St) (H:Hp) (E:Value->Shared->Prop),Inv X pins σ H s->(∀b∈fp,FpOk X pins H b)->tn i s.heap->J.go i H->
  wpAny (model P w) X.A (pyNext (.ref it)) (λ r s1=>∃u,r=some u/\
   wpAny (model P w) X.A (letOwnedTupleGo tg (.ref it) u) (λ _u s2=>aer X pins σ H J tn fp i u s2) E s1) E s
 done:∀(X:Cx),X.prog=P->X.w=w->X.K=K->X.calm=true->∀(i:Nat) (pins:List (Addr×Obj)) (s:Shared) (σ:St) (H:Hp) (E:Value->Shared->Prop),Inv X pins σ H s->(∀b∈fp,FpOk X pins H b)->tn i s.heap->J.stop i H->
  wpAny (model P w) X.A (pyNext (.ref it)) (λ r s1=>r=none/\Inv X pins σ H s1) E s
 self:∀(A:Around) (i:Nat) (s:Shared) (Q:Value->Shared->Prop) (E:Value->Shared->Prop),tn i s.heap->Q (.ref it) s->wpAny (model P w) A (pyIter (.ref it)) Q E s
noncomputable abbrev TI:=St->Hp->(It->Hp->Prop)->Prop
inductive PIE (X:Cx) (pins:List (Addr×Obj)) (σ:St) (tg:Expr) (R:It->Hp->Prop) (itv:Value) (s2:Shared):Prop
 |mk (it:Addr) (fp:List Addr) (tn:Nat->Heap->Prop) (J:It) (H':Hp) (e:itv= .ref it) (I:Inv X pins σ H' s2) (T:Turn X.prog X.w X.K tg J fp it tn) (st:tn 0 s2.heap) (f:∀b∈fp,FpOk X pins H' b) (r:R J H'):PIE X pins σ tg R itv s2
noncomputable def PI (X:Cx) (tg iter:Expr) (wi:TI):Prop:=
 ∀ (pins:List (Addr×Obj)) (s:Shared) (σ:St) (H:Hp) (R:It->Hp->Prop),Inv X pins σ H s->wi σ H R->
  wpAny (model X.prog X.w) X.A (eval iter X.env) (λ v s1=>wpAny (model X.prog X.w) X.A (pyIter v) (PIE X pins σ tg R) X.xe s1) X.xe s
theorem go_of {M:Model} {A:Around} {E:Value->Shared->Prop} {s:Shared} {tg:Expr} {it:Addr} {u:Value} {o:Obj} {n:String} {vs:Array Value} {Q:Unit->Shared->Prop} (ho:s.heap.get? it=some o) (hc:o.cls= .type n) (hd:o.data= .fields vs)
  (hn:["enumerate","zip","dict_itemiterator","dict_reverseitemiterator","odict_iterator","itertools.zip_longest","itertools.pairwise"].contains n=false) (hQ:Q () s):wpAny M A (letOwnedTupleGo tg (.ref it) u) Q E s:=by
 unfold letOwnedTupleGo;cases tg <;> first
  |exact wpAny_pure hQ
  | (cases u <;> first
    |exact wpAny_pure hQ
    | (refine wpAny_bind (wpAny_load ho ?_)
       rw[hc,hd];show wpAny M A (if (["enumerate","zip","dict_itemiterator","dict_reverseitemiterator","odict_iterator","itertools.zip_longest","itertools.pairwise"].contains n && vs[0]? ==some (rawInt _))=true then _ else _) Q E s;rw[if_neg (by intro h;rw[hn,Bool.false_and] at h;cases h)];exact wpAny_pure hQ))
noncomputable def Itl (K:PySem.W.Frag) (a:Addr):It:=
 ⟨λ i H=>∃xs x,SqL K H a xs/\xs[i]?=some x,λ i H x H'=>H'=H/\∀xs,SqL K H a xs->xs[i]?=some x,λ i H=>∃xs,SqL K H a xs/\xs.length<=i⟩
noncomputable def Itt (K:PySem.W.Frag) (a:Addr):It:=
 ⟨λ i H=>∃xs x,SqT K H a xs/\xs[i]?=some x,λ i H x H'=>H'=H/\∀xs,SqT K H a xs->xs[i]?=some x,λ i H=>∃xs,SqT K H a xs/\xs.length<=i⟩
noncomputable def Itr (lo:Int) (n:Nat):It:=⟨λ i _u=>i < n,λ i H x H'=>H'=H/\x= .int (lo+i),λ i _u=>n<=i⟩
theorem turn_list {P:Program} {w:World} {K:PySem.W.Frag} {tg:Expr} (a it:Addr):Turn P w K tg (Itl K a) [it] it (λ i h=>h.IsListIter it a i) where
 mem:=by simp
 obj:=λ i h st b hb=>by
  have e:b=it:=by simpa using hb
  subst e;obtain⟨o,e,c,d⟩:=st;exact⟨o,e,λ v z=>by rw[d] at z;cases z⟩
 keep:=λ i h h' st k=>st.at λ o e=>k it (by simp) o e
 item:=by
  intro X hP hw hK hc i pins s σ H E I hf st hg;subst hP hw hK;obtain⟨xs,x,hq,hx⟩:=hg;obtain⟨its,rv,p,hz⟩:=I.list hq;obtain⟨u,hu,ru⟩:=rv.get hx;obtain⟨f0,f1,f2,f3,f4,f5⟩:=hf it (by simp);refine wpAny_pyNext_list_item st p.isList (x:=u) (by simpa using hu) λ h' st' sb=>?_;have I1:Inv X pins σ H {s with heap:=h'}:=I.turned (t':=s.toks) (λ b o hb e=>(sb.2 b hb).trans e) f0 f1 f3 f4 f5;obtain⟨o,e,c,d⟩:=id st';exact⟨u,rfl,go_of (s:={s with heap:=h'}) e c d (by decide) ⟨x,H,I1,ru,⟨rfl,λ ys hy=>by rw[I.list_inj hy hq];exact hx⟩,st',λ b hb=>(hf b hb).1⟩⟩
 done:=by
  intro X hP hw hK hc i pins s σ H E I hf st hg;subst hP hw hK;obtain⟨xs,hq,hx⟩:=hg;obtain⟨its,rv,p,hz⟩:=I.list hq;obtain⟨f0,f1,f2,f3,f4,f5⟩:=hf it (by simp);have hl:=rv.length;exact wpAny_pyNext_list_end (I.ok.hd hc) st p.isList (by simp;exact Qg hl hx) λ h' eb=>⟨rfl,I.turned (t':=s.toks) (λ b o hb e=>eb b o hb e) f0 f1 f3 f4 f5⟩
 self:=λ _u _u _u _u _u st h=>wpAny_pyIter_listiter st h
theorem turn_tuple {P:Program} {w:World} {K:PySem.W.Frag} {tg:Expr} (a it:Addr):Turn P w K tg (Itt K a) [it] it (λ i h=>h.IsTupleIter it a i) where
 mem:=by simp
 obj:=λ i h st b hb=>by
  have e:b=it:=by simpa using hb
  subst e;obtain⟨o,e,c,d⟩:=st;exact⟨o,e,λ v z=>by rw[d] at z;cases z⟩
 keep:=λ i h h' st k=>st.at λ o e=>k it (by simp) o e
 item:=by
  intro X hP hw hK hc i pins s σ H E I hf st hg;subst hP hw hK;obtain⟨xs,x,hq,hx⟩:=hg;obtain⟨its,rv,p,hz⟩:=I.tuple hq;obtain⟨u,hu,ru⟩:=rv.get hx;obtain⟨f0,f1,f2,f3,f4,f5⟩:=hf it (by simp);refine wpAny_pyNext_tuple_item st (show s.heap.IsTuple a its.toArray from p) (x:=u) (by simpa using hu) λ h' st' sb=>?_;have I1:Inv X pins σ H {s with heap:=h'}:=I.turned (t':=s.toks) (λ b o hb e=>(sb.2 b hb).trans e) f0 f1 f3 f4 f5;obtain⟨o,e,c,d⟩:=id st';exact⟨u,rfl,go_of (s:={s with heap:=h'}) e c d (by decide) ⟨x,H,I1,ru,⟨rfl,λ ys hy=>by rw[I.tuple_inj hy hq];exact hx⟩,st',λ b hb=>(hf b hb).1⟩⟩
 done:=by
  intro X hP hw hK hc i pins s σ H E I hf st hg;subst hP hw hK;obtain⟨xs,hq,hx⟩:=hg;obtain⟨its,rv,p,hz⟩:=I.tuple hq;obtain⟨f0,f1,f2,f3,f4,f5⟩:=hf it (by simp);have hl:=rv.length;exact wpAny_pyNext_tuple_end (I.ok.hd hc) st (show s.heap.IsTuple a its.toArray from p) (by simp;exact Qg hl hx) λ h' eb=>⟨rfl,I.turned (t':=s.toks) (λ b o hb e=>eb b o hb e) f0 f1 f3 f4 f5⟩
 self:=λ _u _u _u _u _u st h=>wpAny_pyIter_tupleiter st h
theorem turn_range {P:Program} {w:World} {K:PySem.W.Frag} {tg:Expr} (it:Addr) (lo:Int) (n:Nat):Turn P w K tg (Itr lo n) [it] it (λ i h=>IsRangeIter h it (lo+(i:Nat)*1) ((n:Int) - (i:Nat)) 1) where
 mem:=by simp
 obj :=λ i h st b hb=>by
  have e:b=it:=by simpa using hb
  subst e;exact⟨_,st,λ v z=>by
   have z':Data.fields _=Data.cell v:=z;cases z'⟩
 keep:=λ i h h' st k=>k it (by simp) _ st
 item:=by
  intro X hP hw hK hc i pins s σ H E I hf st hg;subst hP hw hK;obtain⟨f0,f1,f2,f3,f4,f5⟩:=hf it (by simp);have W:=Walks.range (prog:=X.prog) (w:=X.w) (I.ok.hd hc) it lo 1 n;refine W.item i s _ _ hg st λ v h' tk hv st' kk=>?_;obtain⟨t,rfl⟩:=hv;have I1:Inv X pins σ H {s with heap:=h',toks:=tk}:=I.turned (λ b o hb e=>kk b o (by simpa using hb) e) f0 f1 f3 f4 f5;refine⟨_,rfl,go_of (s:={s with heap:=h',toks:=tk}) (n:= "range_iterator") st' rfl rfl (by decide) ⟨.int (lo+i),H,I1,⟨t,?_⟩,⟨rfl,rfl⟩,st',λ b hb=>(hf b hb).1⟩⟩;rw[Int.mul_one]
 done:=by
  intro X hP hw hK hc i pins s σ H E I hf st hg;subst hP hw hK;obtain⟨f0,f1,f2,f3,f4,f5⟩:=hf it (by simp);exact wpAny_pyNext_range_end (I.ok.hd hc) st (by have:n<=i:=hg;exact oq2 this) λ h' eb=>⟨rfl,I.turned (t':=s.toks) (λ b o hb e=>eb b o hb e) f0 f1 f3 f4 f5⟩
 self:=λ _u _u _u _u _u st h=>wpAny_pyIter_rangeiter st h
section
variable {X:Cx} {tg:Expr}
theorem range_it {pins:List (Addr×Obj)} {σ:St} {H:Hp} {s:Shared} {R:It->Hp->Prop} {E:Value->Shared->Prop} {lo hi:Int} {t u v:Tok} {tk:Nat} (I:Inv X pins σ H s) (h1: -(2 ^ 62)<=lo) (h2:lo < 2 ^ 62) (h3: -(2 ^ 62)<=hi) (h4:hi < 2 ^ 62)
  (q:R (Itr lo (hi - lo).toNat) H):wpAny (model X.prog X.w) X.A (pyIter (.ref s.heap.objs.size)) (PIE X pins σ tg R) E {s with heap:=s.heap.push {cls:= .type "range",data:= .fields #[.int lo t,.int hi u,.int 1 v]},toks:=tk}:=by
 refine wpAny_pyIter_range (IsRange.new ..) (small_one h1 h2 h3 h4) ?_;have I1:Inv X pins σ H {s with heap:=s.heap.push {cls:= .type "range",data:= .fields #[.int lo t,.int hi u,.int 1 v]},toks:=tk}:=I.kept λ b o e=>z1a _ e;refine⟨(s.heap.push {cls:= .type "range",data:= .fields #[.int lo t,.int hi u,.int 1 v]}).objs.size,[(s.heap.push {cls:= .type "range",data:= .fields #[.int lo t,.int hi u,.int 1 v]}).objs.size],_,_,H,rfl,
  I1.kept (t':=tk) λ b o e=>z1a _ e,turn_range _ lo (hi - lo).toNat,?_,λ b hb=>?_,q⟩
 ·have e1:lo+((0:Nat):Int)*1=lo:=by simp
  have e2:(((hi - lo).toNat:Nat):Int) - ((0:Nat):Int)=Builtin.Range.rangeSize lo hi 1:=by rw[rangeSize_one];split <;> (first |exact oq3 (by assumption) |exact oq4 (by assumption))
  show IsRangeIter _ _ (lo+((0:Nat):Int)*1) ((((hi - lo).toNat:Nat):Int) - ((0:Nat):Int)) 1;rw[e1,e2];exact z1f _ rfl
 ·have e:b=(s.heap.push {cls:= .type "range",data:= .fields #[.int lo t,.int hi u,.int 1 v]}).objs.size:=by simpa using hb
  subst e;exact I1.fpOk (z0g _) (I1.hok.fresh (z0g _))
noncomputable def iRng1 (ta:TA):TI:=λ σ H R=>ta σ H λ vs H1=>∃j:Int,vs=[.int j]/\-(2 ^ 62)<=j/\j < 2 ^ 62/\R (Itr 0 j.toNat) H1
theorem pi_range1 {a:Expr} {ta:TA} {p pos:Pos} (hg:Gl X "range") (hm:X.mg "range" =none) (ha:PA X [a] ta) (hs:autoParam (starEach [a] X.env=[(false,eval a X.env)]) aN._auto_1):PI X tg (.Call (.Name "range" p) [a] [] pos) (iRng1 ta):=by
 intro pins s σ H R I h;refine Call_ (ld_blt I hg hm boot_range (PyProof.Rows.callWith_type1 (thn (ha pos pins s σ H _ I h) λ us s1 ⟨vs,H1,I1,r1,q1⟩=>?_) hs rfl));obtain⟨j,e,q1,q2,q⟩:=q1;subst e;cases r1 with
 | cons r rr=>
  cases rr;obtain⟨t,rfl⟩:=r;exact call_range_1 (range_it I1 (by exact z0a _) (by exact z0a _) q1 q2 (by simpa using q))
noncomputable def tFor (wi:TI) (g:TG) (tb:TS):TS:=λ D σ H=>wi σ H λ J H1=>∃W:Nat->Nat->St->Hp->Prop,(∃m,W 0 m σ H1)/\∀i m σ H,W i m σ H->
 (J.stop i H/\D.nx σ H)\/(J.go i H/\∃N:St->Hp->Prop,(∀σ' H',N σ' H'->∃m',m' < m/\W (i+1) m' σ' H')/\∀x H',J.yld i H x H'->g x σ H' λ σ2 H2=>tb {D with nx:=N,ct:=N,bk:=D.nx} σ2 H2)
noncomputable def pinsAt (fp:List Addr) (h:Heap):List (Addr×Obj):=fp.filterMap λ b=>(h.get? b).map λ o=>(b,o)
theorem mem_pinsAt {fp:List Addr} {h:Heap} {b:Addr} {o:Obj} (hb:b∈fp) (e:h.get? b=some o):(b,o)∈pinsAt fp h:=List.mem_filterMap.mpr ⟨b,hb,by rw[e];rfl⟩
theorem of_pinsAt {fp:List Addr} {h:Heap} {p:Addr×Obj} (hp:p∈pinsAt fp h):p.1∈fp/\h.get? p.1=some p.2:=by
 obtain⟨b,hb,e⟩:=List.mem_filterMap.mp hp;cases q:h.get? b with
 |none=>rw[q] at e;cases e
 | some o=>
  rw[q] at e;have e':(b,o)=p:=Option.some.inj e;subst e';exact⟨hb,q⟩
theorem Inv.pinned {pins:List (Addr×Obj)} {σ:St} {H:Hp} {s:Shared} {fp:List Addr} (I:Inv X pins σ H s) (hf:∀b∈fp,FpOk X pins H b) (ho:∀b∈fp,∃o,s.heap.get? b=some o/\∀v,o.data≠.cell v):Inv X (pins++pinsAt fp s.heap) σ H s:=
 I.pins_of λ p hp=>(List.mem_append.mp hp).elim (λ z=>I.pin p (List.mem_append_right _ z)) λ z=>by
  obtain⟨hb,e⟩:=of_pinsAt z;obtain⟨f0,f1,f2,_⟩:=hf p.1 hb;obtain⟨o,e',d⟩:=ho p.1 hb;rw[e] at e';cases e';exact⟨e,f0,f1,f2,d⟩
theorem Inv.unpinned {pins pl:List (Addr×Obj)} {σ:St} {H:Hp} {s:Shared} (I:Inv X (pins++pl) σ H s):Inv X pins σ H s:=I.pins_of λ p hp=>I.pin p (List.mem_append_right _ (List.mem_append_left _ hp))
inductive ac2 (X:Cx) (pins:List (Addr×Obj)) (tn:Nat->Heap->Prop) (fp:List Addr) (W:Nat->Nat->St->Hp->Prop) (n:Nat) (s':Shared):Prop
 |mk (i:Nat) (σ':St) (H':Hp) (I:Inv X pins σ' H' s') (st:tn i s'.heap) (fr:∀b∈fp,H' b=none) (w:W i n σ' H'):ac2 X pins tn fp W n s'
theorem ps_for {iter:Expr} {body:List Stmt} {wi:TI} {g:TG} {tb:TS} {pos:Pos} (hp:PassesOwn (model X.prog X.w) X.A X.env X.xe) (hc:X.calm=true) (hi:PI X tg iter wi) (hg:PG X tg g) (hb:PSs X body tb)
  (hs:autoParam (∀x,foldedSetIterable iter X.env x=pure x) yN._auto_1):PS X (.For tg iter body [] pos) (tFor wi g tb):=by
 intro pins s σ H D I h;refine wpAny_For (thn (hi pins s σ H _ I h) λ v s1 h1=>thn h1 λ itv s2 h2=>?_) hs;obtain⟨it,fp,tn,J,H2,e,I2,T,st2,f2,W,⟨m0,w0⟩,turn⟩:=h2;subst e;have stat:∀{H':Hp},(∀b∈fp,H' b=none)->∀b∈fp,FpOk X pins H' b:=λ hn b hb=>⟨hn b hb,(f2 b hb).2⟩;refine codeAny_forLoop_any (λ n s'=>ac2 X pins tn fp W n s') ?_ m0 ⟨0,σ,H2,I2,st2,λ b hb=>(f2 b hb).1,w0⟩
 rintro n s3 ⟨i,σ3,H3,I3,st3,fr3,w3⟩
 rcases turn i n σ3 H3 w3 with⟨stop,qn⟩ |⟨go,N,hN,step⟩
 ·refine wpAny_passesOwn hp (thn (T.done X rfl rfl rfl hc i pins s3 σ3 H3 X.xe I3 (stat fr3) st3 stop) λ r s4 bh=>?_);obtain⟨hr,I4⟩:=bh;subst hr;exact wpAny_execs_nil ⟨σ3,H3,I4,qn⟩
 ·refine wpAny_passesOwn hp (thn (T.item X rfl rfl rfl hc i pins s3 σ3 H3 X.xe I3 (stat fr3) st3 go) λ r s4 bh=>?_);obtain⟨u,hr,h4⟩:=bh;subst hr;refine wpAny_passesOwn hp (thn h4 λ _u s5 bh=>?_);obtain⟨x,H5,I5,r5,y5,st5,fr5⟩:=bh;have I5':=I5.pinned (stat fr5) (T.obj _ _ st5);refine wpAny_passesOwn hp (thn (hg _ s5 σ3 H5 x u _ I5' r5 (step x H5 y5)) λ _u s6 bh=>?_);obtain⟨σ6,H6,I6,q6⟩:=bh;refine wpAny_passesOwn hp (thn (hb _ s6 σ6 H6 _ I6 q6) λ f s7 q7=>?_);have again:∀{σ7:St} {H7:Hp},Inv X (pins++pinsAt fp s5.heap) σ7 H7 s7->N σ7 H7->∃m,m < n/\ac2 X pins tn fp W m s7:=λ {σ7 H7} I7 n7=>by
   obtain⟨m',hm,w7⟩:=hN σ7 H7 n7;refine⟨m',hm,i+1,σ7,H7,I7.unpinned,T.keep _ _ _ st5 λ b hb o e=>(I7.pin (b,o) (List.mem_append_right _ (List.mem_append_right _ (mem_pinsAt hb e)))).1,λ b hb=>?_,w7⟩;obtain⟨o,e,d⟩:=T.obj _ _ st5 b hb;exact (I7.pin (b,o) (List.mem_append_right _ (List.mem_append_right _ (mem_pinsAt hb e)))).2.1
  cases f with
  |next=>obtain⟨σ7,H7,I7,n7⟩:=q7;exact again I7 n7
  |cont=>obtain⟨σ7,H7,I7,n7⟩:=q7;exact again I7 n7
  |brk=>obtain⟨σ7,H7,I7,q7⟩:=q7;exact⟨σ7,H7,I7.unpinned,q7⟩
  |ret v=>obtain⟨x7,σ7,H7,I7,r7,q7⟩:=q7;exact⟨x7,σ7,H7,I7.unpinned,r7,q7⟩
end
noncomputable abbrev R2:=V->V->Hp->VK->Prop
noncomputable def OpR (X:Cx) (f:Value->Value->Sem Value) (r:R2):Prop:=
 ∀ (pins:List (Addr×Obj)) (s:Shared) (σ:St) (H:Hp) (x y:V) (v u:Value) (Q:VK),Inv X pins σ H s->RelV x v->RelV y u->r x y H Q->
  wpAny (model X.prog X.w) X.A (f v u) (EP X pins σ Q) X.xe s
noncomputable def UnR (X:Cx) (f:Value->Sem Value) (r:V->Hp->VK->Prop):Prop:=
 ∀ (pins:List (Addr×Obj)) (s:Shared) (σ:St) (H:Hp) (x:V) (v:Value) (Q:VK),Inv X pins σ H s->RelV x v->r x H Q->
  wpAny (model X.prog X.w) X.A (f v) (EP X pins σ Q) X.xe s
noncomputable def CallR (X:Cx) (f:Value) (r:List V->Hp->VK->Prop):Prop:=
 ∀ (pins:List (Addr×Obj)) (s:Shared) (σ:St) (H:Hp) (xs:List V) (us:List Value) (Q:VK),Inv X pins σ H s->Vals xs us->r xs H Q->
  wpAny (model X.prog X.w) X.A (call f us) (EP X pins σ Q) X.xe s
noncomputable def tOp (r:R2) (ta tb:TE):TE:=λ σ H Q=>ta σ H λ x H1=>tb σ H1 λ y H2=>r x y H2 Q
noncomputable def tUn (r:V->Hp->VK->Prop) (ta:TE):TE:=λ σ H Q=>ta σ H λ x H1=>r x H1 Q
noncomputable def rI (C:Int->Int->Prop) (g:Int->Int->V):R2:=λ x y H Q=>∃i j,x= .int i/\y= .int j/\C i j/\Q (g i j) H
noncomputable def rI0 (g:Int->Int->V):R2:=λ x y H Q=>∃i j,x= .int i/\y= .int j/\Q (g i j) H
noncomputable def rU (g:Int->V):V->Hp->VK->Prop:=λ x H Q=>∃i,x= .int i/\Q (g i) H
section
variable {X:Cx} {a b c:Expr} {ta tb tc:TE} {pos:Pos}
theorem binT (ha:PE X a ta) (hb:PE X b tb) {pins:List (Addr×Obj)} {s:Shared} {σ:St} {H:Hp} {R:V->V->Hp->Prop} (I:Inv X pins σ H s)
  (h:ta σ H λ x H1=>tb σ H1 λ y H2=>R x y H2) {Q:Value->Shared->Prop} {f:Value->Value->Sem Value}
  (hf:∀v u s2 x y H2,Inv X pins σ H2 s2->RelV x v->RelV y u->R x y H2->wpAny (model X.prog X.w) X.A (f v u) Q X.xe s2):
  wpAny (model X.prog X.w) X.A (eval a X.env) (λ v s₁=>wpAny (model X.prog X.w) X.A (eval b X.env) (λ u s₂=>wpAny (model X.prog X.w) X.A (f v u) Q X.xe s₂) X.xe s₁) X.xe s:=by
 refine thn (ha pins s σ H _ I h) λ v s1 bh=>?_;obtain⟨x,H1,I1,r1,q1⟩:=bh;refine thn (hb pins s1 σ H1 _ I1 q1) λ u s2 bh=>?_;obtain⟨y,H2,I2,r2,q2⟩:=bh;exact hf v u s2 x y H2 I2 r1 r2 q2
theorem pe_op {op:Operator} {r:R2} (ho:OpR X (binaryOp op) r) (ha:PE X a ta) (hb:PE X b tb):PE X (.BinOp a op b pos) (tOp r ta tb):=by
 intro pins s σ H Q I h;exact wpAny_BinOp (binT ha hb I h λ v u s2 x y H2 I2 rx ry q=>ho pins s2 σ H2 x y v u Q I2 rx ry q)
theorem pe_un {op:UnaryOp} {r:V->Hp->VK->Prop} (ho:UnR X (unaryOp op) r) (ha:PE X a ta):PE X (.UnaryOp op a pos) (tUn r ta):=by
 intro pins s σ H Q I h;exact UnaryOp_ (thn (ha pins s σ H _ I h) λ v s1 ⟨x,H1,I1,r1,q1⟩=>ho pins s1 σ H1 x v Q I1 r1 q1)
theorem opI {f:Value->Value->Sem Value} {C:Int->Int->Prop} {g:Int->Int->Int}
  (rule:∀(i j:Int) (t u:Tok) (s:Shared) (Q:Value->Shared->Prop) (E:Value->Shared->Prop),C i j->Q (.int (g i j) s.toks) {s with toks:=s.toks+1}->wpAny (model X.prog X.w) X.A (f (.int i t) (.int j u)) Q E s):
  OpR X f (rI C λ i j=> .int (g i j)):=by
 intro pins s σ H x y v u Q I rx ry h;obtain⟨i,j,rfl,rfl,hc,q⟩:=h;obtain⟨t,rfl⟩:=rx;obtain⟨t',rfl⟩:=ry;exact rule i j t t' s _ _ hc ⟨.int (g i j),H,I.tok _,⟨_,rfl⟩,q⟩
theorem opI0 {f:Value->Value->Sem Value} {g:Int->Int->Int}
  (rule:∀(i j:Int) (t u:Tok) (s:Shared) (Q:Value->Shared->Prop) (E:Value->Shared->Prop),Q (.int (g i j) s.toks) {s with toks:=s.toks+1}->wpAny (model X.prog X.w) X.A (f (.int i t) (.int j u)) Q E s):
  OpR X f (rI0 λ i j=> .int (g i j)):=by
 intro pins s σ H x y v u Q I rx ry h;obtain⟨i,j,rfl,rfl,q⟩:=h;obtain⟨t,rfl⟩:=rx;obtain⟨t',rfl⟩:=ry;exact rule i j t t' s _ _ ⟨.int (g i j),H,I.tok _,⟨_,rfl⟩,q⟩
theorem opB0 {f:Value->Value->Sem Value} {g:Int->Int->Bool}
  (rule:∀(i j:Int) (t u:Tok) (s:Shared) (Q:Value->Shared->Prop) (E:Value->Shared->Prop),Q (.bool (g i j)) s->wpAny (model X.prog X.w) X.A (f (.int i t) (.int j u)) Q E s):
  OpR X f (rI0 λ i j=> .bl (g i j)):=by
 intro pins s σ H x y v u Q I rx ry h;obtain⟨i,j,rfl,rfl,q⟩:=h;obtain⟨t,rfl⟩:=rx;obtain⟨t',rfl⟩:=ry;exact rule i j t t' s _ _ ⟨.bl (g i j),H,I,rfl,q⟩
noncomputable def CPow (i j:Int):Prop:=0<=j/\j<=1000000/\i.natAbs < 2 ^ 64
noncomputable def CMul (i j:Int):Prop:=(-(2 ^ 64) < i/\i < 2 ^ 64)\/(-(2 ^ 64) < j/\j < 2 ^ 64)
theorem CMul.ok {i j:Int} (h:CMul i j):IntMulOk i j:=by
 rcases h with⟨h1,h2⟩ |⟨h1,h2⟩
 ·exact .of_left (intBits_le_64 h1 h2)
 ·exact .of_right (intBits_le_64 h1 h2)
theorem op_add:OpR X (binaryOp .Add) (rI0 λ i j=> .int (i+j)):=opI0 λ _u _u _u _u _u _u _u q=>add_int q
theorem op_sub:OpR X (binaryOp .Sub) (rI0 λ i j=> .int (i - j)):=opI0 λ _u _u _u _u _u _u _u q=>sub_int q
theorem op_mul:OpR X (binaryOp .Mult) (rI CMul λ i j=> .int (i*j)):=opI λ _u _u _u _u _u _u _u hc q=>mul_int q hc.ok
theorem op_mod:OpR X (binaryOp .Mod) (rI (λ _u j=>0 < j) λ i j=> .int (i % j)):=opI λ i j _u _u _u _u _u hc q=>by
 have h1:(0:Int) < j:=hc;exact mod_int' (by exact oq5 hc) (by rw[Int.fmod_eq_emod_of_nonneg i (by exact Int.le_of_lt hc)];exact q)
theorem op_pow:OpR X (binaryOp .Pow) (rI CPow λ i j=> .int (i ^ j.toNat)):=opI λ _u _u _u _u _u _u _u hc q=>pow_int_small hc.1 hc.2.1 hc.2.2 q
theorem unI {f:Value->Sem Value} {g:Int->Int}
  (rule:∀(i:Int) (t:Tok) (s:Shared) (Q:Value->Shared->Prop) (E:Value->Shared->Prop),Q (.int (g i) s.toks) {s with toks:=s.toks+1}->wpAny (model X.prog X.w) X.A (f (.int i t)) Q E s):
  UnR X f (rU λ i=> .int (g i)):=by
 intro pins s σ H x v Q I rx h;obtain⟨i,rfl,q⟩:=h;obtain⟨t,rfl⟩:=rx;exact rule i t s _ _ ⟨.int (g i),H,I.tok _,⟨_,rfl⟩,q⟩
theorem un_neg:UnR X (unaryOp .USub) (rU λ i=> .int (-i)):=unI λ _u _u _u _u _u q=>neg_int q
end
section
variable {X:Cx} {a b c:Expr} {ta tb tc:TE} {pos:Pos}
theorem fin_bl {pins:List (Addr×Obj)} {σ:St} {H:Hp} {s:Shared} {Q:VK} {k k':Bool} (I:Inv X pins σ H s) (q:Q (.bl k) H) (e:k=k'):EP X pins σ Q (.bool k') s:=by
 subst e;exact⟨.bl k,H,I,rfl,q⟩
theorem op_lt:OpR X (compareOp .Lt) (rI0 λ i j=> .bl (decide (i < j))):=opB0 λ _u _u _u _u _u _u _u q=>lt_int q
theorem op_le:OpR X (compareOp .LtE) (rI0 λ i j=> .bl (decide (i<=j))):=opB0 λ _u _u _u _u _u _u _u q=>le_int q
theorem op_gt:OpR X (compareOp .Gt) (rI0 λ i j=> .bl (decide (j < i))):=opB0 λ _u _u _u _u _u _u _u q=>gt_int q
theorem op_ge:OpR X (compareOp .GtE) (rI0 λ i j=> .bl (decide (j<=i))):=opB0 λ _u _u _u _u _u _u _u q=>ge_int q
theorem op_isN:OpR X (compareOp .Is) (λ x y H Q=>y= .non/\Q (.bl (decide (x= .non))) H):=by
 intro pins s σ H x y v u Q I rx ry h;obtain⟨rfl,q⟩:=h;cases ry;refine is_none_gen (fin_bl I q ?_);cases x <;> first
  |(cases rx;rfl)
  |(obtain⟨t,rfl⟩:=rx;rfl)
theorem op_notN:OpR X (compareOp .IsNot) (λ x y H Q=>y= .non/\Q (.bl (!decide (x= .non))) H):=by
 intro pins s σ H x y v u Q I rx ry h;obtain⟨rfl,q⟩:=h;cases ry;refine isnot_none_gen (fin_bl I q ?_);cases x <;> first
  |(cases rx;rfl)
  |(obtain⟨t,rfl⟩:=rx;rfl)
theorem OpR.or {f:Value->Value->Sem Value} {r r':R2} (h:OpR X f r) (h':OpR X f r'):OpR X f (λ x y H Q=>r x y H Q\/r' x y H Q):=by
 intro pins s σ H x y v u Q I rx ry q;rcases q with q |q
 ·exact h pins s σ H x y v u Q I rx ry q
 ·exact h' pins s σ H x y v u Q I rx ry q
theorem nomark (b:Expr) {op:CmpOp} (h:autoParam (op≠.In) cD._auto_1) (h2:autoParam (op≠.NotIn) cD._auto_1):behindInMarks op b=false:=by
 have e1:(op ==CmpOp.In)=false:=by cases op <;> first |rfl |exact absurd rfl h
 have e2:(op ==CmpOp.NotIn)=false:=by cases op <;> first |rfl |exact absurd rfl h2
 cases b <;> simp[behindInMarks,e1,e2]
theorem pe_cmpR {op:CmpOp} {r:R2} (ho:OpR X (compareOp op) r) (ha:PE X a ta) (hb:PE X b tb) (hm:behindInMarks op b=false):PE X (.Compare a [op] [b] pos) (tOp r ta tb):=by
 intro pins s σ H Q I h;exact wpAny_Compare1 (binT ha hb I h λ v u s2 x y H2 I2 rx ry q=>ho pins s2 σ H2 x y v u Q I2 rx ry q) hm
noncomputable def tTest (t:TE):TT:=λ σ H Q=>t σ H λ x H'=>∃k,x= .bl k/\Q k H'
theorem pt_cmpR {op:CmpOp} {r:R2} (ho:OpR X (compareOp op) r) (ha:PE X a ta) (hb:PE X b tb) (hm:behindInMarks op b=false):PT X (.Compare a [op] [b] pos) (tTest (tOp r ta tb)):=by
 intro pins s σ H Q I h;refine wpAny_isTrue_Compare1 (thn (ha pins s σ H _ I h) λ v s1 ⟨x,H1,I1,r1,q1⟩=>thn (hb pins s1 σ H1 _ I1 q1) λ u s2 ⟨y,H2,I2,r2,q2⟩=>
  thn (ho pins s2 σ H2 x y v u _ I2 r1 r2 q2) λ c s3 ⟨z,H3,I3,r3,k,e,q3⟩=>?_) hm
 subst e;cases r3;exact wpAny_truthy_bool ⟨H3,I3,q3⟩
noncomputable def tChain (r r':R2) (ta tb tc:TE):TE:=λ σ H Q=>ta σ H λ x H1=>tb σ H1 λ y H2=>r x y H2 λ z H3=>∃k,z= .bl k/\
 (if k=true then tc σ H3 λ w' H4=>r' y w' H4 Q else Q (.bl false) H3)
theorem pe_chain {op op':CmpOp} {r r':R2} (ho:OpR X (compareOp op) r) (ho':OpR X (compareOp op') r') (ha:PE X a ta) (hb:PE X b tb) (hc:PE X c tc)
  (hm:autoParam (lastMarks [op,op'] [b,c]=false) ap7._auto_1):PE X (.Compare a [op,op'] [b,c] pos) (tChain r r' ta tb tc):=by
 intro pins s σ H Q I h;refine Compare_chain (thn (ha pins s σ H _ I h) λ v s1 ⟨x,H1,I1,r1,q1⟩=>chain_link (thn (hb pins s1 σ H1 _ I1 q1) λ u s2 ⟨y,H2,I2,r2,q2⟩=>
  thn (ho pins s2 σ H2 x y v u _ I2 r1 r2 q2) λ d s3 ⟨z,H3,I3,r3,k,e,q3⟩=>?_)) hm
 subst e;cases r3;refine wpAny_truthy_bool ?_;cases k with
 |false=>exact ite_ff ⟨.bl false,H3,I3,rfl,q3⟩
 |true=>exact ite_tt (chain_last (thn (hc pins s3 σ H3 _ I3 q3) λ w' s4 ⟨z',H4,I4,r4,q4⟩=>ho' pins s4 σ H4 y z' u w' Q I4 r2 r4 q4))
theorem pt_chain {op op':CmpOp} {r r':R2} (ho:OpR X (compareOp op) r) (ho':OpR X (compareOp op') r') (ha:PE X a ta) (hb:PE X b tb) (hc:PE X c tc)
  (hm:autoParam (lastMarks [op,op'] [b,c]=false) ap7._auto_1):PT X (.Compare a [op,op'] [b,c] pos) (tTest (tChain r r' ta tb tc)):=by
 intro pins s σ H Q I h;refine isTrue_chain (thn (ha pins s σ H _ I h) λ v s1 ⟨x,H1,I1,r1,q1⟩=>test_link (thn (hb pins s1 σ H1 _ I1 q1) λ u s2 ⟨y,H2,I2,r2,q2⟩=>
  thn (ho pins s2 σ H2 x y v u _ I2 r1 r2 q2) λ d s3 ⟨z,H3,I3,r3,k,e,q3⟩=>?_)) hm
 subst e;cases r3;refine wpAny_truthy_bool ?_;cases k with
 | false=>
  obtain⟨k',e',q'⟩:=q3;cases e';exact ite_ff ⟨H3,I3,q'⟩
 | true=>
  refine ite_tt (test_last (thn (hc pins s3 σ H3 _ I3 q3) λ w' s4 ⟨z',H4,I4,r4,q4⟩=>thn (ho' pins s4 σ H4 y z' u w' _ I4 r2 r4 q4) λ d' s5 bh=>?_));obtain⟨z2,H5,I5,r5,k2,e2,q5⟩:=bh;subst e2;cases r5;exact wpAny_truthy_bool ⟨H5,I5,q5⟩
theorem line63:(sizeLine:Nat) < 2 ^ 63:=by rw[sizeLine_eq];decide
theorem vals1 {x:V} {us:List Value} (r:Vals [x] us):∃u,us=[u]/\RelV x u:=by
 cases r with
 |cons r1 r2=>cases r2;exact⟨_,rfl,r1⟩
theorem vals2 {x y:V} {us:List Value} (r:Vals [x,y] us):∃u w',us=[u,w']/\RelV x u/\RelV y w':=by
 cases r with
 | cons r1 r2=>
  cases r2 with
  |cons r3 r4=>cases r4;exact⟨_,_,rfl,r1,r3⟩
theorem call_abs:CallR X (.builtin "abs") (λ xs H Q=>∃i,xs=[.int i]/\Q (.int (if i < 0 then -i else i)) H):=by
 intro pins s σ H xs us Q I r h;obtain⟨i,rfl,q⟩:=h;obtain⟨u,rfl,t,rfl⟩:=vals1 r;exact call_abs_int λ u tk=>⟨.int (if i < 0 then -i else i),H,I.tok _,⟨_,rfl⟩,q⟩
theorem call_max2 (hc:X.calm=true):CallR X (.builtin "max") (λ xs H Q=>∃i j,xs=[.int i,.int j]/\Q (.int (if j > i then j else i)) H):=by
 intro pins s σ H xs us Q I r h;obtain⟨i,j,rfl,q⟩:=h;obtain⟨u,w',rfl,⟨t,rfl⟩,⟨t',rfl⟩⟩:=vals2 r;refine max_two_ints (I.ok.hd hc) λ h' tk k=>⟨_,H,I.kept k,?_,q⟩;by_cases hj:j > i
 ·rw[if_pos hj,if_pos hj];exact⟨_,rfl⟩
 ·rw[if_neg hj,if_neg hj];exact⟨_,rfl⟩
theorem call_min2 (hc:X.calm=true):CallR X (.builtin "min") (λ xs H Q=>∃i j,xs=[.int i,.int j]/\Q (.int (if j < i then j else i)) H):=by
 intro pins s σ H xs us Q I r h;obtain⟨i,j,rfl,q⟩:=h;obtain⟨u,w',rfl,⟨t,rfl⟩,⟨t',rfl⟩⟩:=vals2 r;refine min_two_ints (I.ok.hd hc) λ h' tk k=>⟨_,H,I.kept k,?_,q⟩;by_cases hj:j < i
 ·rw[if_pos hj,if_pos hj];exact⟨_,rfl⟩
 ·rw[if_neg hj,if_neg hj];exact⟨_,rfl⟩
end
section
variable {prog:Program} {w:World} {A:Around} {E:Value->Shared->Prop} {s:Shared} {K:PySem.W.Frag} {x dx C f:Addr} {mA:Str->Option Value} {name:Str} {v:Value}
end
theorem RelO.some_of {v:V} {o:Option Value} (r:RelO (some v) o):∃u,o=some u/\RelV v u:=by
 cases o with
 |none=>exact (show False from r).elim
 |some u=>exact⟨u,rfl,r⟩
section
variable {P:Program} {w:World} {H H':Hp} {h h':Heap} {a C dx:Addr} {fs fs':List (Str×V)}
end
section
variable {X:Cx} {pins:List (Addr×Obj)} {σ:St} {H:Hp} {s:Shared} {a C dx:Addr} {fs:List (Str×V)} {f:Str} {v:V} {A:Around} {E:Value->Shared->Prop}
end
section
variable {X:Cx} {o e value:Expr} {f:Str} {pos pos' tpos:Pos} {ta tv:TE}
end
section
variable {X:Cx} {pins:List (Addr×Obj)} {σ:St} {H:Hp} {s:Shared} {A:Around} {E:Value->Shared->Prop} {Q:Value->Shared->Prop} {c:Value} {b:Bool}
end
structure Room (k:Nat) (A:Around):Prop where
 hd:A.handled=none
 dp:A.depth+3*k+5 < recursionLimit
 un:A.units+16*k+200 < cLine
theorem Room.mono {j k:Nat} {A:Around} (r:Room k A) (h:j<=k):Room j A:=⟨r.hd,by have:=r.dp;exact oq7 this h,by have:=r.un;exact oq6 this h⟩
theorem Room.deeper {k:Nat} {A:Around} (r:Room (k+1) A) (env:Env):Room k (A.deeper env):=
 ⟨r.hd,by have:=r.dp;show A.depth+1+3*k+5 < _;exact oq9 this,by have:=r.un;show A.units+3+16*k+200 < _;exact oq8 this⟩
theorem Room.depth {k:Nat} {A:Around} (r:Room k A):A.depth < recursionLimit:=by have:=r.dp;exact aiv this
theorem Room.units {k:Nat} {A:Around} (r:Room k A):A.units+64 < cLine:=by have:=r.un;omega
noncomputable def tNil:TA:=λ _u H Q=>Q [] H
noncomputable def tCons (ta:TE) (tr:TA):TA:=λ σ H Q=>ta σ H λ x H1=>tr σ H1 λ xs H2=>Q (x::xs) H2
section
variable {X:Cx} {e:Expr} {es:List Expr} {te:TE} {t:TA} {pos:Pos}
theorem pa_nil:PA X [] tNil:=λ _u _u _u _u H Q I h=>Calls.spliced_nil ⟨[],H,I,.nil,h⟩
theorem pa_cons (ha:PE X e te) (hr:PA X es t) (hs:autoParam (starEach (e::es) X.env=(false,eval e X.env)::starEach es X.env) aN._auto_1):PA X (e::es) (tCons te t):=by
 intro pos pins s σ H Q I h;rw[hs];show wpAny _ _ (spliced ((false,eval e X.env)::backTo pos (starEach es X.env))) _ _ s;refine Calls.spliced_cons (thn (ha pins s σ H _ I h) λ u s1 bh=>?_);obtain⟨x,H1,I1,r1,q1⟩:=bh;refine thn (hr pos pins s1 σ H1 _ I1 q1) λ us s2 bh=>?_;obtain⟨xs,H2,I2,r2,q2⟩:=bh;exact⟨x::xs,H2,I2,.cons r1 r2,q2⟩
noncomputable def tTup (t:TA):TE:=λ σ H Q=>t σ H λ xs H1=>xs.length<=sizeLine/\∀p,H1 p=none->Q (.ref p) (upd H1 p (.tup xs))
noncomputable def tLst (t:TA):TE:=λ σ H Q=>t σ H λ xs H1=>xs.length<=sizeLine/\∀p,H1 p=none->Q (.ref p) (upd H1 p (.lst xs))
theorem pe_tup {x1} (h:PA X es t):PE X (.Tuple es x1 pos) (tTup t):=by
 intro pins s σ H Q I hq;refine wpAny_Tuple_spliced (thn (h pos pins s σ H _ I hq) λ us s1 ⟨xs,H1,I1,r,z,q⟩=>⟨by rw[<-r.length];exact z,?_⟩);have hf:H1 s1.heap.objs.size=none:=I1.hok.fresh (z0g _);refine⟨.ref s1.heap.objs.size,upd H1 s1.heap.objs.size (.tup xs),I1.laid (t':=s1.toks) (λ b u e=>z1a _ e) (z0g _) ?_,rfl,q _ hf⟩;exact⟨z,us,r,⟨_,z1f _ rfl,rfl,_,rfl⟩⟩
theorem pe_lst (h:PA X es t):PE X (.List es pos) (tLst t):=by
 intro pins s σ H Q I hq;refine wpAny_List_spliced (thn (h pos pins s σ H _ I hq) λ us s1 ⟨xs,H1,I1,r,z,q⟩=>⟨by rw[<-r.length];exact z,?_⟩);have hf:H1 s1.heap.objs.size=none:=I1.hok.fresh (z0g _);refine⟨.ref s1.heap.objs.size,upd H1 s1.heap.objs.size (.lst xs),I1.laid (t':=s1.toks) (λ b u e=>z1a _ e) (z0g _) ?_,rfl,q _ hf⟩;exact⟨z,us,0,r,z1f _ rfl⟩
end
noncomputable abbrev Sp:=List V->Hp->VK->XK->Prop
noncomputable abbrev CXT:=List Env->Hp->Shared->XK->Value->Shared->Prop
structure Env0 (P:Program) (w:World) (K:PySem.W.Frag) (mg:Str->Option Value) (base:Heap) (A:Around) (outer:List Env) (s:Shared) (H:Hp):Prop where
 frames:A.frames=some outer
 mod:Mod K mg base
 bs:∀b o,base.get? b=some o->s.heap.get? b=some o/\H b=none
 bsz:base.objs.size<=s.heap.objs.size
 funs:s.heap.FunFrames base outer
 frf:∀b∈frs outer,H b=none
 hok:HOk P w H s.heap
 bare:AllBare s.gens
inductive CE (outer:List Env) (P:Program) (w:World) (H:Hp) (s:Shared) (Q:VK) (u:Value) (s':Shared):Prop
 |mk (v:V) (H':Hp) (os:s'.os=s.os) (bare:AllBare s'.gens) (un:Un (frs outer) [] H H' s.heap s'.heap) (hok:HOk P w H' s'.heap) (r:RelV v u) (q:Q v H'):CE outer P w H s Q u s'
noncomputable def CR (CX:CXT) (outer:List Env) (P:Program) (w:World) (H:Hp) (s:Shared) (Q:VK) (E:XK) (r:Result) (s':Shared):Prop:=
 match r with
 | .ok (.ret u)=>CE outer P w H s Q u s'
 | .ok _=>False
 | .error e=>CX outer H s E e s'
structure FnOk (P:Program) (w:World) (K:PySem.W.Frag) (mg:Str->Option Value) (base:Heap) (CX:CXT) (k:Nat) (f:Addr) (fd:FuncData) (ps:List Str) (sp:Sp):Prop where
 len:∀vs H Q E,sp vs H Q E->vs.length=ps.length
 run:∀(A:Around) (outer:List Env) (s:Shared) (H:Hp) (args:Args) (us:List Value) (vs:List V) (Q:VK) (E:XK),Room k A->Env0 P w K mg base A outer s H->BindsTo s fd args (ps.zip us)->Vals vs us->sp vs H Q E->
  codeAny (model P w) A (.call (.ref f) args) (CR CX outer P w H s Q E) s
theorem FnOk.mono {P:Program} {w:World} {K:PySem.W.Frag} {mg:Str->Option Value} {base:Heap} {CX:CXT} {j k:Nat} {f:Addr} {fd:FuncData} {ps:List Str} {sp:Sp} (F:FnOk P w K mg base CX j f fd ps sp) (h:j<=k):
  FnOk P w K mg base CX k f fd ps sp:=⟨F.len,λ A outer s H args us vs Q E hr=>F.run A outer s H args us vs Q E (hr.mono h)⟩
section
variable {X:Cx} {pins:List (Addr×Obj)} {σ:St} {H:Hp} {s s':Shared}
theorem Inv.env0 (I:Inv X pins σ H s):Env0 X.prog X.w X.K X.mg X.base X.A X.stack s H:=
 ⟨I.ok.frames,I.ok.mod,I.bs,z0b I.ok.bsz I.sz,I.stack,I.stkFree,I.hok,I.bare⟩
theorem Inv.after {Q:VK} {u:Value} (I:Inv X pins σ H s) (h:CE X.stack X.prog X.w H s Q u s'):EP X pins σ Q u s':=by
 obtain⟨v,H',os,bare,un,hok,r,q⟩:=h;obtain⟨hh,g,d,t,os'⟩:=s';obtain rfl:os'=s.os:=os;exact⟨v,H',I.call (h':=hh) (g':=g) (d':=d) (t':=t) (ch:=[]) un hok bare (λ b z=>absurd z (by simp)),r,q⟩
end
noncomputable def tCall (sp:Sp) (dvs:List V) (E:XK) (t:TA):TE:=λ σ H Q=>t σ H λ vs H1=>sp (vs++dvs) H1 Q E
noncomputable def Binds (K:PySem.W.Frag) (fd:FuncData) (ps:List Str) (ds:List Value):Prop:=
 ∀(s:Shared) (us:List Value),K.In s.heap->(us++ds).length=ps.length->BindsTo s fd ⟨us,[]⟩ (ps.zip (us++ds))
theorem Binds.all {K:PySem.W.Frag} {fd:FuncData} {ps:List Str} (h:∀us:List Value,us.length=ps.length->bindArgs fd ⟨us,[]⟩=pure (ps.zip us)):Binds K fd ps []:=λ s us _u hl=>by
 rw[List.append_nil] at hl |-;exact .of_eq (h us hl)
noncomputable def Passes (CX:CXT) (X:Cx) (E:XK):Prop:=∀(pins:List (Addr×Obj)) (σ:St) (H:Hp) (s:Shared) (e:Value) (s':Shared),Inv X pins σ H s->CX X.stack H s E e s'->X.xe e s'
section
variable {X:Cx} {CX:CXT} {k:Nat} {f C:Addr} {fd:FuncData} {ps:List Str} {sp:Sp} {dvs:List V} {ds:List Value} {E:XK} {x m:Str} {p pos apos:Pos} {e o:Expr} {es:List Expr} {ta:TE} {t:TA}
theorem run_fn {pins:List (Addr×Obj)} {σ:St} {H:Hp} {s:Shared} {Q:VK} {us:List Value} {vs:List V} (F:FnOk X.prog X.w X.K X.mg X.base CX k f fd ps sp) (hr:Room k X.A) (hb:Binds X.K fd ps ds) (hd:Vals dvs ds) (hx:Passes CX X E)
  (I:Inv X pins σ H s) (r:Vals vs us) (h:sp (vs++dvs) H Q E):wpAny (model X.prog X.w) X.A (call (.ref f) us) (EP X pins σ Q) X.xe s:=by
 have r2:Vals (vs++dvs) (us++ds):=r.append hd;have hl:(us++ds).length=ps.length:=by rw[<-r2.length];exact F.len _ _ _ _ h
 refine wpAny_call (codeAny_mono (F.run X.A X.stack s H ⟨us,[]⟩ (us++ds) (vs++dvs) Q E hr I.env0 (hb s us I.kIn hl) r2 h) λ r s' hq=>?_);cases r with
 |error e=>exact hx pins σ H s e s' I hq
 | ok fl=>
  cases fl with
  |ret u=>exact I.after hq
  |next=>exact False.elim hq
  |brk=>exact False.elim hq
  |cont=>exact False.elim hq
theorem pe_call (F:FnOk X.prog X.w X.K X.mg X.base CX k f fd ps sp) (hr:Room k X.A) (hg:Gl X x) (hm:X.mg x=some (.ref f)) (hk:PySem.W.keepIn X.K (.ref f)=true) (hb:Binds X.K fd ps ds) (hd:Vals dvs ds) (hx:Passes CX X E)
  (ha:PA X (e::es) t) (hdb:autoParam ((x ==("__debug__" :Str))=false) cD._auto_1) (he:autoParam (starEach (e::es) X.env=(false,eval e X.env)::starEach es X.env) aN._auto_1) (hpl:autoParam ((backTo pos (starEach es X.env)).any (·.1)=false) aN._auto_1):
  PE X (.Call (.Name x p) (e::es) [] pos) (tCall sp dvs E t):=by
 intro pins s σ H Q I h;refine wpAny_Call_Name_kw (ld_glob I hg hm ?_ hdb);refine PySem.W.callWith_K (h₀:=X.base) I.ok.mod.kin hk (thn (ha pos pins s σ H _ I h) λ us s1 ⟨vs,H1,I1,r,q⟩=>⟨I1.kIn,?_⟩) he hpl;exact run_fn F hr hb hd hx I1 r q
end
noncomputable def PK (X:Cx) (kws:List Keyword) (t:TA):Prop:=
 ∀(pos:Pos) (pins:List (Addr×Obj)) (s:Shared) (σ:St) (H:Hp) (Q:List V->Hp->Prop),Inv X pins σ H s->t σ H Q->wpAny (model X.prog X.w) X.A (evalAll ((backToKw pos (keywordEach kws X.env)).map (·.2))) (AP X pins σ Q) X.xe s
section
variable {X:Cx} {CX:CXT} {k:Nat} {f C:Addr} {fd:FuncData} {ps ks:List Str} {sp:Sp} {E:XK} {x m:Str} {p pos apos kpos:Pos} {e o:Expr} {es:List Expr} {kws:List Keyword} {te ta:TE} {t tk:TA} {nm:Option Str}
theorem pk_nil:PK X [] tNil:=λ _u _u _u _u H Q I h=>wpAny_evalAll_nil ⟨[],H,I,.nil,h⟩
theorem pk_cons (ha:PE X e te) (hr:PK X kws t):PK X (⟨nm,e,kpos⟩::kws) (tCons te t):=by
 intro pos pins s σ H Q I h;show wpAny _ _ (evalAll ((do let v <-eval e X.env;standAt pos;pure v)::(backToKw pos (keywordEach kws X.env)).map (·.2))) _ _ s;refine wpAny_evalAll_cons (wpAny_bind (thn (ha pins s σ H _ I h) λ u s1 ⟨x,H1,I1,r1,q1⟩=>wpAny_bind (wpAny_standAt (wpAny_pure ?_))));refine thn (hr pos pins s1 σ H1 _ I1 q1) λ us s2 bh=>?_;obtain⟨xs,H2,I2,r2,q2⟩:=bh;exact⟨x::xs,H2,I2,.cons r1 r2,q2⟩
variable {g:List Value->List Value->List Value} {gV:List V->List V->List V}
end
structure FnScope (N P:List Str) (sc:Scope):Prop where
 kind:sc.kind= .function
 co:sc.isCoroutine=false
 gen:sc.isGenerator=false
 nd:N.Nodup
 pre:N.take P.length=P
 par:∀x∈P,sc.names.lookup x=some .local\/sc.names.lookup x=some .cell
 nofree:∀y∈sc.names,y.2≠.free
theorem bindL_out {kindOf:Str->Option NameKind} {x:Str}:∀{binds:List (Str×Value)} {m:Str->Option Value},(∀v,(x,v)∉binds)->bindL kindOf binds m x=m x
 |[],_,_=>rfl
 | (n,v)::r,m,h=>by
  unfold bindL;rw[bindL_out λ w hw=>h w (z2f _ hw)];split
  ·have:x≠n:=by rintro rfl;exact h v List.mem_cons_self
   simp[this]
  ·rfl
theorem bindC_out {kindOf:Str->Option NameKind} {x:Str}:∀{binds:List (Str×Value)} {m:Str->Option Value},(∀v,(x,v)∉binds)->bindC kindOf binds m x=m x
 |[],_,_=>rfl
 | (n,v)::r,m,h=>by
  unfold bindC;rw[bindC_out λ w hw=>h w (z2f _ hw)];split
  ·rfl
  ·have:x≠n:=by rintro rfl;exact h v List.mem_cons_self
   simp[this]
theorem bindL_get {kindOf:Str->Option NameKind} {x:Str} {v:Value}:∀{P:List Str} {vs:List Value} {i:Nat} {m:Str->Option Value},P.Nodup->P[i]?=some x->vs[i]?=some v->kindOf x=some .local->
  bindL kindOf (P.zip vs) m x=some v
 |[],_,_,_,_,h,_,_=>by simp at h
 |_::_,[],_,_,_,_,h,_=>by simp at h
 | p::P,w::vs,0,m,nd,h1,h2,hk=>by
  simp at h1 h2;subst h1;subst h2;show bindL kindOf ((p,w)::P.zip vs) m p=_;unfold bindL;rw[bindL_out λ v hv=>(List.nodup_cons.mp nd).1 (List.of_mem_zip hv).1,if_pos hk];simp
 | p::P,w::vs,i+1,m,nd,h1,h2,hk=>by
  show bindL kindOf ((p,w)::P.zip vs) m x=_;unfold bindL;exact bindL_get (i:=i) (List.nodup_cons.mp nd).2 (by simpa using h1) (by simpa using h2) hk
theorem bindC_get {kindOf:Str->Option NameKind} {x:Str} {v:Value}:∀{P:List Str} {vs:List Value} {i:Nat} {m:Str->Option Value},P.Nodup->P[i]?=some x->vs[i]?=some v->kindOf x≠some .local->
  bindC kindOf (P.zip vs) m x=some v
 |[],_,_,_,_,h,_,_=>by simp at h
 |_::_,[],_,_,_,_,h,_=>by simp at h
 | p::P,w::vs,0,m,nd,h1,h2,hk=>by
  simp at h1 h2;subst h1;subst h2;show bindC kindOf ((p,w)::P.zip vs) m p=_;unfold bindC;rw[bindC_out λ v hv=>(List.nodup_cons.mp nd).1 (List.of_mem_zip hv).1,if_neg hk];simp
 | p::P,w::vs,i+1,m,nd,h1,h2,hk=>by
  show bindC kindOf ((p,w)::P.zip vs) m x=_;unfold bindC;exact bindC_get (i:=i) (List.nodup_cons.mp nd).2 (by simpa using h1) (by simpa using h2) hk
noncomputable def start (N:List Str) (vs:List V):St:=vs.map some++List.replicate (N.length - vs.length) none
noncomputable def cxOf (CX:CXT) (P:Program) (w:World) (K:PySem.W.Frag) (mg:Str->Option Value) (base:Heap) (N:List Str) (qual:Str) (scope:Scope) (f:Addr) (cd:Value) (A:Around) (outer:List Env) (s:Shared) (H:Hp) (E:XK):Cx where
 prog:=P
 w:=w
 K:=K
 mg:=mg
 base:=base
 A:=A.deeper (envOfC qual scope s.heap.objs.size f cd)
 N:=N
 s₀:=s
 H₀:=H
 env:=envOfC qual scope s.heap.objs.size f cd
 outer:=outer
 stack:=envOfC qual scope s.heap.objs.size f cd::outer
 ex:=[]
 calm:=true
 fn:=λ _u=>true
 pn:=[]
 xe:=λ e s'=>wpAny (model P w) (A.deeper (envOfC qual scope s.heap.objs.size f cd)) (leaving (envOfC qual scope s.heap.objs.size f cd) e) (λ _u s''=>CX outer H s E e s'') (λ e' s''=>CX outer H s E e' s'') s'
theorem cell_has {sc:Scope} {n:Nat} {x:Str} (h:sc.names.lookup x=some .cell):∃c,(cellsFrom n sc.names []).lookup x=some c:=by
 have q:=PySem.W.cellsFrom_some sc.names n [] (.inl h);exact Option.isSome_iff_exists.mp q
theorem inv_start {CX:CXT} {P:Program} {w:World} {K:PySem.W.Frag} {mg:Str->Option Value} {base:Heap} {N ps:List Str} {qual:Str} {scope:Scope} {f:Addr} {cd:Value} {A:Around} {outer:List Env} {s s1:Shared} {H:Hp} {E:XK} {us:List Value} {vs:List V}
  (S:FnScope N ps scope) (hd:A.handled=none) (e0:Env0 P w K mg base A outer s H) (hl:vs.length=ps.length) (r:Vals vs us)
  (x:InCallC s s.heap.objs.size (bindL (envOfC qual scope s.heap.objs.size f cd).kindOf (ps.zip us) λ _u=>none) (cellsFrom (s.heap.objs.size+1) scope.names []) (bindC (envOfC qual scope s.heap.objs.size f cd).kindOf (ps.zip us) λ _u=>none) s1):
  Inv (cxOf CX P w K mg base N qual scope f cd A outer s H E) [] (start N vs) H s1:=by
 have hpl:ps.length<=N.length:=by have:=congrArg List.length S.pre;rw[List.length_take] at this;exact aiw this
 obtain⟨h1,tk,rfl,hk⟩:=x.done;have noA:∀b:Addr,b∉(cxOf CX P w K mg base N qual scope f cd A outer s H E).ex:=λ b z=>absurd (show b∈([]:List Addr) from z) (by simp);refine⟨⟨e0.mod,S.kind,rfl,rfl,z0g _,λ y z c h1 h2=>?_,λ y hy=>?_,λ y c _u h=>?_,λ _u=>hd,Around.frames_deeper e0.frames,.inr ⟨rfl,rfl⟩,λ b z=>absurd z (noA b),e0.bs,e0.bsz,λ b _u _u=>noA b,λ b z=>absurd z (noA b),e0.funs,e0.frf⟩,
  rfl,e0.bare,Un.kept hk,⟨_,x.toInCall.ns,λ i y v h1 h2 h3=>?_⟩,λ y c h=>⟨_,x.cell y c h⟩,e0.hok.fresh (z0g _),λ y c h=>?_,λ p hp=>absurd (show p∈([]:List (Addr×Obj)) from hp) (by simp),e0.hok.kept hk,?_⟩
 ·exact name_of_addr x.apart (PySem.mem_of_lookup h1) (PySem.mem_of_lookup h2)
 ·have hy:scope.names.lookup y=some .cell\/scope.names.lookup y=some .free:=hy;rcases hy with hy |hy
  ·exact cell_has hy
  ·exact absurd rfl (S.nofree _ (PySem.mem_of_lookup hy))
 ·exact z0e (x.above y c (PySem.mem_of_lookup h))
 ·have hi:i < vs.length:=by
   unfold start at h2;by_cases hi:i < vs.length
   ·exact hi
   ·rw[List.getElem?_append_right (by simpa using hi)] at h2;rw[List.getElem?_replicate] at h2;split at h2 <;> cases h2
  have ha:vs[i]?=some v:=by
   unfold start at h2;rw[List.getElem?_append_left (by simpa using hi),z2b] at h2;cases e:vs[i]? with
   |none=>rw[e] at h2;cases h2
   |some a=>rw[e] at h2;cases h2;rfl
  obtain⟨u,hu,rv⟩:=r.get ha;have hp:ps[i]?=some y:=by
   rw[<-S.pre,List.getElem?_take_of_lt (by exact acX hi hl)];exact h1
  have ndP:ps.Nodup:=by rw[<-S.pre];exact S.nd.sublist (List.take_sublist _ _)
  refine⟨u,rv,?_⟩;rcases S.par y (List.mem_of_getElem? hp) with k |k
  ·exact .inl ⟨k,bindL_get ndP hp hu k⟩
  ·obtain⟨c,e⟩:=cell_has (n:=s.heap.objs.size+1) k;refine .inr ⟨.inl k,c,e,?_⟩;have q:=x.cell y c e;rw[bindC_get ndP hp hu (by show scope.names.lookup y≠_;rw[k];decide)] at q;exact q
 ·exact e0.hok.fresh (z0e (x.above y c (PySem.mem_of_lookup h)))
 ·unfold start;show _=N.length;rw[z1d,z1g,List.length_replicate];exact aix hl hpl
theorem fn_of {CX:CXT} {P:Program} {w:World} {K:PySem.W.Frag} {mg:Str->Option Value} {base:Heap} {k:Nat} {f:Addr} {name qual:Str} {params:Arguments} {body:List Stmt} {scope:Scope} {dV kV doc pm cdv ct oc:Value} {an od:Option Addr}
  {osl:Array (Option Value)} {N ps:List Str} {sp:Sp} (lk:K.lookup f=some ⟨oc,od,.func (PySem.W.fnOf name qual params body scope dV kV doc pm an cdv ct),osl⟩) (hcd:PySem.W.codeIn K cdv qual=true) (S:FnScope N ps scope)
  (len:∀vs H Q E,sp vs H Q E->vs.length=ps.length)
  (hbody:∀(A:Around) (outer:List Env) (s:Shared) (H:Hp) (vs:List V) (Q:VK) (E:XK),Room k (A.deeper (envOfC qual scope s.heap.objs.size f cdv))->sp vs H Q E->
   ∃t,PSs (cxOf CX P w K mg base N qual scope f cdv A outer s H E) body t/\t {nx:=λ _u H'=>Q .non H',rt:=Q} (start N vs) H):
  FnOk P w K mg base CX (k+1) f (PySem.W.fnOf name qual params body scope dV kV doc pm an cdv ct) ps sp:=by
 refine⟨len,λ A outer s H args us vs Q E hr e0 hb r hsp=>?_⟩;have hl:=len _ _ _ _ hsp;have KX:K.In s.heap:=e0.mod.kin.keeps λ b o e=>(e0.bs b o e).1;have lim:s.heap.NoLimit:=e0.mod.nolimit.keeps λ b o e=>(e0.bs b o e).1;have hkind:∀y∈ps.zip us,scope.names.lookup y.1=some .local\/(scope.names.lookup y.1=some .cell/\((cellsFrom (s.heap.objs.size+1) scope.names []).lookup y.1).isSome=true):=λ ⟨n,v⟩ hy=>by
  rcases S.par n (List.of_mem_zip hy).1 with q |q
  ·exact .inl q
  ·exact .inr ⟨q,PySem.W.cellsFrom_some _ _ _ (.inl q)⟩
 refine codeAny_call_function hr.depth (KX _ _ lk) rfl S.co S.gen rfl (PySem.W.codeRec_of KX hcd) (hb _ _ _ _ ?_);refine wpAny_newFunctionEnv_cells S.kind hkind λ env he s1 x=>?_;subst he;refine⟨lim.keeps x.toInCall.keep,codeAny_func ?_⟩;obtain⟨t,ht,hq⟩:=hbody A outer s H vs Q E (hr.deeper _) hsp;have I:Inv (cxOf CX P w K mg base N qual scope f cdv A outer s H E) [] (start N vs) H s1:=inv_start S hr.hd e0 hl r x;refine wpAny_mono (ht [] s1 (start N vs) H _ I hq) (λ fl s' hs=>?_) λ e s' hs=>hs;have fin:∀{σ':St} {H':Hp} {v:V} {u:Value},Inv (cxOf CX P w K mg base N qual scope f cdv A outer s H E) [] σ' H' s'->RelV v u->Q v H'->CE outer P w H s Q u s':=
  λ {σ' H' v u} J rv q=>⟨v,H',J.os,J.bare,J.base,J.hok,rv,q⟩
 cases fl with
 | ret u=>
  obtain⟨v,σ',H',J,rv,q⟩:=hs;exact fin J rv q
 | next=>
  obtain⟨σ',H',J,q⟩:=hs;exact fin (v:=V.non) (u:=Value.none) J rfl q
 | brk=>
  obtain⟨_,_,_,q⟩:=hs;exact False.elim q
 | cont=>
  obtain⟨_,_,_,q⟩:=hs;exact False.elim q
section
variable {X:Cx} {x:Str} {p pos:Pos} {e:Expr} {es:List Expr} {t:TA} {id T:String} {r:List V->Hp->VK->Prop}
noncomputable def tCB (r:List V->Hp->VK->Prop) (t:TA):TE:=λ σ H Q=>t σ H λ vs H1=>r vs H1 Q
theorem pe_callB (hc:CallR X (.builtin id) r) (hg:Gl X x) (hm:X.mg x=none) (hv:bootBuiltins x=some (.builtin id)) (ha:PA X (e::es) t) (hn:autoParam (x≠"__name__") cD._auto_1) (hdb:autoParam ((x ==("__debug__" :Str))=false) cD._auto_1)
  (he:autoParam (starEach (e::es) X.env=(false,eval e X.env)::starEach es X.env) aN._auto_1) (hpl:autoParam ((backTo pos (starEach es X.env)).any (·.1)=false) aN._auto_1):PE X (.Call (.Name x p) (e::es) [] pos) (tCB r t):=by
 intro pins s σ H Q I h;refine wpAny_Call_Name_kw (ld_blt I hg hm hv ?_ hn hdb);exact PyProof.Rows.callWith_builtin1 (thn (ha pos pins s σ H _ I h) λ us s1 ⟨vs,H1,I1,r1,q1⟩=>hc pins s1 σ H1 vs us Q I1 r1 q1) he hpl
theorem pe_callTy (hc:CallR X (.type T) r) (hg:Gl X x) (hm:X.mg x=none) (hv:bootBuiltins x=some (.type T)) (ha:PA X (e::es) t) (hn:autoParam (x≠"__name__") cD._auto_1) (hdb:autoParam ((x ==("__debug__" :Str))=false) cD._auto_1)
  (he:autoParam (starEach (e::es) X.env=(false,eval e X.env)::starEach es X.env) aN._auto_1) (hpl:autoParam ((backTo pos (starEach es X.env)).any (·.1)=false) aN._auto_1):PE X (.Call (.Name x p) (e::es) [] pos) (tCB r t):=by
 intro pins s σ H Q I h;refine wpAny_Call_Name_kw (ld_blt I hg hm hv ?_ hn hdb);exact PyProof.Rows.callWith_type1 (thn (ha pos pins s σ H _ I h) λ us s1 ⟨vs,H1,I1,r1,q1⟩=>hc pins s1 σ H1 vs us Q I1 r1 q1) he hpl
end
end L2
namespace HT
open PySem PyProof.Rows
section
open PySem.SeqAt
open PySem.AutoSeq1 (wpAny_loadPart')
open PySem.MeetsSeq PySem.MeetsSeq2 PySem.MeetsSeq3
end
section
variable {prog:Program} {w:World} {A:Around} {E:Value->Shared->Prop} {s:Shared}
theorem cat_tup {t b:Addr} {vs ws:List Value} {Q:Value->Shared->Prop} (ht:IsTup s.heap t vs.toArray) (hb:IsTup s.heap b ws.toArray) (hv:vs≠[])
  (h1:ws=[]->Q (.ref t) s) (h2:ws≠[]->Q (.ref s.heap.objs.size) {s with heap:=s.heap.push {cls:= .type "tuple",data:= .seq (vs++ws).toArray}})
  (hsz:vs.length+ws.length<=sizeLine):wpAny (model prog w) A (binaryOp .Add (.ref t) (.ref b)) Q E s:=by
 obtain⟨⟨cls,dd,data,sl⟩,ho,hc,n,hd⟩:=id ht;obtain⟨⟨cls2,dd2,data2,sl2⟩,ho2,hc2,n2,hd2⟩:=id hb;simp only at hc hd hc2 hd2;subst hc hd hc2 hd2;have e:vs.toArray++ws.toArray=(vs++ws).toArray:=by simp
 by_cases hw:ws=[]
 ·exact concat_meets ⟨_,ho,rfl⟩ ⟨_,ho2,rfl⟩ noFill_tuple_add seq_tuple_add PySem.F.slot_tuple_add PySem.F.entry_tuple_add (PySem.F.args_tuple_add_2 _ _)
   (tuple_addW1 t b vs.toArray ws.toArray n n2 dd dd2 sl sl2 (by simpa using hv) (by simp[hw])) ⟨ho,ho2,h1 hw⟩
 ·refine concat_meets ⟨_,ho,rfl⟩ ⟨_,ho2,rfl⟩ noFill_tuple_add seq_tuple_add PySem.F.slot_tuple_add PySem.F.entry_tuple_add (PySem.F.args_tuple_add_2 _ _)
   (tuple_addW2 t b vs.toArray ws.toArray n n2 dd dd2 sl sl2 (by simpa using hv) (by simpa using hw) (by rw[z1c,z1c];exact hsz)) ⟨ho,ho2,?_⟩
  rw[e];exact h2 hw
noncomputable def sIx (n d:Nat):Option Int->Nat
 |none=>d
 |some v=>if v < 0 then (v+(n:Int)).toNat else min v.toNat n
theorem sIx_le (n d:Nat) (hd:d<=n) (o:Option Int):sIx n d o<=n:=by
 cases o with
 |none=>exact hd
 | some v=>
  show (if v < 0 then (v+(n:Int)).toNat else min v.toNat n)<=n;by_cases hv:v < 0
  ·rw[if_pos hv];exact aiy hv
  ·rw[if_neg hv];exact Nat.min_le_right _ _
theorem aaN (a b:Nat):((min a b:Nat):Int)=min (a:Int) (b:Int):=by
 rcases Nat.le_total a b with h |h
 ·rw[Nat.min_eq_left h,Int.min_eq_left (Int.ofNat_le.mpr h)]
 ·rw[Nat.min_eq_right h,Int.min_eq_right (Int.ofNat_le.mpr h)]
theorem agm {i:Int} (n:Nat) (h:i < 0):max 0 (min (i+(n:Int)) (n:Int))=(((i+(n:Int)).toNat:Nat):Int):=by
 rw[Int.min_eq_left (by exact aiz h),Int.max_comm];exact (Int.ofNat_toNat _).symm
theorem agn (k n:Nat):max 0 (min (k:Int) (n:Int))=((min (k:Int).toNat n:Nat):Int):=by
 rw[Int.max_eq_right (Int.le_min.mpr ⟨z0a _,z0a _⟩)];exact (aaN k n).symm
theorem clip_eq (v:Int) (n d:Nat):(if v < 0 then max (v+(n:Int)) 0 else min v (n:Int))=((sIx n d (some v):Nat):Int):=by
 show (if v < 0 then max (v+(n:Int)) 0 else min v (n:Int))=(((if v < 0 then (v+(n:Int)).toNat else min v.toNat n):Nat):Int);by_cases hv:v < 0
 ·simp only[if_pos hv];exact (Int.ofNat_toNat _).symm
 ·simp only[if_neg hv];obtain⟨k,rfl⟩:=Int.eq_ofNat_of_zero_le (Int.not_lt.mp hv);exact (aaN k n).symm
theorem adjust_gen (lo hi:Option Int) (n:Nat):Builtin.Slice.sliceAdjust lo hi 1 (n:Int)=(((sIx n 0 lo:Nat):Int),((sIx n n hi:Nat):Int)):=by
 have h1:¬((1:Int) < 0):=by exact aiA
 unfold Builtin.Slice.sliceAdjust;simp only[h1,if_false];refine Prod.ext ?_ ?_
 ·cases lo with
  |none=>rfl
  |some v=>exact clip_eq v n 0
 ·cases hi with
  |none=>rfl
  |some v=>exact clip_eq v n n
theorem places_gen (i j:Nat):Builtin.Slice.slicePlaces (i:Int) (j:Int) 1=j - i:=by
 unfold Builtin.Slice.slicePlaces;have h1:(1:Int) > 0:=by exact z0a _
 simp only[h1,if_true,Int.ediv_one];split <;> (first |exact aiB |exact aiC (by assumption))
theorem slicePart_ {v:Value} {o:Option Int} {Q:Option Int->Shared->Prop} (p:IsPart v o) (h:Q o s):wpAny (model prog w) A (Builtin.Slice.slicePartIndex v) Q E s:=by
 cases p with
 |none=>exact slicePart_none h
 |int i t=>exact slicePart_int h
theorem sliceApplied_gen {sl:Addr} {vl vu:Value} {lo hi:Option Int} {n:Nat} {Q:Int×Int×Nat->Shared->Prop} (hs:s.heap.IsSliceOf sl vl vu .none) (pl:IsPart vl lo) (pu:IsPart vu hi)
  (h:Q (((sIx n 0 lo:Nat):Int),1,sIx n n hi - sIx n 0 lo) s):wpAny (model prog w) A (Builtin.Slice.sliceApplied (.ref sl) (pure (n:Int))) Q E s:=by
 obtain⟨os,hos,hcs,hds⟩:=id hs;unfold Builtin.Slice.sliceApplied Builtin.Slice.sliceFields;refine wpAny_bind (wpAny_bind (wpAny_field hos hds (x:=vl) rfl (wpAny_bind (wpAny_field hos hds (x:=vu) rfl (wpAny_bind (wpAny_field hos hds (x:= .none) rfl (wpAny_pure ?_)))))));refine wpAny_bind (slicePart_none ?_);show wpAny _ _ (if ((1:Int) ==0)=true then _ else _) _ _ s;rw[if_neg (by decide)];refine wpAny_bind (slicePart_ pl (wpAny_bind (slicePart_ pu (wpAny_bind (wpAny_pure ?_)))));show wpAny _ _ (match Builtin.Slice.sliceAdjust lo hi 1 (n:Int) with |(lo,hi)=>pure (lo,(1:Int),Builtin.Slice.slicePlaces lo hi 1)) _ _ s;rw[adjust_gen lo hi n];show wpAny _ _ (pure (((sIx n 0 lo:Nat):Int),(1:Int),Builtin.Slice.slicePlaces ((sIx n 0 lo:Nat):Int) ((sIx n n hi:Nat):Int) 1)) _ _ s;rw[places_gen];exact wpAny_pure h
theorem pick_gen (xs:Array Value) (i k:Nat):((List.range k).filterMap λ (m:Nat)=>xs[((i:Int)+(m:Int)*1).toNat]?).toArray=((xs.toList.drop i).take k).toArray:=by
 have e:(λ (m:Nat)=>xs[((i:Int)+(m:Int)*1).toNat]?)=λ m=>xs[i+m]?:=by
  funext m;have:((i:Int)+(m:Int)*1).toNat=i+m:=by exact aiD
  rw[this]
 rw[e];have:=pick_run xs i k;rw[List.filterMap_map] at this;have e2:((λ x=>xs[x]?) ∘ λ x=>i+x)=λ m=>xs[i+m]?:=rfl;rw[e2] at this;rw[this]
theorem getItem_tuple_cut {t sl:Addr} {items:Array Value} {vl vu:Value} {lo hi:Option Int} {Q:Value->Shared->Prop} (ht:IsTup s.heap t items) (hs:s.heap.IsSliceOf sl vl vu .none) (pl:IsPart vl lo) (pu:IsPart vu hi)
  (hw:¬(sIx items.size 0 lo=0/\sIx items.size items.size hi=items.size))
  (h:Q (.ref s.heap.objs.size) {s with heap:=s.heap.push {cls:= .type "tuple",data:= .seq ((items.toList.drop (sIx items.size 0 lo)).take (sIx items.size items.size hi - sIx items.size 0 lo)).toArray}})
  (hsz:items.size<=sizeLine):wpAny (model prog w) A (getItem (.ref t) (.ref sl)) Q E s:=by
 have htake:sizeOk (.seq ((items.toList.drop (sIx items.size 0 lo)).take (sIx items.size items.size hi - sIx items.size 0 lo)).toArray):=by
  show ((items.toList.drop (sIx items.size 0 lo)).take (sIx items.size items.size hi - sIx items.size 0 lo)).toArray.size<=sizeLine;rw[z1c,List.length_take,List.length_drop,Array.length_toList];exact aiE hsz
 have hj:sIx items.size items.size hi<=items.size:=sIx_le _ _ (z0g _) hi;obtain⟨os,hos,hcs,hds⟩:=id hs;have hTs:s.TypeIs (.ref sl) "slice" :=⟨os,hos,hcs⟩;unfold getItem
 try with_reducible refine wpAny_holding ?_
 first |refine wpAny_bind (wpAny_pure ?_) |skip
 refine wpAny_bind (wpAny_sequenceKey ht.typeIs (by decide) ?_);refine wpAny_bind (wpAny_callSpecial?_slot (name:=Str.ofString "__getitem__") ht.typeIs PyProof.Rows.slot_tuple_getitem
  (wpAny_call_entry PyProof.Rows.slot_tuple_getitem ht.typeIs entry_tuple_getitem ?_ (args_tuple_getitem _ _)))
 show wpAny _ _ (Builtin.Tuple.tupleItemsOf (.ref t) >>=_) _ _ s;refine wpAny_bind (tupleItemsOf_ ht ?_);refine wpAny_bind (wpAny_typeOf hTs ?_);rw[if_pos (by decide)];refine wpAny_bind (sliceApplied_gen hs pl pu ?_);have hno:¬((((sIx items.size 0 lo:Nat):Int) ==0 && (1:Int) ==1 && (sIx items.size items.size hi - sIx items.size 0 lo) ==items.size)=true):=by
  intro q;rw[Bool.and_eq_true,Bool.and_eq_true] at q;have q1:((sIx items.size 0 lo:Nat):Int)=0:=eq_of_beq q.1.1;have q2:sIx items.size items.size hi - sIx items.size 0 lo=items.size:=eq_of_beq q.2;exact hw ⟨by exact aiG q1,by exact aiF q2 hj⟩
 show wpAny _ _ (if (((sIx items.size 0 lo:Nat):Int) ==0 && (1:Int) ==1 && (sIx items.size items.size hi - sIx items.size 0 lo) ==items.size)=true then _ else _) _ _ s;rw[if_neg hno,pick_gen]
 first
  |exact wpAny_bind (m:=Builtin.Tuple.tupleExact _) (wpAny_newObj_type (wpAny_pure ⟨_,rfl,wpAny_pure h⟩) htake)
  |exact wpAny_bind (m:=Builtin.Tuple.tupleExact _) (wpAny_newObj_type (wpAny_bind (wpAny_pure (wpAny_pure ⟨_,rfl,wpAny_pure h⟩))) htake)
  |exact wpAny_bind (wpAny_bind (m:=Builtin.Tuple.tupleExact _) (wpAny_newObj_type (wpAny_pure (wpAny_pure ⟨_,rfl,wpAny_pure h⟩)) htake))
  |exact wpAny_bind (wpAny_bind (m:=Builtin.Tuple.tupleExact _) (wpAny_newObj_type (wpAny_pure ⟨_,rfl,wpAny_pure h⟩) htake))
end
end HT
namespace L2
open PySem PySem.Spec PyProof.Rows
noncomputable abbrev TO:=St->Hp->(Option Int->Hp->Prop)->Prop
noncomputable def PO (X:Cx) (e:Option Expr) (t:TO):Prop:=
 ∀ (pins:List (Addr×Obj)) (s:Shared) (σ:St) (H:Hp) (Q:Option Int->Hp->Prop),Inv X pins σ H s->t σ H Q->
  wpAny (model X.prog X.w) X.A (evalPart e X.env) (λ u s'=>∃o H',Inv X pins σ H' s'/\IsPart u o/\Q o H') X.xe s
noncomputable def tNoPart:TO:=λ _u H Q=>Q none H
noncomputable def tPart (t:TE):TO:=λ σ H Q=>t σ H λ x H1=>∃i,x= .int i/\Q (some i) H1
theorem intsAre_of {ns:List Int}:∀{us:List Value},Vals (ns.map V.int) us->IntsAre us ns:=by
 induction ns with
 |nil=>intro us r;rw[List.map_nil] at r;cases r;exact .nil
 | cons n ns ih=>
  intro us r;rw[z1h] at r;cases r with
  | cons r1 r2=>
   obtain⟨t,e⟩:=r1;subst e;exact .cons n t (ih r2)
section
variable {X:Cx} {e:Expr} {te:TE} {lo hi:Option Expr} {tl th:TO} {pos p2:Pos}
theorem po_none:PO X none tNoPart:=by
 intro pins s σ H Q I h;rw[evalPart_none];exact wpAny_pure ⟨none,H,I,.none,h⟩
theorem po_some (h:PE X e te):PO X (some e) (tPart te):=by
 intro pins s σ H Q I hw;rw[evalPart_some];refine thn (h pins s σ H _ I hw) λ u s1 bh=>?_;obtain⟨x,H1,I1,r1,q1⟩:=bh;obtain⟨i,rfl,q⟩:=q1;obtain⟨t,rfl⟩:=r1;exact⟨some i,H1,I1,.int i t,q⟩
noncomputable def SlR (X:Cx) (r:V->Option Int->Option Int->Hp->VK->Prop):Prop:=
 ∀ (pins:List (Addr×Obj)) (s:Shared) (σ:St) (H:Hp) (x:V) (v vl vu:Value) (lo hi:Option Int) (sl:Addr) (Q:VK),Inv X pins σ H s->RelV x v->s.heap.IsSliceOf sl vl vu .none->IsPart vl lo->IsPart vu hi->r x lo hi H Q->
  ∃T id,typeLookup (.type T) "__getitem__" =pure (some (.builtin id))/\s.TypeIs v T/\wpAny (model X.prog X.w) X.A (getItem v (.ref sl)) (EP X pins σ Q) X.xe s
theorem SlR.or {r r':V->Option Int->Option Int->Hp->VK->Prop} (h:SlR X r) (h':SlR X r'):SlR X (λ x lo hi H Q=>r x lo hi H Q\/r' x lo hi H Q):=by
 intro pins s σ H x v vl vu lo hi sl Q I rx hs pl pu q;rcases q with q |q
 ·exact h pins s σ H x v vl vu lo hi sl Q I rx hs pl pu q
 ·exact h' pins s σ H x v vl vu lo hi sl Q I rx hs pl pu q
noncomputable def tSl (r:V->Option Int->Option Int->Hp->VK->Prop) (te:TE) (tl th:TO):TE:=λ σ H Q=>te σ H λ x H1=>tl σ H1 λ l H2=>th σ H2 λ u H3=>r x l u H3 Q
theorem pe_slice {r:V->Option Int->Option Int->Hp->VK->Prop} (hr:SlR X r) (he:PE X e te) (hl:PO X lo tl) (hu:PO X hi th):PE X (.Subscript e (.Slice lo hi none p2) pos) (tSl r te tl th):=by
 intro pins s σ H Q I h;refine Subscript_ (thn (he pins s σ H _ I h) λ v s1 bh=>?_);obtain⟨x,H1,I1,r1,q1⟩:=bh;refine wpAny_Slice (thn (hl pins s1 σ H1 _ I1 q1) λ vl s2 ⟨l,H2,I2,pl,q2⟩=>thn (hu pins s2 σ H2 _ I2 q2) λ vu s3 bh=>?_);obtain⟨u,H3,I3,pu,q3⟩:=bh;rw[evalPart_none];refine wpAny_pure ?_;have I4:Inv X pins σ H3 {s3 with heap:=s3.heap.push {cls:= .type "slice",data:= .fields #[vl,vu,.none]}}:=I3.kept (t':=s3.toks) λ b ob q=>z1a _ q;obtain⟨T,id,hT,ht,hg⟩:=hr pins {s3 with heap:=s3.heap.push {cls:= .type "slice",data:= .fields #[vl,vu,.none]}} σ H3 x v vl vu l u s3.heap.objs.size Q I4 r1 (Heap.IsSliceOf.new ..) pl pu q3;show wpAny (model X.prog X.w) X.A (subscriptTail e (.Slice lo hi none p2) v (.ref s3.heap.objs.size)) (EP X pins σ Q) X.xe {s3 with heap:=s3.heap.push {cls:= .type "slice",data:= .fields #[vl,vu,.none]}};exact tail_any (ops:=[.ref s3.heap.objs.size,v]) ht hT hg (by with_unfolding_all rfl)
noncomputable def cutV (xs:List V) (lo hi:Option Int):List V:=(xs.drop (HT.sIx xs.length 0 lo)).take (HT.sIx xs.length xs.length hi - HT.sIx xs.length 0 lo)
theorem cutV_length (xs:List V) (lo hi:Option Int):(cutV xs lo hi).length<=xs.length:=by
 unfold cutV;rw[List.length_take,List.length_drop];exact aiH
noncomputable def rSlT (K:PySem.W.Frag):V->Option Int->Option Int->Hp->VK->Prop:=λ x lo hi H Q=>∃a xs,x= .ref a/\SqT K H a xs/\
 ¬(HT.sIx xs.length 0 lo=0/\HT.sIx xs.length xs.length hi=xs.length)/\∀p,H p=none->Q (.ref p) (upd H p (.tup (cutV xs lo hi)))
theorem sl_tup:SlR X (rSlT X.K):=by
 intro pins s σ H x v vl vu lo hi sl Q I rx hs pl pu h;obtain⟨a,xs,rfl,hx,hw,q⟩:=h;cases rx;obtain⟨its,r,ht,hz⟩:=I.tuple hx;have hlen:its.toArray.size=xs.length:=by rw[z1c];exact r.length.symm
 refine⟨"tuple",_,PyProof.Rows.slot_tuple_getitem.lookup,ht.typeIs,?_⟩;refine HT.getItem_tuple_cut ht hs pl pu (by rw[hlen];exact hw) ?_ (by rw[hlen];exact hz);rw[hlen];refine⟨.ref s.heap.objs.size,_,I.laid (t':=s.toks) (o:= .tup (cutV xs lo hi)) (λ b ob q=>z1a _ q) (z0g _) ?_,rfl,q _ (I.hok.fresh (z0g _))⟩;exact⟨z0b (cutV_length xs lo hi) hz,_,(r.drop (HT.sIx xs.length 0 lo)).take (HT.sIx xs.length xs.length hi - HT.sIx xs.length 0 lo),IsTup.new _ _⟩
noncomputable def rCatT (K:PySem.W.Frag):R2:=λ x y H Q=>∃a b xs ys,x= .ref a/\y= .ref b/\SqT K H a xs/\SqT K H b ys/\xs≠[]/\xs.length+ys.length<=sizeLine/\
 (ys=[]->Q (.ref a) H)/\(ys≠[]->∀p,H p=none->Q (.ref p) (upd H p (.tup (xs++ys))))
theorem Vals.nil_iff {xs:List V} {us:List Value} (r:Vals xs us):us=[]↔xs=[]:=by
 cases r with
 |nil=>simp
 |cons _ _=>simp
theorem op_catT:OpR X (binaryOp .Add) (rCatT X.K):=by
 intro pins s σ H x y v u Q I rx ry h;obtain⟨a,b,xs,ys,rfl,rfl,ha,hb,hx,hz,q1,q2⟩:=h;cases rx;cases ry;obtain⟨its,r1,p1,_⟩:=I.tuple ha;obtain⟨its2,r2,p2,_⟩:=I.tuple hb;refine HT.cat_tup p1 p2 (λ z=>hx (r1.nil_iff.mp z)) (λ z=>⟨.ref a,H,I,rfl,q1 (r2.nil_iff.mp z)⟩) (λ z=>?_) (by rw[<-r1.length,<-r2.length];exact hz);refine⟨.ref s.heap.objs.size,_,I.laid (t':=s.toks) (o:= .tup (xs++ys)) (λ b ob q=>z1a _ q) (z0g _) ?_,rfl,q2 (λ w=>z (r2.nil_iff.mpr w)) _ (I.hok.fresh (z0g _))⟩;exact⟨by rw[z1d];exact hz,_,r1.append r2,IsTup.new _ _⟩
end
noncomputable def ixN (n:Nat) (i:Int):Option Nat:=if 0<=i then (if i < n then some i.toNat else none) else if -(n:Int)<=i then some (i+n).toNat else none
noncomputable def atI {α:Type} (xs:List α) (i:Int):Option α:=(ixN xs.length i).bind λ j=>xs[j]?
theorem ixN_seq {n:Nat} {i:Int} {j:Nat} (h:ixN n i=some j):seqIndex? i n=some j/\j < n/\-(n:Int)<=i/\i < n:=by
 unfold ixN at h;by_cases h0:0<=i
 ·rw[if_pos h0] at h;by_cases h1:i < n
  ·rw[if_pos h1] at h;have e:i.toNat=j:=Option.some.inj h;exact⟨by rw[seqIndex_of h0 h1,e],by exact aiJ h0 e h1,by exact aiI h0,h1⟩
  ·rw[if_neg h1] at h;cases h
 ·rw[if_neg h0] at h;by_cases h1: -(n:Int)<=i
  ·rw[if_pos h1] at h;have e:(i+n).toNat=j:=Option.some.inj h;exact⟨by rw[seqIndex_neg (by exact Int.not_le.mp h0) h1,e],by exact aiL h1 e h0,h1,by exact aiK h0⟩
  ·rw[if_neg h1] at h;cases h
theorem atI_get {α:Type} {xs:List α} {i:Int} {v:α} (h:atI xs i=some v):∃j,seqIndex? i xs.length=some j/\xs[j]?=some v/\j < xs.length/\-(xs.length:Int)<=i/\i < xs.length:=by
 unfold atI at h;cases e:ixN xs.length i with
 |none=>rw[e] at h;cases h
 | some j=>
  rw[e] at h;obtain⟨h1,h2,h3,h4⟩:=ixN_seq e;exact⟨j,h1,h,h2,h3,h4⟩
noncomputable def PlainIx (b:Expr):Prop:=∀o i,subscripted b false o i=operate [o,i] (getItem o i)
noncomputable def IxR (X:Cx) (r:R2):Prop:=
 ∀ (value slice:Expr) (pins:List (Addr×Obj)) (s:Shared) (σ:St) (H:Hp) (x y:V) (v u:Value) (Q:VK),Inv X pins σ H s->RelV x v->RelV y u->r x y H Q->
  subscripted slice false v u=operate [v,u] (getItem v u)->wpAny (model X.prog X.w) X.A (subscriptTail value slice v u) (EP X pins σ Q) X.xe s
noncomputable def MtR (X:Cx) (id:String) (r:V->List V->Hp->VK->Prop):Prop:=
 ∀ (pins:List (Addr×Obj)) (s:Shared) (σ:St) (H:Hp) (x:V) (xs:List V) (v:Value) (us:List Value) (Q:VK),Inv X pins σ H s->RelV x v->Vals xs us->r x xs H Q->
  wpAny (model X.prog X.w) X.A (call (.builtin id) (v::us)) (EP X pins σ Q) X.xe s
section
variable {X:Cx} {a b:Expr} {ta tb:TE} {pos:Pos}
theorem IxR.or {r r':R2} (h:IxR X r) (h':IxR X r'):IxR X (λ x y H Q=>r x y H Q\/r' x y H Q):=by
 intro value slice pins s σ H x y v u Q I rx ry q hs;rcases q with q |q
 ·exact h value slice pins s σ H x y v u Q I rx ry q hs
 ·exact h' value slice pins s σ H x y v u Q I rx ry q hs
theorem pe_ix {r:R2} (hr:IxR X r) (ha:PE X a ta) (hb:PE X b tb) (hs:PlainIx b):PE X (.Subscript a b pos) (tOp r ta tb):=by
 intro pins s σ H Q I h;exact Subscript_ (binT ha hb I h λ v u s2 x y H2 I2 rx ry q=>hr a b pins s2 σ H2 x y v u Q I2 rx ry q (hs _ _))
noncomputable def rIxL (K:PySem.W.Frag):R2:=λ x y H Q=>∃p xs i v,x= .ref p/\y= .int i/\SqL K H p xs/\atI xs i=some v/\Q v H
noncomputable def rIxT (K:PySem.W.Frag):R2:=λ x y H Q=>∃p xs i v,x= .ref p/\y= .int i/\SqT K H p xs/\atI xs i=some v/\Q v H
noncomputable def rIxS:R2:=λ x y H Q=>∃z i c,x= .str z/\y= .int i/\z.length<=sizeLine/\atI z.cps.toList i=some c/\Q (.str ⟨#[c]⟩) H
theorem ix_list:IxR X (rIxL X.K):=by
 intro value slice pins s σ H x y v u Q I rx ry h hs;obtain⟨p,xs,i,z,rfl,rfl,hq,he,q⟩:=h;cases rx;obtain⟨t,rfl⟩:=ry;obtain⟨its,r,pl,hz⟩:=I.list hq;obtain⟨j,h1,h2,h3,h4,h5⟩:=atI_get he;obtain⟨w,ew,rw'⟩:=r.get h2;have hl:=r.length;have hn:=line63;have fin:EP X pins σ Q w s:=⟨z,H,I,rw',q⟩;by_cases h0:0<=i
 ·have hj:i.toNat=j:=by
   rw[seqIndex_of h0 h5] at h1;exact Option.some.inj h1
  exact item_listR pl.isList h0 (by exact acY h5 hz hn) (by rw[hj];simpa using ew) fin hs
 ·have hj:(i+(its.toArray.size:Int)).toNat=j:=by
   rw[seqIndex_neg (by exact Int.not_le.mp h0) h4] at h1;rw[z1c,<-hl];exact Option.some.inj h1
  exact subscriptTail_builtinR (x:=w) pl.isList.typeIs slot_list_getitem.lookup
   (wpAny_getItem_list_neg (Q:=λ r s'=>r=w/\EP X pins σ Q r s') pl.isList (by exact Int.not_le.mp h0) (by rw[z1c] <;> exact aiM h4 hl) (by exact acZ h4 hz hn) (by rw[hj];simpa using ew) ⟨rfl,fin⟩) hs
theorem ix_tup:IxR X (rIxT X.K):=by
 intro value slice pins s σ H x y v u Q I rx ry h hs;obtain⟨p,xs,i,z,rfl,rfl,hq,he,q⟩:=h;cases rx;obtain⟨t,rfl⟩:=ry;obtain⟨its,r,pl,hz⟩:=I.tuple hq;obtain⟨j,h1,h2,h3,h4,h5⟩:=atI_get he;obtain⟨w,ew,rw'⟩:=r.get h2;have hl:=r.length;have hn:=line63;have fin:EP X pins σ Q w s:=⟨z,H,I,rw',q⟩;exact subscriptTail_builtinR (x:=w) pl.typeIs slot_tuple_getitem.lookup
  (getItem_tuple (j:=j) (Q:=λ r s'=>r=w/\EP X pins σ Q r s') pl (by exact acZ h4 hz hn) (by exact acY h5 hz hn) (by rw[z1c,<-hl];exact h1) (by simpa using ew) ⟨rfl,fin⟩) hs
theorem ix_str:IxR X rIxS:=by
 intro value slice pins s σ H x y v u Q I rx ry h hs;obtain⟨z,i,c,rfl,rfl,hz,he,q⟩:=h;obtain⟨t,rfl⟩:=rx;obtain⟨t',rfl⟩:=ry;obtain⟨j,h1,h2,h3,h4,h5⟩:=atI_get he;have hl:z.cps.toList.length=z.length:=by simp[Str.length]
 rw[hl] at h1 h4 h5;have hn:=line63;exact tail_any (typeIs_str s z t) slot_str_getitem.lookup (getItem_str (c:=c) (by
  have e1:decide (i < -(2 ^ 63:Int))=false:=decide_eq_false (by exact aiN h4 hz hn);have e2:decide (i>=2 ^ 63)=false:=decide_eq_false (by exact aiO h5 hz hn);rw[e1,e2,Bool.or_false]) (by rw[h1];simpa using h2) ⟨.str ⟨#[c]⟩,H,I.tok _,⟨_,rfl⟩,q⟩) hs
noncomputable def rIx (K:PySem.W.Frag):R2:=λ x y H Q=>rIxL K x y H Q\/rIxT K x y H Q\/rIxS x y H Q
theorem ix_seq:IxR X (rIx X.K):=ix_list.or (ix_tup.or ix_str)
theorem mapSeq_set (its:List Value) (n j:Nat) (u:Value):Obj.mapSeq (·.setIfInBounds j u) {cls:= .type "list",data:= .seq its.toArray n}={cls:= .type "list",data:= .seq (its.set j u).toArray n}:=by
 simp[Obj.mapSeq]
theorem Inv.lst {pins:List (Addr×Obj)} {σ:St} {H:Hp} {s:Shared} {p:Addr} {xs:List V} (I:Inv X pins σ H s) (h:H p=some (.lst xs)):
  ∃(its:List Value) (n:Nat),Vals xs its/\s.heap.get? p=some {cls:= .type "list",data:= .seq its.toArray n}/\xs.length<=sizeLine:=by
 obtain⟨z,its,n,r,e⟩:=I.hok p _ h;exact⟨its,n,r,e,z⟩
theorem Inv.lstUpd {pins:List (Addr×Obj)} {σ:St} {H:Hp} {s:Shared} {p:Addr} {xs ys:List V} {its its':List Value} {n n':Nat} {f:Obj->Obj} (I:Inv X pins σ H s) (h:H p=some (.lst xs))
  (ho:s.heap.get? p=some {cls:= .type "list",data:= .seq its.toArray n}) (hf:f {cls:= .type "list",data:= .seq its.toArray n}={cls:= .type "list",data:= .seq its'.toArray n'}) (r:Vals ys its') (hz:ys.length<=sizeLine) (t:Nat):
  Inv X pins σ (upd H p (.lst ys)) {s with heap:=s.heap.update p f,toks:=t}:=by
 have e:(s.heap.update p f).get? p=some {cls:= .type "list",data:= .seq its'.toArray n'}:=by
  rw[Heap.get?_update_self f ho (by rw[hf] <;> rfl),hf]
 refine I.write (x:=p) (e:=p) (by rw[h];trivial) (.inl rfl) (λ b u hb q=>(Heap.get?_update_other _ _ (Ne.symm hb)).trans q) ⟨_,e⟩ ?_;exact⟨hz,its',n',r,e⟩
noncomputable def rSetL:V->V->V->Hp->(Hp->Prop)->Prop:=λ o i v H Q=>∃p xs k j,o= .ref p/\i= .int k/\H p=some (.lst xs)/\ixN xs.length k=some j/\Q (upd H p (.lst (xs.set j v)))
theorem set_list:PSet X rSetL:=by
 intro pins s σ H o i v ov iv u Q I ro ri rv h;obtain⟨p,xs,k,j,rfl,rfl,hp,hj,q⟩:=h;cases ro;obtain⟨t,rfl⟩:=ri;obtain⟨its,n,r,ho,hz⟩:=I.lst hp;obtain⟨h1,h2,h3,h4⟩:=ixN_seq hj;have hl:=r.length;have hn:=line63;have I':Inv X pins σ (upd H p (.lst (xs.set j v))) {s with heap:=s.heap.update p (Obj.mapSeq (·.setIfInBounds j u))}:=
  I.lstUpd hp ho (mapSeq_set its n j u) (r.set rv j) (by rw[List.length_set];exact hz) s.toks
 by_cases h0:0<=k
 ·have hk:k.toNat=j:=by
   rw[seqIndex_of h0 h4] at h1;exact Option.some.inj h1
  exact PySem.W.ki_setAt ho h0 (by exact acY h4 hz hn) (by rw[z1c,<-hl];exact h4) (by rw[hk];exact⟨_,I',q⟩)
 ·have hk:(k+(its.toArray.size:Int)).toNat=j:=by
   rw[seqIndex_neg (by exact Int.not_le.mp h0) h3] at h1;rw[z1c,<-hl];exact Option.some.inj h1
  exact PySem.W.ki_setBack ho (by exact Int.not_le.mp h0) (by rw[z1c,<-hl];exact h3) (by exact acZ h3 hz hn) (by rw[hk];exact⟨_,I',q⟩)
theorem slice_bounds (lo hi:Option Int) (n:Nat):(sliceBounds lo hi none n).1=((HT.sIx n 0 lo:Nat):Int)/\(sliceBounds lo hi none n).2.1=((HT.sIx n n hi:Nat):Int)/\(sliceBounds lo hi none n).2.2=1:=by
 refine⟨?_,?_,rfl⟩
 ·cases lo with
  |none=>simp[sliceBounds,HT.sIx]
  | some i=>
   simp only[sliceBounds,HT.sIx,Option.getD_none,show (1:Int) > 0 by decide,if_true];by_cases h:i < 0
   ·simp only[h,if_true];exact HT.agm n h
   ·simp only[h,if_false];obtain⟨k,rfl⟩:=Int.eq_ofNat_of_zero_le (Int.not_lt.mp h);exact HT.agn k n
 ·cases hi with
  |none=>simp[sliceBounds,HT.sIx]
  | some i=>
   simp only[sliceBounds,HT.sIx,Option.getD_none,show (1:Int) > 0 by decide,if_true];by_cases h:i < 0
   ·simp only[h,if_true];exact HT.agm n h
   ·simp only[h,if_false];obtain⟨k,rfl⟩:=Int.eq_ofNat_of_zero_le (Int.not_lt.mp h);exact HT.agn k n
theorem slicePick_cut (its:List Value) (lo hi:Option Int):slicePick its.toArray lo hi none=((its.drop (HT.sIx its.length 0 lo)).take (HT.sIx its.length its.length hi - HT.sIx its.length 0 lo)).toArray:=by
 obtain⟨h1,h2,h3⟩:=slice_bounds lo hi its.toArray.size;unfold slicePick;rw[h1,h2,h3];simp only[sliceRange_one,pick_run,z1c] <;> rfl
noncomputable def rSlL (K:PySem.W.Frag):V->Option Int->Option Int->Hp->VK->Prop:=λ x lo hi H Q=>∃a xs,x= .ref a/\SqL K H a xs/\∀p,H p=none->Q (.ref p) (upd H p (.lst (cutV xs lo hi)))
theorem sl_list:SlR X (rSlL X.K):=by
 intro pins s σ H x v vl vu lo hi sl Q I rx hs pl pu h;obtain⟨a,xs,rfl,hx,q⟩:=h;cases rx;obtain⟨its,r,ht,hz⟩:=I.list hx;have hlen:=r.length;refine⟨"list",_,slot_list_getitem.lookup,ht.isList.typeIs,?_⟩;refine wpAny_getItem_list_slice ht.isList hs pl pu .none (by simp) ?_ (by rw[z1c] <;> exact Qg hlen hz);rw[slicePick_cut,<-hlen];refine⟨.ref s.heap.objs.size,_,I.laid (t':=s.toks) (o:= .lst (cutV xs lo hi)) (λ b ob q=>z1a _ q) (z0g _) ?_,rfl,q _ (I.hok.fresh (z0g _))⟩;exact⟨z0b (cutV_length xs lo hi) hz,_,0,(r.drop (HT.sIx xs.length 0 lo)).take (HT.sIx xs.length xs.length hi - HT.sIx xs.length 0 lo),z1f _ rfl⟩
noncomputable def flatV:V->Bool
 | .non=>true
 | .bl _=>true
 | .int _=>true
 | .str _=>true
 |_=>false
noncomputable def eqV:V->V->Bool
 | .non,.non=>true
 | .bl a,.bl b=>a ==b
 | .bl a,.int b=>(if a then 1 else 0) ==b
 | .int a,.bl b=>a ==(if b then 1 else 0)
 | .int a,.int b=>a ==b
 | .str a,.str b=>a ==b
 |_,_=>false
theorem eqAt_V {A:Around} {s:Shared} {y x:V} {u v:Value} (ry:RelV y u) (rx:RelV x v) (fy:flatV y=true) (fx:flatV x=true):SeqAt.EqAt A s u v (eqV y x):=by
 cases y with
 | non=>
  cases ry;cases x with
  |non=>cases rx;exact SeqAt.EqAt.same _
  |bl b=>cases rx;exact SeqAt.EqAt.none_bool b
  |int b=>obtain⟨t,rfl⟩:=rx;exact SeqAt.EqAt.none_int b t
  |str b=>obtain⟨t,rfl⟩:=rx;exact SeqAt.EqAt.none_str b t
  |_=>exact absurd (show false=true from fx) Bool.false_ne_true
 | bl a=>
  cases ry;cases x with
  |non=>cases rx;exact SeqAt.EqAt.bool_none a
  |bl b=>cases rx;exact SeqAt.EqAt.bool_bool a b
  |int b=>obtain⟨t,rfl⟩:=rx;exact SeqAt.EqAt.bool_int a b t
  |str b=>obtain⟨t,rfl⟩:=rx;exact SeqAt.EqAt.bool_str a b t
  |_=>exact absurd (show false=true from fx) Bool.false_ne_true
 | int a=>
  obtain⟨t',rfl⟩:=ry;cases x with
  |non=>cases rx;exact SeqAt.EqAt.int_none a t'
  |bl b=>cases rx;exact SeqAt.EqAt.int_bool a t' b
  |int b=>obtain⟨t,rfl⟩:=rx;exact SeqAt.EqAt.int_int a t' b t
  |str b=>obtain⟨t,rfl⟩:=rx;exact SeqAt.EqAt.int_str a t' b t
  |_=>exact absurd (show false=true from fx) Bool.false_ne_true
 | str a=>
  obtain⟨t',rfl⟩:=ry;cases x with
  |non=>cases rx;exact SeqAt.EqAt.str_none a t'
  |bl b=>cases rx;exact SeqAt.EqAt.str_bool a t' b
  |int b=>obtain⟨t,rfl⟩:=rx;exact SeqAt.EqAt.str_int a t' b t
  |str b=>obtain⟨t,rfl⟩:=rx;exact SeqAt.EqAt.str_str a t' b t
  |_=>exact absurd (show false=true from fx) Bool.false_ne_true
 |_=>exact absurd (show false=true from fy) Bool.false_ne_true
noncomputable def eqU (x:V) (u:Value):Bool:=match u with
 | .none=>eqV .non x
 | .bool b=>eqV (.bl b) x
 | .int i _=>eqV (.int i) x
 | .str z _=>eqV (.str z) x
 |_=>false
theorem eqU_of {x y:V} {u:Value} (r:RelV y u) (f:flatV y=true):eqU x u=eqV y x:=by
 cases y with
 |non=>cases r;rfl
 |bl b=>cases r;rfl
 |int i=>obtain⟨t,rfl⟩:=r;rfl
 |str z=>obtain⟨t,rfl⟩:=r;rfl
 |_=>exact absurd (show false=true from f) Bool.false_ne_true
theorem any_eqU {x:V}:∀{xs:List V} {us:List Value},Vals xs us->xs.all flatV=true->us.any (eqU x)=xs.any λ y=>eqV y x
 |_,_,.nil,_=>rfl
 | y::xs,u::us,.cons r t,f=>by
  rw[List.all_cons,Bool.and_eq_true] at f;rw[List.any_cons,List.any_cons,eqU_of r f.1,any_eqU t f.2]
theorem mem_eqAt {A:Around} {s:Shared} {x:V} {v:Value} (rx:RelV x v) (fx:flatV x=true):∀{xs:List V} {us:List Value},Vals xs us->xs.all flatV=true->∀u∈us,SeqAt.EqAt A s u v (eqU x u)
 |_,_,.nil,_=>λ u hu=>by cases hu
 | y::xs,u::us,.cons r t,f=>λ u' hu=>by
  rw[List.all_cons,Bool.and_eq_true] at f;rcases List.mem_cons.mp hu with rfl |hu
  ·rw[eqU_of r f.1];exact eqAt_V r rx f.1 fx
  ·exact mem_eqAt rx fx t f.2 u' hu
noncomputable def inV (x:V) (xs:List V):Bool:=xs.any λ y=>eqV y x
noncomputable def rIn (K:PySem.W.Frag) (neg:Bool):R2:=λ x y H Q=>∃p xs,y= .ref p/\(SqL K H p xs\/SqT K H p xs)/\flatV x=true/\xs.all flatV=true/\Q (.bl (if neg then !inV x xs else inV x xs)) H
theorem op_in_seq:OpR X (compareOp .In) (rIn X.K false):=by
 intro pins s σ H x y v u Q I rx ry h;obtain⟨p,xs,rfl,hq,fx,fs,q⟩:=h;cases ry;rcases hq with hq |hq
 ·obtain⟨its,r,pl,hz⟩:=I.list hq;refine SeqAt.in_listAt (eqU x) pl.isList (λ w hw=>mem_eqAt rx fx r fs w (by simpa using hw)) ⟨.bl _,H,I,rfl,?_⟩;rw[show its.toArray.any (eqU x)=its.any (eqU x) by simp,any_eqU r fs];exact q
 ·obtain⟨its,r,pl,hz⟩:=I.tuple hq;refine SeqAt.in_tupleAt (eqU x) pl (λ w hw=>mem_eqAt rx fx r fs w (by simpa using hw)) ⟨.bl _,H,I,rfl,?_⟩;rw[show its.toArray.any (eqU x)=its.any (eqU x) by simp,any_eqU r fs];exact q
theorem call_len_seq:CallR X (.builtin "len") (λ xs H Q=>∃p ys,xs=[.ref p]/\(SqL X.K H p ys\/SqT X.K H p ys)/\Q (.int ys.length) H):=by
 intro pins s σ H xs us Q I r h;obtain⟨p,ys,rfl,hq,q⟩:=h;obtain⟨u,rfl,rx⟩:=vals1 r;cases rx;have hn:=line63;rcases hq with hq |hq
 ·obtain⟨its,r',pl,hz⟩:=I.list hq;have hlen:=r'.length;exact Calls.call_len_list pl.isList (by simp only[z1c] <;> omega) ⟨.int ys.length,H,I.tok _,⟨s.toks+1,by rw[z1c,hlen]⟩,q⟩
 ·obtain⟨its,r',pl,hz⟩:=I.tuple hq;have hlen:=r'.length;exact len_tuple pl (by simp only[z1c] <;> omega) ⟨.int ys.length,H,I.tok _,⟨s.toks+1,by rw[z1c,hlen]⟩,q⟩
theorem call_tuple_of:CallR X (.type "tuple") (λ xs H Q=>∃p ys,xs=[.ref p]/\((SqL X.K H p ys/\∀l,H l=none->Q (.ref l) (upd H l (.tup ys)))\/(SqT X.K H p ys/\Q (.ref p) H))):=by
 intro pins s σ H xs us Q I r h;obtain⟨p,ys,rfl,h⟩:=h;obtain⟨u,rfl,rx⟩:=vals1 r;cases rx;rcases h with⟨hq,q⟩ |⟨hq,q⟩
 ·obtain⟨its,r',pl,hz⟩:=I.list hq;have hlen:=r'.length;refine call_tuple_list pl.isList (λ h' kp=>?_) (by simp only[z1c] <;> exact Qg hlen hz);have I1:Inv X pins σ H {s with heap:=h'}:=I.kept (t':=s.toks) kp;have I2:Inv X pins σ (upd H h'.objs.size (.tup ys)) {s with heap:=h'.push {cls:= .type "tuple",data:= .seq its.toArray}}:=
   I1.laid (t':=s.toks) (λ b o e=>z1a _ e) (z0g _) (show ObjOk X.prog X.w _ _ _ (.tup ys) from ⟨hz,its,r',IsTup.new _ _⟩)
  exact⟨.ref h'.objs.size,_,I2,rfl,q _ (I1.hok.fresh (z0g _))⟩
 ·obtain⟨its,r',pl,hz⟩:=I.tuple hq;exact call_tuple_same pl ⟨.ref p,H,I,rfl,q⟩
noncomputable def tyV (K:PySem.W.Frag) (T:String) (x:V) (H:Hp):Prop:=match x with
 | .str _=>T= "str"
 | .int _=>T= "int"
 | .ref p=>(T= "list"/\∃xs,SqL K H p xs)\/(T= "tuple"/\∃o,K.lookup p=some o/\o.cls= .type "tuple"/\o.dict=none)\/
   (T= "dict"/\((∃kvs,H p=some (.dK kvs))\/∃kvs,H p=some (.dT kvs)))\/(T= "set"/\∃S n,H p=some (.set S n))
 |_=>False
theorem tyV_is {pins:List (Addr×Obj)} {σ:St} {H:Hp} {s:Shared} {T:String} {x:V} {v:Value} (I:Inv X pins σ H s) (r:RelV x v) (ty:tyV X.K T x H):
  s.TypeIs v T/\∀a,v= .ref a->∃ob,s.heap.get? a=some ob/\ob.dict=none:=by
 cases x with
 | str z=>
  obtain⟨t,rfl⟩:=r;cases (show T= "str" from ty);exact⟨typeIs_str s z t,λ _u e=>nomatch e⟩
 | int i=>
  obtain⟨t,rfl⟩:=r;cases (show T= "int" from ty);exact⟨typeIs_int s i t,λ _u e=>nomatch e⟩
 | ref p =>
  cases r;rcases ty with⟨rfl,xs,hq⟩ |⟨rfl,o,hk,hc,hd⟩ |⟨rfl,hk⟩ |⟨rfl,S,n,hk⟩
  ·obtain⟨its,_,pl,_⟩:=I.list hq;refine⟨pl.isList.typeIs,λ a e=>?_⟩;cases e;obtain⟨o,n,e,c,hd,_⟩:=pl;exact⟨o,e,hd⟩
  ·refine⟨⟨o,I.kIn p o hk,hc⟩,λ a e=>?_⟩;cases e;exact⟨o,I.kIn _ o hk,hd⟩
  ·have z:∃o,s.heap.get? p=some o/\o.ExactDict:=by
    rcases hk with⟨kvs,hk⟩ |⟨kvs,hk⟩
    ·obtain⟨_,_,_,_,o,_,_,e,ex,_⟩:=I.hok p _ hk;exact⟨o,e,ex⟩
    ·obtain⟨_,_,_,_,o,_,_,e,ex,_⟩:=I.hok p _ hk;exact⟨o,e,ex⟩
   obtain⟨o,e,ex⟩:=z;refine⟨⟨o,e,ex.1⟩,λ a e2=>?_⟩;cases e2;exact⟨o,e,ex.2.1⟩
  ·obtain⟨o,_,_,_,e,ex,_⟩:=I.hok p _ hk;refine⟨⟨o,e,ex.1⟩,λ a e2=>?_⟩;cases e2;exact⟨o,e,ex.2.1⟩
 |_=>exact False.elim ty
noncomputable def tBM (K:PySem.W.Frag) (T:String) (r:V->List V->Hp->VK->Prop) (to:TE) (t:TA):TE:=λ σ H Q=>to σ H λ x H1=>tyV K T x H1/\t σ H1 λ xs H2=>r x xs H2 Q
variable {o e:Expr} {es:List Expr} {to:TE} {t:TA} {name:Str} {apos cpos:Pos} {T id:String} {r:V->List V->Hp->VK->Prop}
theorem pe_bm (pa:PlainAttrs T) (slot:Slot T name id) (hty:typeOf (.builtin id)=pure (.type "method_descriptor")) (hm:MtR X id r) (ho:PE X o to) (ha:PA X (e::es) t)
  (hbase:autoParam (attributeBase o name X.env (eval o X.env)=eval o X.env) aN._auto_1)
  (hfew:((backTo cpos (starEach (e::es) X.env)).all (λ x=> !x.1) && (backToKw cpos (keywordEach [] X.env)).all (λ x=>x.1.isSome)
   && decide ((e::es).length+([]:List Keyword).length+(if ([]:List Keyword).isEmpty then 0 else 1) < 30))=true:=by rfl)
  (hline:autoParam ((apos.endLine ==cpos.line)=true) aN._auto_1) (hs:autoParam (starEach (e::es) X.env=(false,eval e X.env)::starEach es X.env) aN._auto_1) (hplain:autoParam ((backTo cpos (starEach es X.env)).any (·.1)=false) aN._auto_1):
  PE X (.Call (.Attribute o name apos) (e::es) [] cpos) (tBM X.K T r to t):=by
 intro pins s σ H Q I h;refine wpAny_Call_method_late hbase hfew hline rfl (thn (ho pins s σ H _ I h) λ v s1 bh=>?_);obtain⟨x,H1,I1,r1,ty,q1⟩:=bh;obtain⟨h1,h2⟩:=tyV_is I1 r1 ty;refine⟨T,id,pa,slot,hty,h1,h2,?_⟩;have hA:=ha cpos pins s1 σ H1 _ I1 q1;rw[hs] at hA |-;refine Calls.callWith_builtin (by show (false || (backTo cpos (starEach es X.env)).any (·.1))=false;rw[hplain] <;> rfl) (Calls.evalArgs_plain ?_);refine thn hA λ us s2 bh=>?_;obtain⟨vs,H2,I2,r2,q2⟩:=bh;exact hm pins s2 σ H2 x vs v us Q I2 r1 r2 q2
end
noncomputable def MtM (X:Cx) (id:String) (r:V->List V->Hp->VK->Prop):Prop:=
 ∀ (pins:List (Addr×Obj)) (s:Shared) (σ:St) (H:Hp) (x:V) (xs:List V) (v:Value) (us:List Value) (Q:VK),Inv X pins σ H s->RelV x v->Vals xs us->r x xs H Q->
  wpAny (model X.prog X.w) X.A (call (.builtin id) (v::us)) (EP X pins σ Q) X.xe s
theorem Vals.one:∀{x:V} {us:List Value},Vals [x] us->∃u,us=[u]/\RelV x u
 | _,_,h=>by
  cases h with
  |cons r t=>cases t;exact⟨_,rfl,r⟩
theorem Vals.rep {xs:List V} {us:List Value} (h:Vals xs us):∀k:Nat,Vals (List.replicate k xs).flatten (List.replicate k us).flatten
 |0=> .nil
 | k+1=>by
  rw[List.replicate_succ,List.replicate_succ,List.flatten_cons,List.flatten_cons];exact Vals.append h (Vals.rep h k)
theorem foldl_rep (its:List Value):∀(k:Nat) (acc:List Value),
  List.foldl (λ x1 x2=>x1++x2) acc.toArray (List.replicate k its.toArray)=(acc++(List.replicate k its).flatten).toArray
 |0,acc=>by simp
 | k +1,acc=>by
  have e:acc.toArray++its.toArray=(acc++its).toArray:=by simp
  have e2:(acc++its)++(List.replicate k its).flatten=acc++(List.replicate (k+1) its).flatten:=by
   rw[List.replicate_succ,List.flatten_cons,List.append_assoc]
  rw[<-e2,<-foldl_rep its k (acc++its),<-e,List.replicate_succ,List.foldl_cons]
section
variable {X:Cx} {pins:List (Addr×Obj)} {σ:St} {H:Hp} {s:Shared} {l b:Addr} {xs ys zs:List V}
theorem Inv.lset {its its':List Value} {n:Nat} {f:Array Value->Array Value} {t':Nat} (I:Inv X pins σ H s) (hH:H l=some (.lst xs))
  (e:s.heap.get? l=some {cls:= .type "list",data:= .seq its.toArray n}) (hf:f its.toArray=its'.toArray) (hv:Vals ys its') (hz:ys.length<=sizeLine):
  Inv X pins σ (upd H l (.lst ys)) {s with heap:=s.heap.update l (Obj.mapSeq f),toks:=t'}:=by
 have q:=PySem.IsL.update e f;rw[hf] at q;refine I.write (x:=l) (e:=l) (by rw[hH];exact trivial) (.inl rfl) (λ b' u hb hu=>(Heap.get?_update_other s.heap (Obj.mapSeq f) (Ne.symm hb)).trans hu) ⟨_,q⟩ ?_;exact⟨hz,its',_,hv,q⟩
theorem Inv.lnew {its:List Value} {t':Nat} (I:Inv X pins σ H s) (hv:Vals ys its) (hz:ys.length<=sizeLine):
  Inv X pins σ (upd H s.heap.objs.size (.lst ys)) {s with heap:=s.heap.push {cls:= .type "list",data:= .seq its.toArray},toks:=t'}:=
 I.laid (λ _u _u q=>z1a _ q) (z0g _) ⟨hz,its,0,hv,z1f _ rfl⟩
theorem Inv.fresh (I:Inv X pins σ H s):H s.heap.objs.size=none:=I.hok.fresh (z0g _)
theorem Inv.lstM (I:Inv X pins σ H s) (hH:H l=some (.lst xs)):xs.length<=sizeLine/\∃(its:List Value) (n:Nat),Vals xs its/\xs.length=its.length/\s.heap.get? l=some {cls:= .type "list",data:= .seq its.toArray n}:=by
 obtain⟨z,its,n,r,e⟩:=I.hok l _ hH;exact⟨z,its,n,r,r.length,e⟩
end
section
variable {X:Cx}
noncomputable def rAppend:V->List V->Hp->VK->Prop:=λ x vs H Q=>∃l xs y,x= .ref l/\vs=[y]/\H l=some (.lst xs)/\xs.length < sizeLine/\Q .non (upd H l (.lst (xs++[y])))
theorem mt_append:MtM X "list.append" rAppend:=by
 intro pins s σ H x vs v us Q I rx rv h;obtain⟨l,xs,y,rfl,rfl,hH,hz,q⟩:=h;cases rx;obtain⟨u,rfl,ru⟩:=rv.one;obtain⟨z,its,n,r,hl,e⟩:=I.lstM hH;refine call_meets F.slot_list_append ⟨_,e,rfl⟩ F.entry_list_append (F.args_list_append_2 _ _) (PySem.list_append l its.toArray n u (by rw[z1c];exact aiP hz hl)) ⟨e,?_⟩;refine⟨.non,_,I.lset (its':=its++[u]) hH e (by simp) (r.append (.cons ru .nil)) ?_,rfl,q⟩;rw[z1d,List.length_singleton];assumption
theorem len_rep {α:Type} (xs:List α) (k:Nat):(List.replicate k xs).flatten.length=k*xs.length:=by
 induction k with
 |zero=>simp
 |succ k ih=>rw[List.replicate_succ,List.flatten_cons,z1d,ih,Nat.succ_mul,Nat.add_comm]
end
section
variable {prog:Program} {w:World} {A:Around} {E:Value->Shared->Prop} {s:Shared}
end
section
variable {X:Cx}
end
section
variable {κ:Type} [DecidableEq κ]
noncomputable def valV (kvs:List (κ×V)) (k:κ):Option V:=(kvs.find? λ kv=>decide (kv.1=k)).map (·.2)
noncomputable def putK (kvs:List (κ×V)) (k:κ) (v:V):List (κ×V):=
 if (kvs.any λ kv=>decide (kv.1=k))=true then kvs.map (λ kv=>if kv.1=k then (kv.1,v) else kv) else kvs++[(k,v)]
theorem valV_pos {p:κ×V} {r:List (κ×V)} {k:κ} (e:p.1=k):valV (p::r) k=some p.2:=by simp[valV,List.find?_cons,e]
theorem valV_neg {p:κ×V} {r:List (κ×V)} {k:κ} (e:¬p.1=k):valV (p::r) k=valV r k:=by simp[valV,List.find?_cons,e]
theorem valV_any (k:κ):∀kvs:List (κ×V),(kvs.any λ kv=>decide (kv.1=k))=(valV kvs k).isSome
 |[]=>rfl
 | p::r=>by
  rw[List.any_cons];by_cases e:p.1=k
  ·simp only[valV_pos e,decide_eq_true e,Bool.true_or,Option.isSome_some]
  ·rw[valV_neg e,decide_eq_false e,Bool.false_or];exact valV_any k r
theorem length_putK (kvs:List (κ×V)) (k:κ) (v:V):(putK kvs k v).length<=kvs.length+1:=by
 unfold putK;split
 ·rw[z1g];exact Nat.le_add_right _ _
 ·rw[z1d,List.length_cons,List.length_nil];exact z0g _
theorem RelO.isSome_eq {o:Option V} {u:Option Value} (r:RelO o u):o.isSome=u.isSome:=by
 cases o with
 | none=>cases u with
  |none=>rfl
  |some _=>exact (show False from r).elim
 | some _=>cases u with
  |none=>exact (show False from r).elim
  |some _=>rfl
theorem RelO.getD {o:Option V} {u:Option Value} {d:V} {d':Value} (r:RelO o u) (rd:RelV d d'):RelV (o.getD d) (u.getD d'):=by
 cases o with
 | none=>cases u with
  |none=>exact rd
  |some _=>exact (show False from r).elim
 | some _=>cases u with
  |none=>exact (show False from r).elim
  |some _=>exact r
theorem KV.val {kvs:List (κ×V)} {vs:List (κ×Value)} (r:KV kvs vs) (k:κ):RelO (valV kvs k) (valueAt vs k):=by
 unfold KV at r
 induction r with
 |nil=>exact True.intro
 | @cons p q ps qs h t ih=>
  obtain⟨h1,h2⟩:=h;by_cases e:p.1=k
  ·have e':q.1=k:=h1.symm.trans e;have b:valueAt (q::qs) k=some q.2:=by simp[valueAt,List.find?_cons,e']
   rw[valV_pos e,b];exact h2
  ·have e':¬q.1=k:=λ z=>e (h1.trans z);have b:valueAt (q::qs) k=valueAt qs k:=by simp[valueAt,List.find?_cons,e']
   rw[valV_neg e,b];exact ih
theorem KV.any {kvs:List (κ×V)} {vs:List (κ×Value)} (r:KV kvs vs) (k:κ):(kvs.any λ kv=>decide (kv.1=k))=vs.any λ kv=>decide (kv.1=k):=by
 unfold KV at r
 induction r with
 |nil=>rfl
 |cons h t ih=>rw[List.any_cons,List.any_cons,ih,h.1]
theorem KV.repl {kvs:List (κ×V)} {vs:List (κ×Value)} (r:KV kvs vs) (k:κ) {y:V} {u:Value} (ry:RelV y u):
  KV (kvs.map λ kv=>if kv.1=k then (kv.1,y) else kv) (vs.map λ kv=>if kv.1=k then (kv.1,u) else kv):=by
 unfold KV at r |-
 induction r with
 |nil=>exact .nil
 | @cons p q ps qs h t ih=>
  rw[z1h,z1h];refine .cons ?_ ih;obtain⟨h1,h2⟩:=h;by_cases e:p.1=k
  ·rw[if_pos e,if_pos (h1.symm.trans e)];exact⟨h1,ry⟩
  ·rw[if_neg e,if_neg (λ z=>e (h1.trans z))];exact⟨h1,h2⟩
theorem KV.put {kvs:List (κ×V)} {vs:List (κ×Value)} (r:KV kvs vs) (k:κ) {y:V} {u:Value} (ry:RelV y u):KV (putK kvs k y) (stored vs k u):=by
 unfold putK stored;rw[r.any k];by_cases e:(vs.any λ kv=>decide (kv.1=k))=true
 ·rw[if_pos e,if_pos e];exact r.repl k ry
 ·rw[if_neg e,if_neg e];exact Paired.snoc r ⟨rfl,ry⟩
theorem KV.length {kvs:List (κ×V)} {vs:List (κ×Value)} (r:KV kvs vs):kvs.length=vs.length:=Paired.length r
end
theorem kV_is {P:Program} {w:World} {k:Key} {u:Value} (r:RelV (kV k) u):(mixKind P w).is k u=true:=by
 cases k with
 |inl i=>obtain⟨t,e⟩:=(show ∃t,u=Value.int i t from r);subst e;exact mixKind_int P w i t
 |inr x=>obtain⟨t,e⟩:=(show ∃t,u=Value.str x t from r);subst e;exact mixKind_str P w x t
theorem items_are {P:Program} {w:World}:∀{ks:List Key} {us:List Value},Vals (ks.map kV) us->ItemsAre (mixKind P w) ks us
 |[],_,r=>by rw[List.map_nil] at r;cases r;exact .nil
 | k::ks,_,r=>by
  rw[z1h] at r;cases r with
  |cons h t=>exact .cons (kV_is h) (items_are t)
noncomputable abbrev KT (H:Hp):List (List Key×V)->List (List Key×Addr×Value)->Prop:=Paired λ p q=>p.1=q.1/\H q.2.1=some (.tup (p.1.map kV))/\RelV p.2 q.2.2
theorem KT.val {H:Hp} {kvs:List (List Key×V)} {xs:List (List Key×Addr×Value)} (r:KT H kvs xs) (k:List Key):RelO (valV kvs k) ((atKey xs k).map (·.2)):=by
 induction r with
 |nil=>exact True.intro
 | @cons p q ps qs h t ih=>
  obtain⟨h1,_,h2⟩:=h;by_cases e:p.1=k
  ·have e':q.1=k:=h1.symm.trans e;have b:atKey (q::qs) k=some q.2:=by simp[atKey,List.find?_cons,e']
   rw[valV_pos e,b];exact h2
  ·have e':¬q.1=k:=λ z=>e (h1.trans z);have b:atKey (q::qs) k=atKey qs k:=by simp[atKey,List.find?_cons,e']
   rw[valV_neg e,b];exact ih
theorem KT.repl {H:Hp} {kvs:List (List Key×V)} {xs:List (List Key×Addr×Value)} (r:KT H kvs xs) (k:List Key) {y:V} {u:Value} (ry:RelV y u):
  KT H (kvs.map λ kv=>if kv.1=k then (kv.1,y) else kv) (xs.map (putAt k u)):=by
 induction r with
 |nil=>exact .nil
 | @cons p q ps qs h t ih=>
  rw[z1h,z1h];refine .cons ?_ ih;obtain⟨h1,h2,h3⟩:=h;unfold putAt;by_cases e:p.1=k
  ·rw[if_pos e,if_pos (h1.symm.trans e)];exact⟨h1,h2,ry⟩
  ·rw[if_neg e,if_neg (λ z=>e (h1.trans z))];exact⟨h1,h2,h3⟩
theorem KT.put {H:Hp} {kvs:List (List Key×V)} {xs:List (List Key×Addr×Value)} (r:KT H kvs xs) (k:List Key) {b:Addr} {y:V} {u:Value} (hb:H b=some (.tup (k.map kV))) (ry:RelV y u):
  KT H (putK kvs k y) (storedH xs k b u):=by
 have e:(kvs.any λ kv=>decide (kv.1=k))=(atKey xs k).isSome:=by
  rw[valV_any,(r.val k).isSome_eq,Option.isSome_map]
 unfold putK storedH;rw[e];by_cases q:(atKey xs k).isSome=true
 ·rw[if_pos q,if_pos q];exact r.repl k ry
 ·rw[if_neg q,if_neg q];exact Paired.snoc r ⟨rfl,hb,ry⟩
theorem KT.keeps {H H':Hp} {kvs:List (List Key×V)} {xs:List (List Key×Addr×Value)} (r:KT H kvs xs) (ht:∀b ys,H b=some (.tup ys)->H' b=some (.tup ys)):KT H' kvs xs:=
 Paired.mapP r λ _u _u z=>⟨z.1,ht _ _ z.2.1,z.2.2⟩
section
variable {P:Program} {w:World} {H:Hp} {h:Heap} {a:Addr}
theorem rd_of {u:HO} (ok:HOk P w H h) (e:Rd H a u):ObjOk P w H h a u:=e.ok ok
theorem dk_rd {kvs:List (Key×V)} (ok:HOk P w H h) (e:Rd H a (.dK kvs)):kvs.length<=sizeLine/\(a ==sysModules)=false/\∃vs,KV kvs vs/\h.DictOf (mixKind P w) a vs:=
 show ObjOk P w H h a (.dK kvs) from rd_of ok e
theorem dk_of {kvs:List (Key×V)} (ok:HOk P w H h) (e:H a=some (.dK kvs)):kvs.length<=sizeLine/\(a ==sysModules)=false/\∃vs,KV kvs vs/\h.DictOf (mixKind P w) a vs:=dk_rd ok (.inl e)
theorem key_of {ks:List Key} (ok:HOk P w H h) (e:H a=some (.tup (ks.map kV))):(tupleKind (mixKind P w)).is h ks a:=by
 obtain⟨_,its,r,o,h1,h2,n,h3⟩:=(show ObjOk P w H h a (.tup (ks.map kV)) from ok a _ e);exact⟨o,its.toArray,n,h1,h2,h3,by simpa using items_are r⟩
theorem dt_rd {kvs:List (List Key×V)} (ok:HOk P w H h) (e:Rd H a (.dT kvs)):kvs.length<=sizeLine/\(a ==sysModules)=false/\
  ∃xs,KT H kvs xs/\h.DictOfH (tupleKind (mixKind P w)) a xs:=by
 obtain⟨z,y,xs,r,o,es,ep,h1,h2,h3,h4,h5⟩:=(show ObjOk P w H h a (.dT kvs) from rd_of ok e);refine⟨z,y,xs,r,o,es,ep,h1,h2,h3,h4,λ x hx=>?_,h5⟩;have all:∀{l:List (List Key×V)} {m:List (List Key×Addr×Value)},KT H l m->∀x∈m,(tupleKind (mixKind P w)).is h x.1 x.2.1:=by
  intro l m q
  induction q with
  |nil=>intro x hx;exact nomatch hx
  | @cons p q ps qs hq t ih=>
   intro x hx;rcases List.mem_cons.mp hx with e |hx
   ·subst e;exact key_of ok (by rw[<-hq.1];exact hq.2.1)
   ·exact ih x hx
 exact all r x hx
theorem dt_of {kvs:List (List Key×V)} (ok:HOk P w H h) (e:H a=some (.dT kvs)):kvs.length<=sizeLine/\(a ==sysModules)=false/\
  ∃xs,KT H kvs xs/\h.DictOfH (tupleKind (mixKind P w)) a xs:=dt_rd ok (.inl e)
end
noncomputable def DGet (H:Hp) (a:Addr) (y:V) (r:Option V):Prop:=
 (∃kvs k,Rd H a (.dK kvs)/\y=kV k/\r=valV kvs k)\/∃kvs k b,Rd H a (.dT kvs)/\y= .ref b/\H b=some (.tup (k.map kV))/\r=valV kvs k
noncomputable def DPut (H:Hp) (a:Addr) (y v:V) (H':Hp):Prop:=
 (∃kvs k,H a=some (.dK kvs)/\y=kV k/\kvs.length < sizeLine/\H'=upd H a (.dK (putK kvs k v)))\/
 ∃kvs k b,H a=some (.dT kvs)/\y= .ref b/\H b=some (.tup (k.map kV))/\kvs.length < sizeLine/\H'=upd H a (.dT (putK kvs k v))
theorem DGet.t {H:Hp} {a b:Addr} {kvs:List (List Key×V)} {k:List Key} (e:H a=some (.dT kvs)) (eb:H b=some (.tup (k.map kV))):DGet H a (.ref b) (valV kvs k):= .inr ⟨kvs,k,b,.inl e,rfl,eb,rfl⟩
theorem DPut.t {H:Hp} {a b:Addr} {kvs:List (List Key×V)} {k:List Key} {v:V} (e:H a=some (.dT kvs)) (eb:H b=some (.tup (k.map kV))) (hl:kvs.length < sizeLine):
  DPut H a (.ref b) v (upd H a (.dT (putK kvs k v))):= .inr ⟨kvs,k,b,e,rfl,eb,hl,rfl⟩
section
variable {X:Cx} {pins:List (Addr×Obj)} {σ:St} {H:Hp} {s:Shared} {a:Addr} {y v:V} {u r:Value} {o:Option V} {A:Around} {E:Value->Shared->Prop}
theorem Inv.big (I:Inv X pins σ H s):sysModules < s.heap.objs.size:=by
 have h:mainGlobals < s.heap.objs.size:=(I.mod.glob.keeps I.bk).lt;exact Nat.lt_trans (by decide) h
theorem d_getItem {Q:Value->Shared->Prop} (hu:A.units+1 < cLine) (I:Inv X pins σ H s) (g:DGet H a y (some v)) (ry:RelV y u) (h:∀w' s',Inv X pins σ H s'->RelV v w'->Q w' s'):
  wpAny (model X.prog X.w) A (getItem (.ref a) u) Q E s:=by
 rcases g with⟨kvs,k,e,ey,l⟩ |⟨kvs,k,b,e,ey,eb,l⟩
 ·subst ey;obtain⟨z,hd,vs,rel,dd⟩:=dk_rd I.hok e;obtain⟨w',hw,rw'⟩:=RelO.some_of (v:=v) (o:=valueAt vs k) (by rw[l];exact rel.val k);exact wpAny_getItem_of (kV_is ry) dd.mapOf hw (h w' _ (I.tok _) rw')
 ·subst ey;cases (show u=Value.ref b from ry);obtain⟨z,hd,xs,rel,dd⟩:=dt_rd I.hok e;obtain⟨w',hw,rw'⟩:=RelO.some_of (v:=v) (o:=(atKey xs k).map (·.2)) (by rw[l];exact rel.val k);obtain⟨p,hp,hp2⟩:=Option.map_eq_some_iff.mp hw;refine wpAny_getItem_heap (tupleKind_room_in1 hu) (key_of I.hok eb) dd hp ?_;rw[hp2];exact h w' _ (I.tok _) rw'
theorem d_write {h':Heap} {t':Nat} {ob:HO} (I:Inv X pins σ H s) (mu:Mut (H a)) (hs:Heap.SameBut a s.heap h') (he:∃q,h'.get? a=some q) (new:ObjOk X.prog X.w (upd H a ob) h' a ob):
  Inv X pins σ (upd H a ob) {s with heap:=h',toks:=t'}:=
 I.write (x:=a) (e:=a) mu (.inl rfl) (λ b q hb z=>(hs.2 b hb).trans z) he new
theorem dk_new {P:Program} {w:World} {H':Hp} {h':Heap} {kvs:List (Key×V)} {vs:List (Key×Value)} (z:kvs.length<=sizeLine) (hd:(a ==sysModules)=false) (rel:KV kvs vs) (dd:h'.DictOf (mixKind P w) a vs):
  ObjOk P w H' h' a (.dK kvs):=⟨z,hd,vs,rel,dd⟩
theorem d_setItem {H':Hp} {Q:Unit->Shared->Prop} (hu:A.units+1 < cLine) (I:Inv X pins σ H s) (g:DPut H a y v H') (ry:RelV y u) (rv:RelV v r) (h:∀s',Inv X pins σ H' s'->Q () s'):
  wpAny (model X.prog X.w) A (setItem (.ref a) u r) Q E s:=by
 rcases g with⟨kvs,k,e,ey,l,eH⟩ |⟨kvs,k,b,e,ey,eb,l,eH⟩
 ·subst ey eH;obtain⟨z,hd,vs,rel,dd⟩:=dk_of I.hok e;have hz:vs.length<=sizeLine:=by rw[<-rel.length];exact z
  have hl:(putK kvs k v).length<=sizeLine:=by have:=length_putK kvs k v;exact z0b this l
  refine wpAny_setItem_pairs (hsz:=hz) (kV_is ry) dd λ h' dd' hs=>h _ ?_;have he:∃q,h'.get? a=some q:=let ⟨q,_,_,hq,_⟩:=dd';⟨q,hq⟩
  exact d_write I (by rw[e];exact True.intro) hs he (dk_new hl hd (rel.put k rv) dd')
 ·subst ey eH;cases (show u=Value.ref b from ry);obtain⟨z,hd,xs,rel,dd⟩:=dt_of I.hok e;have hz:xs.length<=sizeLine:=by rw[<-Paired.length rel];exact z
  have hl:(putK kvs k v).length<=sizeLine:=by have:=length_putK kvs k v;exact z0b this l
  refine wpAny_setItem_heap (hsz:=hz) (tupleKind_room_in1 hu) (key_of I.hok eb) dd λ h' dd' hs=>h _ ?_;obtain⟨q,es,ep,hq,h2,h3,h4,_,h5⟩:=dd';refine d_write I (by rw[e];exact True.intro) hs ⟨q,hq⟩ ⟨hl,hd,_,(rel.put k eb rv).keeps λ c ys ec=>?_,q,es,ep,hq,h2,h3,h4,h5⟩;rw[upd_ne (ne_of ec e (λ z=>nomatch z))];exact ec
end
section
variable {X:Cx} {pins:List (Addr×Obj)} {σ:St} {H:Hp} {s:Shared} {a:Addr} {kvs:List (Key×V)} {k:Key} {u:Value} {A:Around} {E:Value->Shared->Prop}
end
noncomputable def NoSl (i:Expr):Prop:=∀ov iv,subscripted i false ov iv=operate [ov,iv] (getItem ov iv)
theorem subD_of {prog:Program} {w:World} {A:Around} {E:Value->Shared->Prop} {s:Shared} {env:Env} {value slice:Expr} {pos:Pos} {T id:String} {Q:Value->Shared->Prop}
  (hl:typeLookup (.type T) "__getitem__" =pure (some (.builtin id))) (hs:NoSl slice)
  (h:wpAny (model prog w) A (eval value env) (λ o s₁=>wpAny (model prog w) A (eval slice env) (λ i s₂=>s₂.TypeIs o T/\wpAny (model prog w) A (getItem o i) Q E s₂) E s₁) E s):
  wpAny (model prog w) A (eval (.Subscript value slice pos) env) Q E s:=by
 refine Subscript_ (wpAny_mono h (λ o s₁ h₁=>wpAny_mono h₁ (λ i s₂ h₂=>?_) λ _u _u x=>x) λ _u _u x=>x);obtain⟨hT,h₂⟩:=h₂;unfold subscriptTail;refine wpAny_bind ?_;rw[getitemInPython_of_ne hT.not_modules];refine wpAny_bind (wpAny_specialOf hT hl ?_);have fin:wpAny (model prog w) A (subscripted slice false o i) (λ r s₃=>wpAny (model prog w) A (letTemporaryGo value o r >>=λ _u=>pure r) Q E s₃) E s₂:=by
  rw[hs o i];exact wpAny_operating (wpAny_mono h₂ (λ r s₃ h₃=>wpAny_bind (wpAny_letTemporaryGo (wpAny_pure h₃))) λ _u _u x=>x)
 first
  |exact wpAny_pure (wpAny_bind fin)
  |exact wpAny_bind (wpAny_pure (wpAny_bind fin))
  |exact wpAny_bind fin
theorem dict_typeIs {X:Cx} {pins:List (Addr×Obj)} {σ:St} {H:Hp} {s:Shared} {a:Addr} {y:V} {o:Option V} (I:Inv X pins σ H s) (g:DGet H a y o):s.TypeIs (.ref a) "dict" :=by
 rcases g with⟨kvs,k,e,_,_⟩ |⟨kvs,k,b,e,_,_,_⟩
 ·obtain⟨_,_,vs,_,dd⟩:=dk_rd I.hok e;exact dd.typeIs
 ·obtain⟨_,_,xs,_,dd⟩:=dt_rd I.hok e;exact dd.typeIs
noncomputable def tDGet (td ty:TE):TE:=λ σ H Q=>td σ H λ x H1=>ty σ H1 λ y H2=>∃a v,x= .ref a/\DGet H2 a y (some v)/\Q v H2
noncomputable def sDPut (td ty tv:TE):TS:=λ D σ H=>tv σ H λ v H1=>td σ H1 λ x H2=>ty σ H2 λ y H3=>∃a H4,x= .ref a/\DPut H3 a y v H4/\D.nx σ H4
section
variable {X:Cx} {o i e value:Expr} {pos pos' tpos:Pos} {td ty tv:TE}
theorem pe_dget (hu:X.A.units+1 < cLine) (ho:PE X o td) (hi:PE X i ty) (hs:NoSl i):PE X (.Subscript o i pos) (tDGet td ty):=by
 intro pins s σ H Q I h;refine subD_of PySem.F.slot_dict_getitem.lookup hs (thn (ho pins s σ H _ I h) λ u s1 ⟨x,H1,I1,rx,q1⟩=>thn (hi pins s1 σ H1 _ I1 q1) λ iv s2 bh=>?_);obtain⟨y,H2,I2,ry,a,v,ex,g,q2⟩:=bh;subst ex;obtain rfl:u=Value.ref a:=rx;exact⟨dict_typeIs I2 g,d_getItem hu I2 g ry λ w' s3 I3 rw'=>⟨v,H2,I3,rw',q2⟩⟩
theorem ps_dput (hu:X.A.units+1 < cLine) (ho:PE X o td) (hi:PE X i ty) (hv:PE X value tv) (hs:swapsWith value (some (.Subscript o i pos')) pos.line X.env=pure false):
  PS X (.Assign [.Subscript o i pos'] value pos) (sDPut td ty tv):=by
 intro pins s σ H D I h;refine wpAny_Assign_Subscript (thn (hv pins s σ H _ I h) λ r s1 ⟨v,H1,I1,rv,q1⟩=>thn (ho pins s1 σ H1 _ I1 q1) λ u s2 ⟨x,H2,I2,rx,q2⟩=>thn (hi pins s2 σ H2 _ I2 q2) λ iv s3 ⟨y,H3,I3,ry,a,H4,ex,g,q3⟩=>?_) hs;subst ex;obtain rfl:u=Value.ref a:=rx;exact d_setItem hu I3 g ry rv λ s4 I4=>⟨σ,H4,I4,q3⟩
end
theorem dt_empty {P:Program} {w:World} {H:Hp} (h:Heap) (hb:sysModules < h.objs.size):ObjOk P w H (h.push {cls:= .type "dict",data:= .dict #[]}) h.objs.size (.dT []):=
 ⟨Nat.zero_le _,beq_eq_false_iff_ne.mpr (Ne.symm (Nat.ne_of_lt hb)),[],.nil,_,#[],0,z1f _ rfl,⟨rfl,rfl,rfl⟩,rfl,rfl,List.nodup_nil⟩
section
variable {X:Cx} {pos:Pos}
end
structure M2 (X:Cx) (o:Expr) (m:Str) (apos:Pos) (e f:Expr) (cpos:Pos):Prop where
 base:attributeBase o m X.env (eval o X.env)=eval o X.env
 few:((backTo cpos (starEach [e,f] X.env)).all (λ x=> !x.1) && (backToKw cpos (keywordEach [] X.env)).all (λ x=>x.1.isSome)
  && decide (([e,f]:List Expr).length+([]:List Keyword).length+(if ([]:List Keyword).isEmpty then 0 else 1) < 30))=true
 line:(apos.endLine ==cpos.line)=true
 trees:backTo cpos (starEach [e,f] X.env)=[(false,eval e X.env),(false,eval f X.env)]
noncomputable def IsD (H:Hp) (a:Addr):Prop:=(∃kvs,Rd H a (.dK kvs))\/∃kvs,Rd H a (.dT kvs)
theorem isD_at {X:Cx} {pins:List (Addr×Obj)} {σ:St} {H:Hp} {s:Shared} {a:Addr} (I:Inv X pins σ H s) (d:IsD H a):
  s.TypeIs (.ref a) "dict"/\(∀b,Value.ref a= .ref b->∃ob,s.heap.get? b=some ob/\ob.dict=none)/\(a ==sysModules)=false:=by
 rcases d with⟨kvs,e⟩ |⟨kvs,e⟩
 ·obtain⟨_,hd,vs,_,dd⟩:=dk_rd I.hok e;refine⟨dd.typeIs,λ b q=>?_,hd⟩;cases q;obtain⟨ob,_,_,h1,h2,_⟩:=dd;exact⟨ob,h1,h2.2.1⟩
 ·obtain⟨_,hd,xs,_,dd⟩:=dt_rd I.hok e;refine⟨dd.typeIs,λ b q=>?_,hd⟩;cases q;obtain⟨ob,_,_,h1,h2,_⟩:=dd;exact⟨ob,h1,h2.2.1⟩
section
variable {X:Cx} {pins:List (Addr×Obj)} {σ:St} {H:Hp} {s:Shared} {a:Addr} {y d:V} {u r:Value} {o:Option V} {A:Around} {E:Value->Shared->Prop}
theorem d_get2 {Q:Value->Shared->Prop} (hu:A.units+1 < cLine) (I:Inv X pins σ H s) (g:DGet H a y o) (ry:RelV y u) (rd:RelV d r) (h:∀w' s',Inv X pins σ H s'->RelV (o.getD d) w'->Q w' s'):
  wpAny (model X.prog X.w) A (call (.builtin "dict.get") [.ref a,u,r]) Q E s:=by
 rcases g with⟨kvs,k,e,ey,l⟩ |⟨kvs,k,b,e,ey,eb,l⟩
 ·subst ey;obtain⟨z,hd,vs,rel,dd⟩:=dk_rd I.hok e;refine call_meetsIn PySem.F.slot_dict_get dd.typeIs PySem.F.entry_dict_get (PySem.F.args_dict_get_3 _ _ _) (meets_dict_get_default (mixKind X.prog X.w) a (kV_is ry) hd r) ⟨_,dd.mapOf,h _ _ (I.tok _) ?_⟩;rw[l];exact (rel.val k).getD rd
 ·subst ey;cases (show u=Value.ref b from ry);obtain⟨z,hd,xs,rel,dd⟩:=dt_rd I.hok e;refine call_meetsIn PySem.F.slot_dict_get dd.typeIs PySem.F.entry_dict_get (PySem.F.args_dict_get_3 _ _ _) (meetsH_dict_get_default (tupleKind (mixKind X.prog X.w)) a b hd r) ⟨tupleKind_room_in1 hu,k,xs,key_of I.hok eb,dd,h _ _ (I.tok _) ?_⟩;rw[l];exact (rel.val k).getD rd
end
noncomputable def tDGet2 (td ty tx:TE):TE:=λ σ H Q=>td σ H λ x H1=>∃a,x= .ref a/\IsD H1 a/\ty σ H1 λ y H2=>tx σ H2 λ z H3=>∃o,DGet H3 a y o/\Q (o.getD z) H3
section
variable {X:Cx} {o e f:Expr} {apos cpos:Pos} {td ty tx:TE}
theorem pe_dget2 (hu:X.A.units+1 < cLine) (ho:PE X o td) (he:PE X e ty) (hf:PE X f tx) (m:M2 X o "get" apos e f cpos):PE X (.Call (.Attribute o "get" apos) [e,f] [] cpos) (tDGet2 td ty tx):=by
 intro pins s σ H Q I h;refine wpAny_Call_method m.base m.few m.line PySem.F.plainAttrs_dict PySem.F.slot_dict_get PySem.F.type_dict_get (thn (ho pins s σ H _ I h) λ u s1 bh=>?_);obtain⟨x,H1,I1,rx,a,ex,d,q1⟩:=bh;subst ex;obtain rfl:u=Value.ref a:=rx;obtain⟨t1,t2,_⟩:=isD_at I1 d;refine⟨t1,t2,?_⟩;rw[m.trees];refine Calls.callWith_builtin rfl (Calls.evalArgs_plain (Calls.spliced_cons (thn (he pins s1 σ H1 _ I1 q1) λ iv s2 ⟨y,H2,I2,ry,q2⟩=>
  Calls.spliced_cons (thn (hf pins s2 σ H2 _ I2 q2) λ fv s3 ⟨z,H3,I3,rz,ov,g,q3⟩=>Calls.spliced_nil ?_))))
 exact d_get2 hu I3 g ry rz λ w' s4 I4 rw'=>⟨_,H3,I4,rw',q3⟩
end
section
variable {X:Cx} {pins:List (Addr×Obj)} {σ:St} {H:Hp} {s:Shared} {a:Addr} {kvs:List (Key×V)} {A:Around} {E:Value->Shared->Prop}
end
section
variable {X:Cx} {pins:List (Addr×Obj)} {σ:St} {H:Hp} {s:Shared} {a:Addr} {y:V} {u:Value} {A:Around} {E:Value->Shared->Prop}
end
end L2
namespace Att
open PySem PySem.W PySem.Calls PyProof.Rows
theorem ints_of_wellAll {P:Params} {h:Heap}:∀(ns:List Int) (vs:List Value),WellAll P h vs (ns.map WData.int)->IntsAre vs ns:=by
 intro ns
 induction ns with
 | nil=>
  intro vs w;rw[List.map_nil] at w;cases w;exact .nil
 | cons n ns ih=>
  intro vs w;rw[z1h] at w;cases w with
  | cons a b=>
   cases a;exact .cons _ _ (ih _ b)
theorem script_of {l:OpenLaw} {n:Nat} (hn:l.most=some n) {P:Params} {h:Heap} {args:List WData} {vals:List Value}
  (hpre:l.row.toRowW.claim.pre args=true) (hwl:WellAll P h vals args):
  ∃a vs ns,vals=[Value.ref a]/\args=[WData.list (ns.map WData.int)]/\h.get? a=some {cls:= .type "list",data:= .seq vs.toArray}/\IntsAre vs ns/\ns.length<=n:=by
 have hsh:WShape.hasAll [] args [.list .int]=true:=(pre_splitW hpre).1;have hc:l.pre.holds [] {args:=args}=true:=(pre_splitW hpre).2;obtain⟨d,r,rfl,h1,h2⟩:=hasAllW_cons hsh;obtain rfl:=hasAllW_nil h2;obtain⟨xs,rfl,h3⟩:=hasW_list h1;obtain⟨ns,rfl⟩:=items_int h3;have hlen:ns.length<=n:=by
  unfold OpenLaw.pre at hc;have h4:(WTm.not (.lt (.lit (.int (n:Int))) (.len (.arg 0)))).holds [] {args:=[.list (ns.map .int)]}=true:=by
   have h4:=(holds_andW hc).1;rw[hn] at h4;exact h4
  have h5:=condW_of h4 (w_not (w_lt w_lit (w_len_list (w_arg rfl))));rw[z1g] at h5;refine Nat.le_of_not_lt λ q=>?_;have q':(n:Int) < ((ns.length:Nat):Int):=by exact Int.ofNat_lt.mpr q
  first
   |(rw[decide_eq_true q'] at h5;exact absurd h5 (by decide))
   |(simp at h5;omega)
 cases hwl with
 | cons w1 w2=>
  cases w2;cases w1 with
  |list ho hall=>exact⟨_,_,ns,rfl,rfl,ho,ints_of_wellAll ns _ hall,hlen⟩
theorem post_true (l:OpenLaw) (args:List WData):l.row.toRowW.claim.post args (.bool true) args=true:=
 postW_of (r:=l.row.toRowW) (X:=(true ==true))
  (show WShape.has [] (.bool true) .bool=true by first |rfl |decide |simp [WShape.has,WShape.arms,WShape.armsAll])
  (show (WTm.eq .res (.lit (.bool true))).value [] {args:=args,res:=some (.bool true),after:=args}=some (.bool (true ==true)) from w_eq_bool (w_res rfl) w_lit) rfl
theorem attach_call {l:OpenLaw} {n:Nat} {q:Program} {loose:List Str} {XP:(Str->Option Value)->Heap->Prop} {YP:World->Heap->Prop} {d:DefRec}
  (hn:l.most=some n) (hdf:d.params.defaults=[])
  (call:∀(w:World) (s₀ s₁:Shared) (mg mb:Str->Option Value) (fa:Addr) (o:Obj) (pm cd doc:Value) (a:Addr) (vs:List Value) (ns:List Int),
   Ground q loose [] XP w s₀ mg mb s₁.heap->YP w s₁.heap->
   s₁.heap.get? fa=some o->o.data= .func (docDef d.name d.params d.body d.scope pm cd doc)->s₁.heap.CodeRec cd d.name->mg d.name=some (.ref fa)->
   s₁.heap.get? a=some {cls:= .type "list",data:= .seq vs.toArray}->IntsAre vs ns->ns.length<=n->s₁.gens= #[]->
   codeAny (model l.prog w) callerA (.call (.ref fa) ⟨[.ref a],[]⟩) (λ r s'=>r= .ok (.ret (.bool true))/\OldK s₁.heap s'.heap/\s'.os=s₁.os/\AllBare s'.gens) s₁):
  WalkO q loose XP YP l.row.toRowW d [] (λ f vs=>PySem.call f vs):=by
 intro w s₀ s₁ mg mb G Y fa o pm cd doc dV kV ho hd hcd hD hmg hg args vals as hpre hlay hrd hwl hlo;obtain rfl:dV= .none:=Dflts.none hD hdf;obtain rfl:kV= .none:=Dflts.noKw hD;obtain⟨a,vs,ns,rfl,rfl,hobj,hints,hlen⟩:=script_of hn hpre hwl;refine enter_call (codeAny_mono (call w s₀ s₁ mg mb fa o pm cd doc a vs ns G Y ho (fd_plain hd) hcd hmg hobj hints hlen hg) λ r s' hq=>?_);obtain⟨rfl,h2,h3,h4⟩:=hq;exact⟨.inl ⟨.bool true,.bool true,[],rfl,λ _u=>rfl,.bool true,post_true l _,λ _u=>⟨List.Pairwise.nil,λ _u hm=>(nomatch hm)⟩⟩,h2,h3,h4⟩
section
variable {prog:Program} {w:World} {A:Around} {E:Value->Shared->Prop} {s:Shared} {K:Frag}
end
end Att
namespace L2
open PySem PySem.Spec PyProof.Rows
theorem vals_ints:∀{vs:List Value} {ns:List Int},IntsAre vs ns->Vals (ns.map V.int) vs
 :=by
 intro vs ns h
 induction h with
 |nil=>exact .nil
 |cons n t h ih=>exact .cons ⟨t,rfl⟩ ih
noncomputable def Only (H:Hp):Prop:=∀b,H b=none\/∃o xs,H b=some (.frz o (.lst xs))
theorem law_call {P:Program} {w:World} {K:PySem.W.Frag} {mg mb:Str->Option Value} {CX:CXT} {k:Nat} {fa a:Addr} {fd:FuncData} {x:Str} {sp:Sp} {s₁:Shared} {vs:List Value} {ns:List Int}
  (KX:K.In s₁.heap) (hns:s₁.heap.Ns mainGlobals mg) (hb:s₁.heap.Ns builtinsNs mb) (hbb:∀x:Str,x≠"__name__"->mb x=bootBuiltins x) (hlim:s₁.heap.NoLimit) (hg:s₁.gens= #[])
  (ha:s₁.heap.get? a=some {cls:= .type "list",data:= .seq vs.toArray}) (hi:IntsAre vs ns) (hl:ns.length<=sizeLine) (hr:Room k callerA)
  (F:∀base:Heap,K.In base->base.Ns mainGlobals mg->FnOk P w K mg base CX k fa fd [x] sp) (hbind:∀(s:Shared) (u:Value),BindsTo s fd ⟨[u],[]⟩ [(x,u)])
  (hsp:∀H:Hp,Only H->SqL K H a (ns.map V.int)->sp [.ref a] H (λ v _u=>v= .bl true) λ _u _u _u=>False)
  (hCX:∀H e s',CX [] H s₁ (λ _u _u _u=>False) e s'->False):
  codeAny (model P w) callerA (.call (.ref fa) ⟨[.ref a],[]⟩) (λ r s'=>r= .ok (.ret (.bool true))/\OldK s₁.heap s'.heap/\s'.os=s₁.os/\AllBare s'.gens) s₁:=by
 have rv:=vals_ints hi;have lenV:=hi.length;have core :∀H:Hp,Only H->SqL K H a (ns.map V.int)->HOk P w H s₁.heap->(∀b,H b≠none->b=a)->(H a≠none->K.lookup a=none)->
   codeAny (model P w) callerA (.call (.ref fa) ⟨[.ref a],[]⟩) (λ r s'=>r= .ok (.ret (.bool true))/\OldK s₁.heap s'.heap/\s'.os=s₁.os/\AllBare s'.gens) s₁:=by
  intro H hO hS hok hA hK;have base_of:∀{b:Addr} {o:Obj},s₁.heap.get? b=some o->H b=none->(hidT s₁.heap H).get? b=some o:=λ e n=>hidT_get e n;have noA:∀{b:Addr} {o:Obj} {es:Array DictEntry} {ep:Nat},s₁.heap.get? b=some o->o.data= .dict es ep->H b=none:=λ {b o es ep} e d=>by
   cases q:H b with
   |none=>rfl
   | some u=>
    have e':b=a:=hA b (by rw[q];simp);subst e';rw[ha] at e;cases e;have d':Data.seq vs.toArray _=Data.dict es ep:=d;cases d'
  have nsK:∀{b:Addr} {m:Str->Option Value},s₁.heap.Ns b m->(hidT s₁.heap H).Ns b m:=λ {b m} ⟨o,es,ep,e,d,r⟩=>⟨o,es,ep,base_of e (noA e d),d,r⟩;have hKb:K.In (hidT s₁.heap H):=λ b o e=>base_of (KX b o e) (by
   cases q:H b with
   |none=>rfl
   | some u=>
    have e':b=a:=hA b (by rw[q];simp);subst e';rw[hK (by rw[q];simp)] at e;cases e)
  have hM:Mod K mg (hidT s₁.heap H):=⟨hKb,nsK hns,⟨mb,nsK hb,hbb⟩,let ⟨mc,h1,h2⟩:=hlim;⟨mc,nsK h1,h2⟩⟩;have e0:Env0 P w K mg (hidT s₁.heap H) callerA [] s₁ H:=⟨rfl,hM,λ b o e=>of_hidT e,z0f (hidT_size _ _),trivial,λ b hb=>absurd (show b∈([]:List Addr) from hb) (by simp),hok,.of_eq hg⟩;refine codeAny_mono ((F _ hKb (nsK hns)).run callerA [] s₁ H ⟨[.ref a],[]⟩ [.ref a] [.ref a] _ _ hr e0 (hbind s₁ (.ref a)) (.cons rfl .nil) (hsp H hO hS)) λ r s' h=>?_;cases r with
  |error e=>exact (hCX H e s' h).elim
  | ok fl =>
   cases fl with
   |next=>exact False.elim h
   |brk=>exact False.elim h
   |cont=>exact False.elim h
   | ret u=>
    obtain⟨v,H',os,bare,un,hok',r',q⟩:=h;have q':v= .bl true:=q;subst q';obtain rfl:u=Value.bool true:=r';refine⟨rfl,OldK.of_keep λ b o e=>?_,os,bare⟩;cases q:H b with
    |none=>exact un.keep b o e q (by intro z;exact absurd (show b∈([]:List Addr) from z) (by simp)) (by simp)
    | some u=>
     rcases hO b with z |⟨ob,xs,z⟩
     ·rw[q] at z;cases z
     ·have z2:=un.frzs b ob _ z;obtain⟨e1,_⟩:=hok b _ z;obtain⟨e2,_⟩:=hok' b _ z2;rw[e] at e1;cases e1;exact e2
 cases hk:K.lookup a with
 | some o=>
  have e:=KX a o hk;rw[ha] at e;cases e;refine core (λ _u=>none) (λ _u=> .inl rfl) (.inr ⟨_,vs.toArray,_,hk,rfl,rfl,rfl,by rw[z1c,lenV];exact hl,by simpa using rv⟩) (λ b u z=>by have z':(none:Option HO)=some u:=z;cases z') (λ b z=>absurd rfl z) λ z=>absurd rfl z
 | none=>
  refine core (λ b=>if b=a then some (.frz {cls:= .type "list",data:= .seq vs.toArray} (.lst (ns.map V.int))) else none) (λ b=>?_) (.inl (.inr ⟨{cls:= .type "list",data:= .seq vs.toArray},if_pos rfl⟩)) (λ b u z=>?_) (λ b z=>?_) λ _u=>hk
  ·by_cases hb:b=a
   ·exact .inr ⟨_,_,if_pos hb⟩
   ·exact .inl (if_neg hb)
  ·by_cases hb:b=a
   ·have z':=(if_pos hb).symm.trans z;cases z';subst hb;exact⟨ha,by rw[z1g];exact hl,vs,_,rv,ha⟩
   ·have z':=(if_neg hb).symm.trans z;cases z'
  ·by_cases hb:b=a
   ·exact hb
   ·exact absurd (if_neg hb) z
theorem walk_of {l:PySem.W.OpenLaw} {n k:Nat} {q:Program} {loose:List Str} {XP:(Str->Option Value)->Heap->Prop} {YP:World->Heap->Prop} {d:DefRec} {K:Params->PySem.W.Frag} {CX:World->CXT} {sp:World->Sp} {x:Str}
  (hn:l.most=some n) (hn2:n<=sizeLine) (hdf:d.params.defaults=[]) (hr:Room k callerA)
  (hY:∀(w:World) (h:Heap),YP w h->(K w.params).In h)
  (F:∀(w:World) (mg:Str->Option Value) (fa:Addr) (h:Heap),(K w.params).In h->h.Ns mainGlobals mg->mg d.name=some (.ref fa)->
   ∃ fd:FuncData,(∀(s:Shared) (u:Value),BindsTo s fd ⟨[u],[]⟩ [(x,u)])/\
    ∀base:Heap,(K w.params).In base->base.Ns mainGlobals mg->FnOk l.prog w (K w.params) mg base (CX w) k fa fd [x] (sp w))
  (hsp:∀(w:World) (H:Hp) (a:Addr) (ns:List Int),ns.length<=n->Only H->SqL (K w.params) H a (ns.map V.int)->sp w [.ref a] H (λ v _u=>v= .bl true) λ _u _u _u=>False)
  (hCX:∀(w:World) (H:Hp) (s:Shared) (e:Value) (s':Shared),CX w [] H s (λ _u _u _u=>False) e s'->False):
  PySem.W.WalkO q loose XP YP l.row.toRowW d [] (λ f vs=>PySem.call f vs):=by
 refine Att.attach_call hn hdf λ w s₀ s₁ mg mb fa o pm cd doc a vs ns G Y ho hd hcd hmg hobj hints hlen hg=>?_;have KX:=hY w _ Y;obtain⟨fd,hb,hF⟩:=F w mg fa _ KX G.T.g hmg;exact law_call KX G.T.g G.T.b G.T.builtins G.T.nolimit hg hobj hints (z0b hlen hn2) hr hF hb (λ H hO hS=>hsp w H a ns hlen hO hS) λ H e s'=>hCX w H s₁ e s'
noncomputable def defArgs (s:Stmt):Arguments:=match s with
 | .FunctionDef _ a _ _ _ _ _ _ _ _=>a
 |_=>{posonlyargs:=[],args:=[],vararg:=none,kwonlyargs:=[],kw_defaults:=[],kwarg:=none,defaults:=[]}
noncomputable def defBody (s:Stmt):List Stmt:=match s with
 | .FunctionDef _ _ b _ _ _ _ _ _ _=>b
 |_=>[]
noncomputable def defScope (s:Stmt):Scope:=match s with
 | .FunctionDef _ _ _ _ _ _ sc _ _ _=>sc
 |_=>{kind:= .function,names:=[],isGenerator:=false,isCoroutine:=false}
noncomputable abbrev CX0:CXT:=λ _u _u _u _u _u _u=>False
noncomputable abbrev E0:XK:=λ _u _u _u=>False
theorem pass0 {X:Cx}:Passes CX0 X E0:=λ _u _u _u _u _u _u _u h=>h.elim
inductive aes (K:PySem.W.Frag) (x qual:Str) (st:Stmt) (f:Addr) (fd:FuncData):Prop
 |mk (oc:Value) (od:Option Addr) (kV doc pm:Value) (an:Option Addr) (cdv ct:Value) (osl:Array (Option Value)) (e:fd=PySem.W.fnOf x qual (defArgs st) (defBody st) (defScope st) .none kV doc pm an cdv ct) (lk:K.lookup f=some ⟨oc,od,.func fd,osl⟩) (hcd:PySem.W.codeIn K cdv qual=true):aes K x qual st f fd
structure Fun (K:PySem.W.Frag) (x qual:Str) (st:Stmt) (f:Addr) (fd:FuncData):Prop where
 ex:aes K x qual st f fd
 kp:PySem.W.keepIn K (.ref f)=true
section
variable {P:Program} {w:World} {K:PySem.W.Frag} {mg:Str->Option Value} {base:Heap}
theorem Fun.ok {x qual:Str} {st:Stmt} {f:Addr} {fd:FuncData} {N ps:List Str} {k:Nat} {sp:Sp} (F:Fun K x qual st f fd) (S:FnScope N ps (defScope st)) (len:∀vs H Q E,sp vs H Q E->vs.length=ps.length)
  (hbody:∀(cdv:Value) (A:Around) (outer:List Env) (s:Shared) (H:Hp) (vs:List V) (Q:VK) (E:XK),Room k (A.deeper (envOfC qual (defScope st) s.heap.objs.size f cdv))->sp vs H Q E->
   ∃t,PSs (cxOf CX0 P w K mg base N qual (defScope st) f cdv A outer s H E).nox (defBody st) t/\t {nx:=λ _u H'=>Q .non H',rt:=Q} (start N vs) H):FnOk P w K mg base CX0 (k+1) f fd ps sp:=by
 obtain⟨oc,od,kV,doc,pm,an,cdv,ct,osl,rfl,lk,hcd⟩:=F.ex;refine fn_of lk hcd S len λ A outer s H vs Q E hr hsp=>?_;obtain⟨t,h,q⟩:=hbody cdv A outer s H vs Q E hr hsp;exact⟨t,h.nox,q⟩
theorem Fun.binds {x qual:Str} {st:Stmt} {f:Addr} {fd:FuncData} {ps:List Str} (F:Fun K x qual st f fd)
  (h:∀(kV doc pm:Value) (an:Option Addr) (cdv ct:Value) (us:List Value),us.length=ps.length->bindArgs (PySem.W.fnOf x qual (defArgs st) (defBody st) (defScope st) .none kV doc pm an cdv ct) ⟨us,[]⟩=pure (ps.zip us)):Binds K fd ps []:=by
 obtain⟨oc,od,kV,doc,pm,an,cdv,ct,osl,rfl,lk,hcd⟩:=F.ex;exact .all (h kV doc pm an cdv ct)
theorem fun_mk {x qual:Str} {st:Stmt} {f:Addr} {oc:Value} {od an:Option Addr} {osl:Array (Option Value)} {kV doc pm cdv ct:Value} (l:K.lookup f=some ⟨oc,od,.func (PySem.W.fnOf x qual (defArgs st) (defBody st) (defScope st) .none kV doc pm an cdv ct),osl⟩)
  (c:PySem.W.codeIn K cdv qual=true) (k:PySem.W.keepIn K (.ref f)=true):Fun K x qual st f (PySem.W.fnOf x qual (defArgs st) (defBody st) (defScope st) .none kV doc pm an cdv ct):=⟨⟨oc,od,kV,doc,pm,an,cdv,ct,osl,rfl,l,c⟩,k⟩
end
theorem hu_of {A:Around} {k:Nat} (hr:Room k A):A.units+1 < cLine:=z0c (Nat.add_le_add_left (by decide:1<=64) _) hr.units
section
variable {X:Cx}
end
noncomputable def Same (H H':Hp):Prop:=∀b o,H b=some o->H' b=some o
theorem Same.refl (H:Hp):Same H H:=λ _u _u h=>h
theorem Same.trans {H H1 H2:Hp} (a:Same H H1) (b:Same H1 H2):Same H H2:=λ c o h=>b c o (a c o h)
theorem Same.free {H H':Hp} (e:Same H H') {l:Addr} (h:H' l=Option.none):H l=Option.none:=by
 cases q:H l with
 |none=>rfl
 | some o=>
  rw[e l o q] at h;cases h
section
variable {κ:Type} [DecidableEq κ]
end
end L2
namespace Pu
open PySem PySem.Spec L2
open PyProof.Rows hiding St
set_option genInjectivity true in
inductive D where
 |non |bl (b:Bool) |int (i:Int) |str (x:Str) |tup (xs:List D) |lst (xs:List D)
set_option genInjectivity true in
inductive R (α:Type) where
 |bad |ok (a:α) |err (c:Str)
namespace R
noncomputable def bind {α β:Type} (r:R α) (k:α->R β):R β:=match r with
 | .ok a=>k a
 | .err c=> .err c
 | .bad=> .bad
@[simp] theorem aX {α β:Type} (a:α) (k:α->R β):(R.ok a).bind k=k a:=rfl
end R
noncomputable def zH:List D->Bool
 |[.int _]=>true
 | .int _::d::r=>zH (d::r)
 |_=>false
mutual
noncomputable def Rep (K:PySem.W.Frag) (O:Addr->Prop) (H:Hp):D->V->Prop
 | .non,v=>v= .non
 | .bl b,v=>v= .bl b
 | .int i,v=>v= .int i
 | .str x,v=>v= .str x
 | .tup ds,v=>∃a xs,v= .ref a/\SqT K H a xs/\(zH ds=true->H a=some (.tup xs))/\aK K O H ds xs
 | .lst ds,v=>∃a xs,v= .ref a/\SqL K H a xs/\¬O a/\aK K O H ds xs
noncomputable def aK (K:PySem.W.Frag) (O:Addr->Prop) (H:Hp):List D->List V->Prop
 |[],xs=>xs=[]
 |d::ds,xs=>∃x r,xs=x::r/\Rep K O H d x/\aK K O H ds r
end
structure Ext (O:Addr->Prop) (H H':Hp):Prop where
 tup:∀b xs,Rd H b (.tup xs)->Rd H' b (.tup xs)
 lst:∀b xs,¬O b->Rd H b (.lst xs)->Rd H' b (.lst xs)
 tps:∀b xs,H b=some (.tup xs)->H' b=some (.tup xs)
 dts:∀b o kvs,H b=some (.frz o (.dT kvs))->H' b=some (.frz o (.dT kvs))
section
variable {K:PySem.W.Frag} {O O':Addr->Prop} {H H':Hp}
theorem SqL.ext (e:Ext O H H') {a:Addr} {xs:List V} (n:¬O a) (h:SqL K H a xs):SqL K H' a xs:=by
 rcases h with h |h
 ·exact .inl (e.lst _ _ n h)
 ·exact .inr h
theorem SqT.ext (e:Ext O H H') {a:Addr} {xs:List V} (h:SqT K H a xs):SqT K H' a xs:=by
 rcases h with h |h
 ·exact .inl (e.tup _ _ h)
 ·exact .inr h
mutual
theorem Rep.ext (e:Ext O H H') (o:∀b xs,¬O b->SqL K H b xs->¬O' b):∀(d:D) (v:V),Rep K O H d v->Rep K O' H' d v
 | .non,_,h=>by simpa only[Rep] using h
 | .bl _,_,h=>by simpa only[Rep] using h
 | .int _,_,h=>by simpa only[Rep] using h
 | .str _,_,h=>by simpa only[Rep] using h
 | .tup ds,v,h=>by
  simp only[Rep] at h |-;obtain⟨a,xs,e1,h1,h3,h2⟩:=h;exact⟨a,xs,e1,SqT.ext e h1,λ z=>e.tps _ _ (h3 z),aK.ext e o ds xs h2⟩
 | .lst ds,v,h=>by
  simp only[Rep] at h |-;obtain⟨a,xs,e1,h1,h2,h3⟩:=h;exact⟨a,xs,e1,SqL.ext e h2 h1,o _ _ h2 h1,aK.ext e o ds xs h3⟩
theorem aK.ext (e:Ext O H H') (o:∀b xs,¬O b->SqL K H b xs->¬O' b):∀(ds:List D) (xs:List V),aK K O H ds xs->aK K O' H' ds xs
 |[],xs,h=>by simpa only[aK] using h
 | d::ds,xs,h=>by
  simp only[aK] at h |-;obtain⟨x,r,e1,h1,h2⟩:=h;exact⟨x,r,e1,Rep.ext e o d x h1,aK.ext e o ds r h2⟩
end
end
structure d7 (K:PySem.W.Frag) (O:Addr->Prop) (H:Hp) (O':Addr->Prop) (H':Hp):Prop where
 ext:Ext O H H'
 new:∀a,O' a->O a\/(H a=none/\K.lookup a=none)
 dom:∀a,H' a=none->H a=none
section
variable {K:PySem.W.Frag} {O O1 O2:Addr->Prop} {H H1 H2:Hp}
theorem Rd.some {a:Addr} {u:HO} (h:Rd H a u):H a≠none:=by
 rcases h with h |⟨o,h⟩ <;> rw[h] <;> simp
theorem d7.out (r:d7 K O H O1 H1) (b:Addr) (xs:List V) (n:¬O b) (h:SqL K H b xs):¬O1 b:=λ z=>by
 rcases r.new b z with z |⟨z1,z2⟩
 ·exact n z
 ·rcases h with h |⟨o,_,_,h,_⟩
  ·exact Rd.some h z1
  ·rw[z2] at h;cases h
theorem d7.refl:d7 K O H O H:=⟨⟨λ _u _u h=>h,λ _u _u _u h=>h,λ _u _u h=>h,λ _u _u _u h=>h⟩,λ _u h=> .inl h,λ _u h=>h⟩
theorem d7.trans (r:d7 K O H O1 H1) (q:d7 K O1 H1 O2 H2):d7 K O H O2 H2 where
 ext:=⟨λ b xs h=>q.ext.tup b xs (r.ext.tup b xs h),λ b xs n h=>q.ext.lst b xs (r.out b xs n (.inl h)) (r.ext.lst b xs n h),λ b xs h=>q.ext.tps b xs (r.ext.tps b xs h),λ b o k h=>q.ext.dts b o k (r.ext.dts b o k h)⟩
 new:=λ a z=>(q.new a z).elim (r.new a) λ w=> .inr ⟨r.dom a w.1,w.2⟩
 dom:=λ a z=>r.dom a (q.dom a z)
theorem Same.rd (s:Same H H1) {a:Addr} {u:HO} (h:Rd H a u):Rd H1 a u:=by
 rcases h with h |⟨o,h⟩
 ·exact .inl (s _ _ h)
 ·exact .inr ⟨o,s _ _ h⟩
theorem Same.cZ (s:Same H H1):d7 K O H O H1:=⟨⟨λ _u _u h=>Same.rd s h,λ _u _u _u h=>Same.rd s h,λ _u _u h=>s _ _ h,λ _u _u _u h=>s _ _ h⟩,λ _u h=> .inl h,λ _u h=>s.free h⟩
theorem Rep.go (r:d7 K O H O1 H1) {d:D} {v:V} (h:Rep K O H d v):Rep K O1 H1 d v:=Rep.ext r.ext r.out d v h
theorem aK.go (r:d7 K O H O1 H1) {d:List D} {v:List V} (h:aK K O H d v):aK K O1 H1 d v:=aK.ext r.ext r.out d v h
theorem Rep.same (s:Same H H1) {d:D} {v:V} (h:Rep K O H d v):Rep K O H1 d v:=h.go (Same.cZ s)
theorem aK.same (s:Same H H1) {d:List D} {v:List V} (h:aK K O H d v):aK K O H1 d v:=h.go (Same.cZ s)
theorem Rep.fewer (w:∀a,O1 a->O a) {d:D} {v:V} (h:Rep K O H d v):Rep K O1 H d v:=Rep.ext ⟨λ _u _u h=>h,λ _u _u _u h=>h,λ _u _u h=>h,λ _u _u _u h=>h⟩ (λ b _u n _u z=>n (w b z)) d v h
theorem aK.fewer (w:∀a,O1 a->O a) {d:List D} {v:List V} (h:aK K O H d v):aK K O1 H d v:=aK.ext ⟨λ _u _u h=>h,λ _u _u _u h=>h,λ _u _u h=>h,λ _u _u _u h=>h⟩ (λ b _u n _u z=>n (w b z)) d v h
theorem aK.nil:aK K O H [] []:=by simp only[aK]
theorem aK.cons {d:D} {v:V} {ds:List D} {vs:List V} (h:Rep K O H d v) (t:aK K O H ds vs):aK K O H (d::ds) (v::vs):=by simp only[aK];exact⟨v,vs,rfl,h,t⟩
theorem aK.cons_inv {d:D} {ds:List D} {vs:List V} (h:aK K O H (d::ds) vs):∃x r,vs=x::r/\Rep K O H d x/\aK K O H ds r:=by simpa only[aK] using h
theorem aK.nil_inv {vs:List V} (h:aK K O H [] vs):vs=[]:=by simpa only[aK] using h
theorem aK.length:∀{ds:List D} {vs:List V},aK K O H ds vs->ds.length=vs.length
 |[],vs,h=>by rw[h.nil_inv];rfl
 | d::ds,vs,h=>by
  obtain⟨x,r,rfl,_,t⟩:=h.cons_inv;simp[aK.length t]
theorem aK.get:∀{ds:List D} {vs:List V} {i:Nat} {d:D},aK K O H ds vs->ds[i]?=some d->∃v,vs[i]?=some v/\Rep K O H d v
 |[],_,_,_,_,e=>by simp at e
 | d::ds,vs,i,d',h,e=>by
  obtain⟨x,r,rfl,h1,t⟩:=h.cons_inv;cases i with
  |zero=>simp at e;subst e;exact⟨x,rfl,h1⟩
  |succ i=>simpa using aK.get t (i:=i) (by simpa using e)
theorem aK.aU {ds:List D} {vs:List V} {i:Nat} {v:V} (h:aK K O H ds vs) (e:vs[i]?=some v):∃d,ds[i]?=some d/\Rep K O H d v:=by
 have hl:=h.length;have hi:i < ds.length:=by rw[hl];exact (z1b e).1
 obtain⟨v',e',r⟩:=h.get (i:=i) (d:=ds[i]) (by simp[hi]);rw[e] at e';cases e';exact⟨_,by simp[hi],r⟩
theorem aK.append:∀{ds es:List D} {vs ws:List V},aK K O H ds vs->aK K O H es ws->aK K O H (ds++es) (vs++ws)
 |[],_,vs,_,h,t=>by rw[h.nil_inv];exact t
 | d::ds,es,vs,ws,h,t=>by
  obtain⟨x,r,rfl,h1,h2⟩:=h.cons_inv;exact .cons h1 (aK.append h2 t)
theorem aK.drop:∀{ds:List D} {vs:List V} (n:Nat),aK K O H ds vs->aK K O H (ds.drop n) (vs.drop n)
 |_,_,0,h=>h
 |[],vs,n+1,h=>by rw[h.nil_inv];exact .nil
 | d::ds,vs,n+1,h=>by
  obtain⟨x,r,rfl,h1,h2⟩:=h.cons_inv;exact h2.drop n
theorem aK.take:∀{ds:List D} {vs:List V} (n:Nat),aK K O H ds vs->aK K O H (ds.take n) (vs.take n)
 |_,_,0,_=>by simpa using aK.nil
 |[],vs,n+1,h=>by rw[h.nil_inv];exact .nil
 | d::ds,vs,n+1,h=>by
  obtain⟨x,r,rfl,h1,h2⟩:=h.cons_inv;exact .cons h1 (h2.take n)
theorem Rep.int {i:Int} {v:V} (h:Rep K O H (.int i) v):v= .int i:=by simpa only[Rep] using h
theorem Rep.bl {b:Bool} {v:V} (h:Rep K O H (.bl b) v):v= .bl b:=by simpa only[Rep] using h
theorem Rep.non {v:V} (h:Rep K O H .non v):v= .non:=by simpa only[Rep] using h
theorem Rep.str {x:Str} {v:V} (h:Rep K O H (.str x) v):v= .str x:=by simpa only[Rep] using h
theorem Rep.tup {ds:List D} {v:V} (h:Rep K O H (.tup ds) v):∃a xs,v= .ref a/\SqT K H a xs/\aK K O H ds xs:=by
 simp only[Rep] at h;obtain⟨a,xs,e,h1,_,h2⟩:=h;exact⟨a,xs,e,h1,h2⟩
theorem Rep.tupI {ds:List D} {v:V} (h:Rep K O H (.tup ds) v) (i:zH ds=true):∃a xs,v= .ref a/\H a=some (.tup xs)/\aK K O H ds xs:=by
 simp only[Rep] at h;obtain⟨a,xs,e,_,h1,h2⟩:=h;exact⟨a,xs,e,h1 i,h2⟩
theorem Rep.lst {ds:List D} {v:V} (h:Rep K O H (.lst ds) v):∃a xs,v= .ref a/\SqL K H a xs/\¬O a/\aK K O H ds xs:=by simpa only[Rep] using h
theorem bN (i:Int):Rep K O H (.int i) (.int i):=by simp only[Rep]
theorem gQ (b:Bool):Rep K O H (.bl b) (.bl b):=by simp only[Rep]
theorem Fi:Rep K O H .non .non:=by simp only[Rep]
theorem W5 (x:Str):Rep K O H (.str x) (.str x):=by simp only[Rep]
theorem ac3 {ds:List D} {a:Addr} {xs:List V} (h:SqT K H a xs) (i:zH ds=true->H a=some (.tup xs)) (r:aK K O H ds xs):Rep K O H (.tup ds) (.ref a):=by simp only[Rep];exact⟨a,xs,rfl,h,i,r⟩
theorem Fj {ds:List D} {a:Addr} {xs:List V} (h:H a=some (.tup xs)) (r:aK K O H ds xs):Rep K O H (.tup ds) (.ref a):=ac3 (SqT.of h) (λ _u=>h) r
theorem jN {ds:List D} {a:Addr} {xs:List V} (h:SqL K H a xs) (n:¬O a) (r:aK K O H ds xs):Rep K O H (.lst ds) (.ref a):=by simp only[Rep];exact⟨a,xs,rfl,h,n,r⟩
end
inductive Ob where
 |exc (c:Str) |fn (a:Addr) |dct (a:Addr) (o:Obj) (kvs:List (List Key×V))
set_option genInjectivity true in
inductive Ent where
 |val (d:D) |lst (ds:List D) |Bt (kvs:List (Key×D)) |obj (t:Ob)
noncomputable def Ent.own:Ent->Bool
 | .val _=>false
 | .obj _=>false
 |_=>true
noncomputable def Ent.W6:Ent->Bool
 | .val _=>true
 | .obj (.dct _ _ _)=>true
 |_=>false
theorem aeL {e:Ent} (h:e.W6=true):e.own=false:=by cases e <;> first |rfl |cases h
noncomputable abbrev ao:=List (Option Ent)
noncomputable def ah7 (K:PySem.W.Frag) (O:Addr->Prop) (H:Hp) (kvs:List (Key×D)) (ys:List (Key×V)):Prop:=kvs.map (·.1)=ys.map (·.1)/\aK K O H (kvs.map (·.2)) (ys.map (·.2))
noncomputable def pB (K:PySem.W.Frag) (H:Hp):Ob->V->Prop
 | .exc c,v=>∃a o C,v= .ref a/\H a=some (.frz o (.own a))/\o.cls= .ref C/\o.dict=none/\(∃vs,o.data= .fields vs)/\PySem.W.nsIn K mainGlobals c=some (some (.ref C))
 | .fn a,v=>v= .ref a/\∃o fd,H a=some (.frz o (.own a))/\o.data= .func fd
 | .dct a o kvs,v=>v= .ref a/\H a=some (.frz o (.dT kvs))
noncomputable def zJ (K:PySem.W.Frag) (O:Addr->Prop) (H:Hp):Ent->V->Prop
 | .val d,v=>Rep K O H d v
 | .lst ds,v=>∃a xs,v= .ref a/\O a/\H a=some (.lst xs)/\aK K O H ds xs
 | .Bt kvs,v=>∃a ys,v= .ref a/\O a/\H a=some (.dK ys)/\ah7 K O H kvs ys
 | .obj t,v=>pB K H t v
structure Env (K:PySem.W.Frag) (O:Addr->Prop) (H:Hp) (ρ:ao) (σ:St):Prop where
 get:∀(i:Nat) e,ρ[i]?=some (some e)->∃v,σ[i]?=some (some v)/\zJ K O H e v
 sep:∀(i j:Nat) e e' v,i≠j->ρ[i]?=some (some e)->ρ[j]?=some (some e')->e.own=true->e'.own=true->σ[i]?=some (some v)->σ[j]?=some (some v)->False
structure In (X:Cx) (O:Addr->Prop) (H:Hp) (ρ:ao) (σ:St):Prop where
 env:Env X.K O H ρ σ
 al:∀a,O a->∃o,H a=some o
 len:σ.length=X.N.length
 ju:ρ.length=X.N.length
section
variable {X:Cx} {O:Addr->Prop} {H H1:Hp} {ρ:ao} {σ:St} {K:PySem.W.Frag}
theorem pB.fz (s:∀b o u,H b=some (.frz o u)->H1 b=some (.frz o u)):∀{t:Ob} {v:V},pB K H t v->pB K H1 t v
 | .exc _,_,z=>by
  obtain⟨a,o,C,e,h,q,n⟩:=z;exact⟨a,o,C,e,s _ _ _ h,q,n⟩
 | .fn _,_,z=>by
  obtain⟨e,o,fd,h,q⟩:=z;exact⟨e,o,fd,s _ _ _ h,q⟩
 | .dct _ _ _,_,⟨e,h⟩=>⟨e,s _ _ _ h⟩
theorem pB.same (s:Same H H1) {t:Ob} {v:V} (h:pB K H t v):pB K H1 t v:=h.fz λ _u _u _u q=>s _ _ q
theorem zJ.same (s:Same H H1):∀{e:Ent} {v:V},zJ K O H e v->zJ K O H1 e v
 | .val d,v,h=>Rep.same s h
 | .lst ds,v,z=>by
  obtain⟨a,xs,e,o,h,r⟩:=z;exact⟨a,xs,e,o,s _ _ h,r.same s⟩
 | .Bt kvs,v,z=>by
  obtain⟨a,xs,e,o,h,k,r⟩:=z;exact⟨a,xs,e,o,s _ _ h,k,r.same s⟩
 | .obj t,v,h=>pB.same s h
theorem In.same (i:In X O H ρ σ) (s:Same H H1):In X O H1 ρ σ:=
 ⟨⟨λ j e h=>let ⟨v,h1,h2⟩:=i.env.get j e h;⟨v,h1,h2.same s⟩,i.env.sep⟩,λ a h=>let ⟨o,q⟩:=i.al a h;⟨o,s _ _ q⟩,i.len,i.ju⟩
end
noncomputable def Exc (h:Heap) (e C:Addr) (T:Option Addr):Prop:=∃(oe:Obj) (vs:Array Value),h.get? e=some oe/\oe.cls= .ref C/\oe.dict=none/\oe.data= .fields vs/\match T with
 |none=>vs[1]?=some Value.none
 |some t=>vs[1]?=some (.ref t)/\t≠e/\∃(ot:Obj) (ts:Array Value),h.get? t=some ot/\ot.data= .fields ts/\ts[3]?=some Value.none
structure Bu (P:Program) (w:World) (fs:List Addr) (H:Hp) (s:Shared) (a C:Addr) (T:Option Addr) (s':Shared) (H':Hp):Prop where
 same:Same H H'
 un:Un fs [] H H' s.heap s'.heap
 hok:HOk P w H' s'.heap
 os:s'.os=s.os
 bare:AllBare s'.gens
 exc:Exc s'.heap a C T
 na:s.heap.get? a=none
 ha:H' a=none
 nt:∀t,T=some t->s.heap.get? t=none/\H' t=none
noncomputable def M4 (X:Cx) (c:Str) (σ:St) (H:Hp):Prop:=∀(H1:Hp) (pins:List (Addr×Obj)) (s:Shared) (a C:Addr) (T:Option Addr) (s':Shared) (H':Hp),Same H H1->Inv X pins σ H1 s->
 PySem.W.nsIn X.K mainGlobals c=some (some (.ref C))->Bu X.prog X.w (frs X.stack) H1 s a C T s' H'->X.xe (.ref a) s'
theorem M4.same {X:Cx} {c:Str} {σ:St} {H H1:Hp} (h:M4 X c σ H) (s:Same H H1):M4 X c σ H1:=λ H2 pins s0 a C T s' H' s2=>h H2 pins s0 a C T s' H' (s.trans s2)
noncomputable def good {α β:Type} (X:Cx) (Rl:(Addr->Prop)->Hp->α->β->Prop) (O:Addr->Prop) (r:R α) (σ:St) (H:Hp) (Q:β->Hp->Prop):Prop:=match r with
 | .ok a=>∀b H',Same H H'->Rl O H' a b->Q b H'
 | .err c=>M4 X c σ H
 | .bad=>False
theorem good.same {α β:Type} {X:Cx} {Rl:(Addr->Prop)->Hp->α->β->Prop} {O:Addr->Prop} {r:R α} {σ:St} {H H1:Hp} {Q:β->Hp->Prop} (h:good X Rl O r σ H Q) (s:Same H H1):good X Rl O r σ H1 Q:=by
 cases r with
 |ok a=>exact λ b H' s' q=>h b H' (s.trans s') q
 |err c=>exact M4.same (show M4 X c σ H from h) s
 |bad=>exact h
inductive TGd {α β:Type} (X:Cx) (Rl:(Addr->Prop)->Hp->α->β->Prop) (f:ao->R α) (σ:St) (H:Hp) (Q:β->Hp->Prop):Prop
 |mk (ρ:ao) (O:Addr->Prop) (j:In X O H ρ σ) (g:good X Rl O (f ρ) σ H Q):TGd X Rl f σ H Q
noncomputable def tG {α β:Type} (X:Cx) (Rl:(Addr->Prop)->Hp->α->β->Prop) (f:ao->R α):St->Hp->(β->Hp->Prop)->Prop:=λ σ H Q=>TGd X Rl f σ H Q
noncomputable abbrev rB:(Addr->Prop)->Hp->Bool->Bool->Prop:=λ _u _u a b=>a=b
noncomputable abbrev rD (X:Cx):(Addr->Prop)->Hp->D->V->Prop:=λ O H d v=>Rep X.K O H d v
noncomputable abbrev rDs (X:Cx):(Addr->Prop)->Hp->List D->List V->Prop:=λ O H d v=>aK X.K O H d v
noncomputable def DE (X:Cx) (e:Expr) (f:ao->R D):Prop:=PE X e (tG X (rD X) f)
noncomputable def DT (X:Cx) (e:Expr) (f:ao->R Bool):Prop:=PT X e (tG X rB f)
noncomputable def DW (X:Cx) (e:Expr) (f:ao->R Bool):Prop:=PW X e (tG X rB f)
noncomputable def DA (X:Cx) (es:List Expr) (f:ao->R (List D)):Prop:=PA X es (tG X (rDs X) f)
theorem PE.imp {X:Cx} {e:Expr} {t t':TE} (h:PE X e t) (w:∀σ H Q,t' σ H Q->t σ H Q):PE X e t':=λ pins s σ H Q I q=>h pins s σ H Q I (w σ H Q q)
theorem PT.imp {X:Cx} {e:Expr} {t t':TT} (h:PT X e t) (w:∀σ H Q,t' σ H Q->t σ H Q):PT X e t':=λ pins s σ H Q I q=>h pins s σ H Q I (w σ H Q q)
theorem PW.imp {X:Cx} {e:Expr} {t t':TT} (h:PW X e t) (w:∀σ H Q,t' σ H Q->t σ H Q):PW X e t':=λ wh pins s σ H Q I q=>h wh pins s σ H Q I (w σ H Q q)
theorem PA.imp {X:Cx} {e:List Expr} {t t':TA} (h:PA X e t) (w:∀σ H Q,t' σ H Q->t σ H Q):PA X e t':=λ pos pins s σ H Q I q=>h pos pins s σ H Q I (w σ H Q q)
section
variable {X:Cx} {O:Addr->Prop} {H:Hp} {ρ:ao} {σ:St}
theorem go {α β γ δ:Type} {Rl:(Addr->Prop)->Hp->α->β->Prop} {Rm:(Addr->Prop)->Hp->γ->δ->Prop} {f:ao->R α} {g:α->R γ} {Q:δ->Hp->Prop} {Q':β->Hp->Prop}
  (i:In X O H ρ σ) (h:good X Rm O ((f ρ).bind g) σ H Q)
  (k:∀a b H1,f ρ= .ok a->Same H H1->Rl O H1 a b->In X O H1 ρ σ->good X Rm O (g a) σ H1 Q->Q' b H1):tG X Rl f σ H Q':=by
 refine⟨ρ,O,i,?_⟩;cases e:f ρ with
 |ok a=>rw[e] at h;exact λ b H1 s r=>k a b H1 e s r (i.same s) (good.same h s)
 |err c=>rw[e] at h;exact h
 |bad=>rw[e] at h;exact h
theorem fin {α β:Type} {Rl:(Addr->Prop)->Hp->α->β->Prop} {a:α} {b:β} {Q:β->Hp->Prop} (h:good X Rl O (.ok a) σ H Q) (r:Rl O H a b):Q b H:=h b H (Same.refl H) r
end
end Pu
namespace Pu
open PySem PySem.Spec L2
open PyProof.Rows hiding St
theorem Same.upd {H:Hp} {p:Addr} {o:HO} (h:H p=none):Same H (L2.upd H p o):=λ b u e=>by
 rw[upd_ne (ne_of_none e h)];exact e
theorem Rep.sO {X:Cx} {O:Addr->Prop} {H:Hp} {p:Addr} {ds:List D} {xs:List V} (h:H p=none) (r:aK X.K O H ds xs):Rep X.K O (upd H p (.tup xs)) (.tup ds) (.ref p):=
 Fj upd_same (r.same (Same.upd h))
theorem In.BW {X:Cx} {O:Addr->Prop} {H:Hp} {ρ:ao} {σ:St} (i:In X O H ρ σ) {p:Addr} (h:H p=none):¬O p:=λ z=>by
 obtain⟨o,e⟩:=i.al p z;rw[h] at e;cases e
theorem Rep.Fo {X:Cx} {O:Addr->Prop} {H:Hp} {p:Addr} {ds:List D} {xs:List V} (h:H p=none) (n:¬O p) (r:aK X.K O H ds xs):Rep X.K O (upd H p (.lst xs)) (.lst ds) (.ref p):=
 jN (SqL.of upd_same) n (r.same (Same.upd h))
section
variable {X:Cx} {a b c:Expr} {f g h:ao->R D} {pos:Pos}
noncomputable def aU (ρ:ao) (i:Nat):R D:=match ρ[i]? with
 |some (some (.val d))=> .ok d
 |_=> .bad
set_option tactic.hygienic true in
theorem dv (i:Nat) {x:Str} {pos:Pos} (hN:autoParam (X.N[i]?=some x) aN._auto_1) (hv:autoParam (Vis X.env.scope x) su._auto_1) (hd:autoParam ((x ==("__debug__" :Str))=false) cD._auto_1) (hcd:autoParam ((x ==("__classdict__" :Str))=false) cD._auto_1):
  DE X (.Name x pos) (λ ρ=>aU ρ i):=by
 refine PE.imp (pe_var hN hv hd hcd) λ σ H Q h=>?_;obtain⟨ρ,O,j,h⟩:=h;have h:good X (rD X) O (aU ρ i) σ H Q:=h;unfold aU at h;split at h
 ·rename_i d e;obtain⟨v,e1,r⟩:=j.env.get i _ e;exact⟨v,e1,fin h r⟩
 ·exact h.elim
theorem Qh {e:Expr} {d:D} {v:V} (h:PE X e (tC v)) (r:∀O H,Rep X.K O H d v):DE X e (λ _u=> .ok d):=PE.imp h λ σ H Q h=>by
 obtain⟨ρ,O,j,h⟩:=h;exact fin h (r O H)
theorem aD {i:Int} {j pos}:DE X (.Constant (.int i) j pos) (λ _u=> .ok (.int i)):=Qh pe_int λ _u _u=>bN i
theorem nJ {i:Bool} {j pos}:DE X (.Constant (.bool i) j pos) (λ _u=> .ok (.bl i)):=Qh pe_bl λ _u _u=>gQ i
theorem nU {j pos}:DE X (.Constant .none j pos) (λ _u=> .ok .non):=Qh pe_non λ _u _u=>Fi
theorem yO {x:Str} {j pos}:DE X (.Constant (.str x) j pos) (λ _u=> .ok (.str x)):=Qh pe_str λ _u _u=>W5 x
theorem kY {x:Str} {i:Int} {t:Tok} {pos:Pos} (hg:Gl X x) (hm:X.mg x=some (.int i t)) (hd:autoParam ((x ==("__debug__" :Str))=false) cD._auto_1):DE X (.Name x pos) (λ _u=> .ok (.int i)):=
 Qh (pe_glob (v:= .int i) hg hm ⟨t,rfl⟩ hd) λ _u _u=>bN i
noncomputable def kZ (X:Cx) (o:Value->Value->Sem Value) (k:D->D->R D):Prop:=∃r:R2,OpR X o r/\
 ∀(ρ:ao) (O:Addr->Prop) (σ:St) (H:Hp) (Q:VK) (x y:V) (dx dy:D),In X O H ρ σ->Rep X.K O H dx x->Rep X.K O H dy y->good X (rD X) O (k dx dy) σ H Q->r x y H Q
noncomputable def bin (f g:ao->R D) (k:D->D->R D):ao->R D:=λ ρ=>(f ρ).bind λ x=>(g ρ).bind λ y=>k x y
theorem Jg {r:R2} {k:D->D->R D} {σ:St} {H:Hp} {Q:VK}
  (hr:∀(ρ:ao) (O:Addr->Prop) (σ:St) (H:Hp) (Q:VK) (x y:V) (dx dy:D),In X O H ρ σ->Rep X.K O H dx x->Rep X.K O H dy y->good X (rD X) O (k dx dy) σ H Q->r x y H Q)
  (h:tG X (rD X) (bin f g k) σ H Q):tOp r (tG X (rD X) f) (tG X (rD X) g) σ H Q:=by
 obtain⟨ρ,O,j,h⟩:=h;refine go j h λ dx x H1 e1 s1 r1 j1 h1=>?_;exact go j1 h1 λ dy y H2 e2 s2 r2 j2 h2=>hr ρ O σ H2 Q x y dx dy j2 (r1.same s2) r2 h2
theorem aH {op:Operator} {k:D->D->R D} (ho:kZ X (binaryOp op) k) (ha:DE X a f) (hb:DE X b g):DE X (.BinOp a op b pos) (bin f g k):=by
 obtain⟨r,ho,hr⟩:=ho;exact PE.imp (pe_op ho ha hb) λ σ H Q h=>Jg hr h
theorem tK {op:CmpOp} {k:D->D->R D} (ho:kZ X (compareOp op) k) (ha:DE X a f) (hb:DE X b g) (hm:autoParam (behindInMarks op b=false) af4._auto_1):DE X (.Compare a [op] [b] pos) (bin f g k):=by
 obtain⟨r,ho,hr⟩:=ho;exact PE.imp (pe_cmpR ho ha hb hm) λ σ H Q h=>Jg hr h
noncomputable def asB:D->R Bool
 | .bl b=> .ok b
 |_=> .bad
noncomputable def bH (f:ao->R D):ao->R Bool:=λ ρ=>(f ρ).bind asB
theorem G6 {t:TE} {k:ao->R D} {σ:St} {H:Hp} {Q:Bool->Hp->Prop} (w:∀Q,tG X (rD X) k σ H Q->t σ H Q) (h:tG X rB (bH k) σ H Q):tTest t σ H Q:=by
 refine w _ ?_;obtain⟨ρ,O,j,h⟩:=h;refine go j h λ d x H1 e1 s1 r1 j1 h1=>?_;cases d with
 |bl b=>exact⟨b,r1.bl,fin h1 rfl⟩
 |_=>exact h1.elim
theorem cL {op:CmpOp} {k:D->D->R D} (ho:kZ X (compareOp op) k) (ha:DE X a f) (hb:DE X b g) (hm:autoParam (behindInMarks op b=false) af4._auto_1):DT X (.Compare a [op] [b] pos) (bH (bin f g k)):=by
 obtain⟨r,ho,hr⟩:=ho;exact PT.imp (pt_cmpR ho ha hb hm) λ σ H Q h=>G6 (λ Q h=>Jg hr h) h
theorem tO {e:Expr} (h:DE X e f) (he:autoParam (∀whole,isTrue e X.env whole=(do let v <-whole;standAt e.pos;holding [v] (truthy v))) yN._auto_1):DT X e (bH f):=
 PT.imp (pt_val h he) λ σ H Q h=>G6 (t:=tG X (rD X) f) (λ Q h=>h) h
noncomputable def iD (k:Int->Int->R D):D->D->R D
 | .int i,.int j=>k i j
 |_,_=> .bad
set_option tactic.hygienic true in
theorem Fp {o:Value->Value->Sem Value} {C:Int->Int->Prop} {g:Int->Int->V} {k:Int->Int->R D} (ho:OpR X o (rI C g)) (hk:∀i j,k i j= .bad\/∃d,k i j= .ok d/\C i j/\∀K O H,Rep K O H d (g i j)):kZ X o (iD k):=by
 refine⟨_,ho,λ ρ O σ H Q x y dx dy j0 rx ry h=>?_⟩;cases dx <;> cases dy <;> first
  |exact h.elim
  |skip
 rename_i i j;rcases hk i j with e |⟨d,e,c,r⟩
 ·have h':good X (rD X) O (k i j) σ H Q:=h;rw[e] at h';exact h'.elim
 ·have h':good X (rD X) O (k i j) σ H Q:=h;rw[e] at h';exact⟨i,j,rx.int,ry.int,c,fin h' (r _ _ _)⟩
set_option tactic.hygienic true in
theorem tQ {o:Value->Value->Sem Value} {g:Int->Int->V} {k:Int->Int->R D} (ho:OpR X o (rI0 g)) (hk:∀i j,∃d,k i j= .ok d/\∀K O H,Rep K O H d (g i j)):kZ X o (iD k):=by
 refine⟨_,ho,λ ρ O σ H Q x y dx dy j0 rx ry h=>?_⟩;cases dx <;> cases dy <;> first
  |exact h.elim
  |skip
 rename_i i j;obtain⟨d,e,r⟩:=hk i j;have h':good X (rD X) O (k i j) σ H Q:=h;rw[e] at h';exact⟨i,j,rx.int,ry.int,fin h' (r _ _ _)⟩
noncomputable def fX:D->D->R D:=iD λ i j=> .ok (.int (i - j))
noncomputable def jw:D->D->R D:=iD λ i j=>if (-(2 ^ 64) < i/\i < 2 ^ 64)\/(-(2 ^ 64) < j/\j < 2 ^ 64) then .ok (.int (i*j)) else .bad
noncomputable def eN:D->D->R D:=iD λ i j=>if 0 < j/\j < 2 ^ 64 then .ok (.int (i / j)) else .bad
noncomputable def gn:D->D->R D:=iD λ i j=>if 0 < j then .ok (.int (i % j)) else .bad
noncomputable def wG:D->D->R D:=iD λ i j=>if 0<=j/\j<=1000000/\i.natAbs < 2 ^ 64 then .ok (.int (i ^ j.toNat)) else .bad
noncomputable def ltI:D->D->R D:=iD λ i j=> .ok (.bl (decide (i < j)))
noncomputable def BX:D->D->R D:=iD λ i j=> .ok (.bl (decide (i<=j)))
noncomputable def pC:D->D->R D:=iD λ i j=> .ok (.bl (decide (j < i)))
noncomputable def M5:D->D->R D:=iD λ i j=> .ok (.bl (decide (j<=i)))
theorem dU:kZ X (binaryOp .Sub) fX:=tQ op_sub λ i j=>⟨_,rfl,λ _u _u _u=>bN _⟩
theorem Fq:kZ X (compareOp .Lt) ltI:=tQ op_lt λ i j=>⟨_,rfl,λ _u _u _u=>gQ _⟩
theorem zK:kZ X (compareOp .LtE) BX:=tQ op_le λ i j=>⟨_,rfl,λ _u _u _u=>gQ _⟩
theorem Ft:kZ X (compareOp .Gt) pC:=tQ op_gt λ i j=>⟨_,rfl,λ _u _u _u=>gQ _⟩
theorem aeu:kZ X (compareOp .GtE) M5:=tQ op_ge λ i j=>⟨_,rfl,λ _u _u _u=>gQ _⟩
theorem Fv {c:Prop} [Decidable c] (d:D) {P:D->Prop} (hP:c->P d):(if c then R.ok d else R.bad)=R.bad\/∃d',(if c then R.ok d else R.bad)=R.ok d'/\c/\P d':=by
 by_cases h:c
 ·exact .inr ⟨d,by rw[if_pos h],h,hP h⟩
 ·exact .inl (by rw[if_neg h])
theorem rJ:kZ X (binaryOp .Mult) jw:=Fp op_mul λ i j=>Fv (.int (i*j)) (P:=λ d=>∀K O H,Rep K O H d (.int (i*j))) λ _u _u _u _u=>bN _
theorem aaO {j:Int} (h0:0 < j) (h:j < 2 ^ 64):j.natAbs.log2 < 9000:=by
 have h1:j.natAbs≠0:=by exact aiQ h0
 have h2:j.natAbs < 2 ^ 64:=by omega
 have h3:j.natAbs.log2 < 64:=(Nat.log2_lt h1).mpr h2;exact aiR h3
theorem ac4:OpR X (binaryOp .FloorDiv) (rI (λ _u j=>0 < j/\j < 2 ^ 64) λ i j=> .int (i / j)):=opI λ i j _u _u _u _u _u hc q=>by
 refine floordiv_int (by have:=hc.1;omega) ?_ (.inl (PyProof.noPylong_of_log2 (aaO hc.1 hc.2)));rw[Int.fdiv_eq_ediv_of_nonneg _ (by have:=hc.1;exact Int.le_of_lt this)];exact q
theorem mY:kZ X (binaryOp .FloorDiv) eN:=Fp ac4 λ i j=>Fv (.int (i / j)) (P:=λ d=>∀K O H,Rep K O H d (.int (i / j))) λ _u _u _u _u=>bN _
theorem pD:kZ X (binaryOp .Mod) gn:=Fp op_mod λ i j=>Fv (.int (i % j)) (P:=λ d=>∀K O H,Rep K O H d (.int (i % j))) λ _u _u _u _u=>bN _
theorem aaP:kZ X (binaryOp .Pow) wG:=Fp op_pow λ i j=>Fv (.int (i ^ j.toNat)) (P:=λ d=>∀K O H,Rep K O H d (.int (i ^ j.toNat))) λ _u _u _u _u=>bN _
noncomputable def Jh (f g h:ao->R D) (k l:D->D->R D):ao->R D:=λ ρ=>(f ρ).bind λ x=>(g ρ).bind λ y=>(k x y).bind λ z=>match z with
 | .bl true=>(h ρ).bind λ w=>l y w
 | .bl false=> .ok (.bl false)
 |_=> .bad
noncomputable def G7 (f g:ao->R D):ao->R D:=λ ρ=>(f ρ).bind λ x=>match x with
 | .bl true=>g ρ
 | .bl false=> .ok (.bl false)
 |_=> .bad
noncomputable def Lf (f:ao->R D):ao->R D:=λ ρ=>(f ρ).bind λ x=>match x with
 | .bl b=> .ok (.bl (!b))
 |_=> .bad
variable {rest:List Expr}
theorem Ji {op} (h:DE X a f):DE X (.BoolOp op [a] pos) f:=pe_one h
theorem Jj (ha:DE X a f) (hb:DE X (.BoolOp .And (b::rest) pos) g):DE X (.BoolOp .And (a::b::rest) pos) (G7 f g):=by
 refine PE.imp (pe_and ha hb) λ σ H Q h=>?_;obtain⟨ρ,O,j,h⟩:=h;refine go j h λ d x H1 e1 s1 r1 j1 h1=>?_;cases d with
 | bl k=>
  cases k with
  |true=>exact⟨true,r1.bl,by rw[if_pos rfl];exact⟨ρ,O,j1,h1⟩⟩
  |false=>exact⟨false,r1.bl,by rw[if_neg Bool.false_ne_true];exact fin h1 (gQ _)⟩
 |_=>exact h1.elim
theorem aaQ (ha:DE X a f):DE X (.UnaryOp .Not a pos) (Lf f):=by
 refine PE.imp (pe_not ha) λ σ H Q h=>?_;obtain⟨ρ,O,j,h⟩:=h;refine go j h λ d x H1 e1 s1 r1 j1 h1=>?_;cases d with
 |bl k=>exact⟨k,r1.bl,fin h1 (gQ _)⟩
 |_=>exact h1.elim
noncomputable def nQ (f g:ao->R Bool):ao->R Bool:=λ ρ=>(f ρ).bind λ x=>if x=true then g ρ else .ok false
noncomputable def Qi (f g:ao->R Bool):ao->R Bool:=λ ρ=>(f ρ).bind λ x=>if x=true then .ok true else g ρ
noncomputable def rW (f:ao->R Bool):ao->R Bool:=λ ρ=>(f ρ).bind λ x=> .ok (!x)
variable {p q:ao->R Bool}
theorem yP (ha:DT X a p):DW X (.BoolOp .And [a] pos) p:=pw_and1 ha
theorem Qj (ha:DT X a p):DW X (.BoolOp .Or [a] pos) p:=pw_or1 ha
theorem BZ (ha:DT X a p) (hb:DW X (.BoolOp .And (b::rest) pos) q):DW X (.BoolOp .And (a::b::rest) pos) (nQ p q):=by
 refine PW.imp (pw_and ha hb) λ σ H Q h=>?_;obtain⟨ρ,O,j,h⟩:=h;refine go j h λ d x H1 e1 s1 r1 j1 h1=>?_;subst r1;cases d with
 |true=>rw[if_pos rfl] at h1 |-;exact⟨ρ,O,j1,h1⟩
 |false=>rw[if_neg Bool.false_ne_true] at h1 |-;exact fin h1 rfl
theorem Yw (ha:DT X a p) (hb:DW X (.BoolOp .Or (b::rest) pos) q):DW X (.BoolOp .Or (a::b::rest) pos) (Qi p q):=by
 refine PW.imp (pw_or ha hb) λ σ H Q h=>?_;obtain⟨ρ,O,j,h⟩:=h;refine go j h λ d x H1 e1 s1 r1 j1 h1=>?_;subst r1;cases d with
 |true=>rw[if_pos rfl] at h1 |-;exact fin h1 rfl
 |false=>rw[if_neg Bool.false_ne_true] at h1 |-;exact⟨ρ,O,j1,h1⟩
theorem DW.dt {e:Expr} (h:DW X e p):DT X e p:=h _
theorem yQ (ha:DT X a p):DT X (.UnaryOp .Not a pos) (rW p):=by
 refine PT.imp (pt_not ha) λ σ H Q h=>?_;obtain⟨ρ,O,j,h⟩:=h;refine go j h λ d x H1 e1 s1 r1 j1 h1=>?_;subst r1;exact fin h1 rfl
noncomputable def ifV (c:ao->R Bool) (f g:ao->R D):ao->R D:=λ ρ=>(c ρ).bind λ x=>if x=true then f ρ else g ρ
theorem ah8 (hc:DT X c p) (ha:DE X a f) (hb:DE X b g):DE X (.IfExp c a b pos) (ifV p f g):=by
 refine PE.imp (pe_ifExp hc ha hb) λ σ H Q h=>?_;obtain⟨ρ,O,j,h⟩:=h;refine go j h λ d x H1 e1 s1 r1 j1 h1=>?_;subst r1;cases d with
 |true=>rw[if_pos rfl] at h1 |-;exact⟨ρ,O,j1,h1⟩
 |false=>rw[if_neg Bool.false_ne_true] at h1 |-;exact⟨ρ,O,j1,h1⟩
noncomputable def ak (f:ao->R D) (g:ao->R (List D)):ao->R (List D):=λ ρ=>(f ρ).bind λ x=>(g ρ).bind λ xs=> .ok (x::xs)
variable {es:List Expr} {fa:ao->R (List D)}
theorem au:DA X [] (λ _u=> .ok []):=PA.imp pa_nil λ σ H Q h=>by
 obtain⟨ρ,O,j,h⟩:=h;exact fin h .nil
theorem aj (ha:DE X a f) (hr:DA X es fa) (hs:autoParam (starEach (a::es) X.env=(false,eval a X.env)::starEach es X.env) aN._auto_1):DA X (a::es) (ak f fa):=by
 refine PA.imp (pa_cons ha hr hs) λ σ H Q h=>?_;obtain⟨ρ,O,j,h⟩:=h;refine go j h λ d x H1 e1 s1 r1 j1 h1=>?_;exact go j1 h1 λ ds xs H2 e2 s2 r2 j2 h2=>fin h2 (.cons (r1.same s2) r2)
noncomputable def cap (k:List D->D) (ds:List D):R D:=if ds.length<=1000000 then .ok (k ds) else .bad
theorem dh:1000000<=sizeLine:=by rw[sizeLine_eq];decide
noncomputable def iI (fa:ao->R (List D)):ao->R D:=λ ρ=>(fa ρ).bind (cap .tup)
noncomputable def jM (fa:ao->R (List D)):ao->R D:=λ ρ=>(fa ρ).bind (cap .lst)
set_option tactic.hygienic true in
theorem d8 {x1} (h:DA X es fa):DE X (.Tuple es x1 pos) (iI fa):=by
 refine PE.imp (pe_tup h) λ σ H Q h=>?_;obtain⟨ρ,O,j,h⟩:=h;refine go j h λ ds xs H1 e1 s1 r1 j1 h1=>?_;unfold cap at h1;split at h1
 ·rename_i hl;exact⟨by rw[<-r1.length];exact z0b hl dh,λ p hp=>h1 _ _ (Same.upd hp) (Rep.sO hp r1)⟩
 ·exact h1.elim
set_option tactic.hygienic true in
theorem gR (h:DA X es fa):DE X (.List es pos) (jM fa):=by
 refine PE.imp (pe_lst h) λ σ H Q h=>?_;obtain⟨ρ,O,j,h⟩:=h;refine go j h λ ds xs H1 e1 s1 r1 j1 h1=>?_;unfold cap at h1;split at h1
 ·rename_i hl;exact⟨by rw[<-r1.length];exact z0b hl dh,λ p hp=>h1 _ _ (Same.upd hp) (Rep.Fo hp (j1.BW hp) r1)⟩
 ·exact h1.elim
noncomputable def bD:D->D->R D
 | .tup ds,.int i=>match atI ds i with |some d=> .ok d |none=> .bad
 | .lst ds,.int i=>match atI ds i with |some d=> .ok d |none=> .bad
 |_,_=> .bad
theorem aK.atI {K:PySem.W.Frag} {O:Addr->Prop} {H:Hp} {ds:List D} {vs:List V} {i:Int} {d:D} (r:aK K O H ds vs) (e:atI ds i=some d):∃v,atI vs i=some v/\Rep K O H d v:=by
 unfold L2.atI at e |-;rw[r.length] at e;cases q:ixN vs.length i with
 |none=>rw[q] at e;cases e
 | some k=>
  rw[q] at e;obtain⟨v,h1,h2⟩:=r.get (i:=k) (d:=d) e;exact⟨v,h1,h2⟩
set_option tactic.hygienic true in
theorem bF (ha:DE X a f) (hb:DE X b g) (hs:autoParam (PlainIx b) ap8._auto_1):DE X (.Subscript a b pos) (bin f g bD):=by
 refine PE.imp (pe_ix ix_seq ha hb hs) λ σ H Q h=>Jg (λ ρ O σ H Q x y dx dy j0 rx ry h=>?_) h;cases dx <;> cases dy <;> first
  |exact h.elim
  |skip
 ·rename_i ds i;obtain⟨p,xs,rfl,hq,r⟩:=rx.tup;have h':good X (rD X) O (match L2.atI ds i with |some d=>R.ok d |none=>R.bad) σ H Q:=h;cases e:L2.atI ds i with
  |none=>rw[e] at h';exact h'.elim
  | some d=>
   rw[e] at h';obtain⟨v,e1,rv⟩:=r.atI e;exact .inr (.inl ⟨p,xs,i,v,rfl,ry.int,hq,e1,fin h' rv⟩)
 ·rename_i ds i;obtain⟨p,xs,rfl,hq,_,r⟩:=rx.lst;have h':good X (rD X) O (match L2.atI ds i with |some d=>R.ok d |none=>R.bad) σ H Q:=h;cases e:L2.atI ds i with
  |none=>rw[e] at h';exact h'.elim
  | some d=>
   rw[e] at h';obtain⟨v,e1,rv⟩:=r.atI e;exact .inl ⟨p,xs,i,v,rfl,ry.int,hq,e1,fin h' rv⟩
noncomputable def CallD (X:Cx) (u:Value) (k:List D->R D):Prop:=∃r:List V->Hp->VK->Prop,CallR X u r/\
 ∀(ρ:ao) (O:Addr->Prop) (σ:St) (H:Hp) (Q:VK) (xs:List V) (ds:List D),In X O H ρ σ->aK X.K O H ds xs->good X (rD X) O (k ds) σ H Q->r xs H Q
noncomputable def aF (k:List D->R D) (fa:ao->R (List D)):ao->R D:=λ ρ=>(fa ρ).bind k
variable {x:Str} {pp:Pos} {k:List D->R D} {id T:String}
theorem aQ (hc:CallD X (.builtin id) k) (hg:Gl X x) (hm:X.mg x=none) (hv:bootBuiltins x=some (.builtin id)) (ha:DA X (a::es) fa) (hn:autoParam (x≠"__name__") cD._auto_1) (hdb:autoParam ((x ==("__debug__" :Str))=false) cD._auto_1)
  (he:autoParam (starEach (a::es) X.env=(false,eval a X.env)::starEach es X.env) aN._auto_1) (hpl:autoParam ((backTo pos (starEach es X.env)).any (·.1)=false) aN._auto_1):DE X (.Call (.Name x pp) (a::es) [] pos) (aF k fa):=by
 obtain⟨r,hc,hr⟩:=hc;refine PE.imp (pe_callB hc hg hm hv ha hn hdb he hpl) λ σ H Q h=>?_;obtain⟨ρ,O,j,h⟩:=h;exact go j h λ ds xs H1 e1 s1 r1 j1 h1=>hr ρ O σ H1 Q xs ds j1 r1 h1
theorem lQ (hc:CallD X (.type T) k) (hg:Gl X x) (hm:X.mg x=none) (hv:bootBuiltins x=some (.type T)) (ha:DA X (a::es) fa) (hn:autoParam (x≠"__name__") cD._auto_1) (hdb:autoParam ((x ==("__debug__" :Str))=false) cD._auto_1)
  (he:autoParam (starEach (a::es) X.env=(false,eval a X.env)::starEach es X.env) aN._auto_1) (hpl:autoParam ((backTo pos (starEach es X.env)).any (·.1)=false) aN._auto_1):DE X (.Call (.Name x pp) (a::es) [] pos) (aF k fa):=by
 obtain⟨r,hc,hr⟩:=hc;refine PE.imp (pe_callTy hc hg hm hv ha hn hdb he hpl) λ σ H Q h=>?_;obtain⟨ρ,O,j,h⟩:=h;exact go j h λ ds xs H1 e1 s1 r1 j1 h1=>hr ρ O σ H1 Q xs ds j1 r1 h1
end
section
variable {X:Cx} {a b c:Expr} {f g h:ao->R D} {pos:Pos}
theorem M6 {r r':R2} {k l:D->D->R D} {σ:St} {H:Hp} {Q:VK}
  (hr:∀(ρ:ao) (O:Addr->Prop) (σ:St) (H:Hp) (Q:VK) (x y:V) (dx dy:D),In X O H ρ σ->Rep X.K O H dx x->Rep X.K O H dy y->good X (rD X) O (k dx dy) σ H Q->r x y H Q)
  (hl:∀(ρ:ao) (O:Addr->Prop) (σ:St) (H:Hp) (Q:VK) (x y:V) (dx dy:D),In X O H ρ σ->Rep X.K O H dx x->Rep X.K O H dy y->good X (rD X) O (l dx dy) σ H Q->r' x y H Q)
  (q:tG X (rD X) (Jh f g h k l) σ H Q):tChain r r' (tG X (rD X) f) (tG X (rD X) g) (tG X (rD X) h) σ H Q:=by
 obtain⟨ρ,O,j,q⟩:=q;refine go j q λ dx x H1 e1 s1 r1 j1 h1=>?_;refine go j1 h1 λ dy y H2 e2 s2 r2 j2 h2=>?_;have r1':=r1.same s2;cases e3:k dx dy with
 |bad=>rw[e3] at h2;exact h2.elim
 |err n=>rw[e3] at h2;exact hr ρ O σ H2 _ x y dx dy j2 r1' r2 (by rw[e3];exact h2)
 | ok z=>
  rw[e3] at h2;refine hr ρ O σ H2 _ x y dx dy j2 r1' r2 ?_;rw[e3];intro v H3 s3 r3;have j3:=j2.same s3;cases z with
  | bl t=>
   refine⟨t,r3.bl,?_⟩;cases t with
   | true=>
    rw[if_pos rfl];exact go j3 (good.same h2 s3) λ dw w H4 e4 s4 r4 j4 h4=>hl ρ O σ H4 Q y w dy dw j4 (r2.same (s3.trans s4)) r4 h4
   | false=>
    rw[if_neg Bool.false_ne_true];exact fin (good.same h2 s3) (gQ _)
  |_=>exact h2.elim
theorem Qk {op op':CmpOp} {k l:D->D->R D} (ho:kZ X (compareOp op) k) (ho':kZ X (compareOp op') l) (ha:DE X a f) (hb:DE X b g) (hc:DE X c h)
  (hm:autoParam (lastMarks [op,op'] [b,c]=false) ap7._auto_1):DE X (.Compare a [op,op'] [b,c] pos) (Jh f g h k l):=by
 obtain⟨r,ho,hr⟩:=ho;obtain⟨r',ho',hr'⟩:=ho';exact PE.imp (pe_chain ho ho' ha hb hc hm) λ σ H Q q=>M6 hr hr' q
theorem ac5 {op op':CmpOp} {k l:D->D->R D} (ho:kZ X (compareOp op) k) (ho':kZ X (compareOp op') l) (ha:DE X a f) (hb:DE X b g) (hc:DE X c h)
  (hm:autoParam (lastMarks [op,op'] [b,c]=false) ap7._auto_1):DT X (.Compare a [op,op'] [b,c] pos) (bH (Jh f g h k l)):=by
 obtain⟨r,ho,hr⟩:=ho;obtain⟨r',ho',hr'⟩:=ho';exact PT.imp (pt_chain ho ho' ha hb hc hm) λ σ H Q q=>G6 (λ Q q=>M6 hr hr' q) q
end
noncomputable def YAt (K:PySem.W.Frag) (O:Addr->Prop) (J:It) (xs:List D) (H:Hp):Prop:=
 ∀i:Nat,(∀d,xs[i]?=some d->J.go i H/\∀x H',J.yld i H x H'->Same H H'/\Rep K O H' d x)/\(xs.length<=i->J.stop i H)
noncomputable def YR (K:PySem.W.Frag) (O:Addr->Prop) (H:Hp) (J:It) (xs:List D):Prop:=∀O' H',d7 K O H O' H'->YAt K O' J xs H'
noncomputable abbrev rIt (X:Cx):(Addr->Prop)->Hp->List D->It->Prop:=λ O H xs J=>YR X.K O H J xs
noncomputable def DI (X:Cx) (tg iter:Expr) (fi:ao->R (List D)):Prop:=PI X tg iter (tG X (rIt X) fi)
theorem PI.imp {X:Cx} {tg e:Expr} {t t':TI} (h:PI X tg e t) (w:∀σ H Q,t' σ H Q->t σ H Q):PI X tg e t':=λ pins s σ H Q I q=>h pins s σ H Q I (w σ H Q q)
section
variable {X:Cx} {tg:Expr}
noncomputable def ajp (K:PySem.W.Frag) (tl:TE):TI:=λ σ H R=>tl σ H λ x H1=>∃a,x= .ref a/\(((∃xs,SqL K H1 a xs)/\R (Itl K a) H1)\/((∃xs,SqT K H1 a xs)/\R (Itt K a) H1))
theorem aaR {l:Expr} {tl:TE} (hl:PE X l tl):PI X tg l (ajp X.K tl):=by
 intro pins s σ H R I h;refine thn (hl pins s σ H _ I h) λ v s1 bh=>?_;obtain⟨x,H1,I1,r1,q1⟩:=bh;obtain⟨a,e,q⟩:=q1;subst e;cases r1;have fp:∀b∈[s1.heap.objs.size],FpOk X pins H1 b:=λ b hb=>by
  have e:b=s1.heap.objs.size:=by simpa using hb
  subst e;exact I1.fpOk (z0g _) (I1.hok.fresh (z0g _))
 rcases q with⟨⟨xs,hq⟩,q⟩ |⟨⟨xs,hq⟩,q⟩
 ·obtain⟨its,rv,p,hz⟩:=I1.list hq;refine wpAny_pyIter_list p.isList ?_;exact⟨s1.heap.objs.size,[s1.heap.objs.size],_,_,H1,rfl,I1.kept (t':=s1.toks) λ b o e=>z1a _ e,turn_list a _,⟨_,z1f _ rfl,rfl,rfl⟩,fp,q⟩
 ·obtain⟨its,rv,p,hz⟩:=I1.tuple hq;refine wpAny_pyIter_tuple (show s1.heap.IsTuple a its.toArray from p) ?_;exact⟨s1.heap.objs.size,[s1.heap.objs.size],_,_,H1,rfl,I1.kept (t':=s1.toks) λ b o e=>z1a _ e,turn_tuple a _,⟨_,z1f _ rfl,rfl,rfl⟩,fp,q⟩
noncomputable def mH:D->R (List D)
 | .tup ds=> .ok ds
 | .lst ds=> .ok ds
 |_=> .bad
theorem YR.lst {K:PySem.W.Frag} {O:Addr->Prop} {H:Hp} {a:Addr} {ds:List D} {xs:List V} (h:SqL K H a xs) (n:¬O a) (r:aK K O H ds xs):YR K O H (Itl K a) ds:=by
 intro O' H' q;have h':SqL K H' a xs:=SqL.ext q.ext n h;have r':=r.go q;intro i;refine⟨λ d e=>?_,λ e=>⟨xs,h',by rw[<-r.length];exact e⟩⟩;obtain⟨v,e1,rv⟩:=r'.get e;refine⟨⟨xs,v,h',e1⟩,λ x H2 y=>?_⟩;obtain⟨eH,y⟩:=y;subst eH;have:=y xs h';rw[e1] at this;cases this;exact⟨Same.refl _,rv⟩
theorem YR.tup {K:PySem.W.Frag} {O:Addr->Prop} {H:Hp} {a:Addr} {ds:List D} {xs:List V} (h:SqT K H a xs) (r:aK K O H ds xs):YR K O H (Itt K a) ds:=by
 intro O' H' q;have h':SqT K H' a xs:=SqT.ext q.ext h;have r':=r.go q;intro i;refine⟨λ d e=>?_,λ e=>⟨xs,h',by rw[<-r.length];exact e⟩⟩;obtain⟨v,e1,rv⟩:=r'.get e;refine⟨⟨xs,v,h',e1⟩,λ x H2 y=>?_⟩;obtain⟨eH,y⟩:=y;subst eH;have:=y xs h';rw[e1] at this;cases this;exact⟨Same.refl _,rv⟩
noncomputable def eO (f:ao->R D):ao->R (List D):=λ ρ=>(f ρ).bind mH
theorem fB {l:Expr} {f:ao->R D} (h:DE X l f):DI X tg l (eO f):=by
 refine PI.imp (aaR h) λ σ H Q q=>?_;obtain⟨ρ,O,j,q⟩:=q;refine go j q λ d x H1 e1 s1 r1 j1 h1=>?_;cases d with
 | tup ds=>
  obtain⟨a,xs,rfl,hq,r⟩:=r1.tup;exact⟨a,rfl,.inr ⟨⟨xs,hq⟩,fin h1 (YR.tup hq r)⟩⟩
 | lst ds=>
  obtain⟨a,xs,rfl,hq,n,r⟩:=r1.lst;exact⟨a,rfl,.inl ⟨⟨xs,hq⟩,fin h1 (YR.lst hq n r)⟩⟩
 |_=>exact h1.elim
noncomputable def upto (lo:Int) (n:Nat):List D:=(List.range n).map λ (i:Nat)=>D.int (lo+(i:Int))
theorem YR.rng {K:PySem.W.Frag} {O:Addr->Prop} {H:Hp} (lo:Int) (n:Nat):YR K O H (Itr lo n) (upto lo n):=by
 intro O' H' q i;have hl:(upto lo n).length=n:=by simp[upto]
 refine⟨λ d e=>?_,λ e=>by rw[hl] at e;exact e⟩;have hi:i < n:=by rw[<-hl];exact (z1b e).1
 have e2:d=D.int (lo+(i:Int)):=by
  simp only[upto,z2b,List.getElem?_range hi] at e;exact (Option.some.inj e).symm
 subst e2;refine⟨hi,λ x H2 y=>?_⟩;obtain⟨eH,y⟩:=y;subst eH;subst y;exact⟨Same.refl _,bN _⟩
noncomputable def gq:List D->R (List D)
 |[.int j]=>if -(2 ^ 62)<=j/\j < 2 ^ 62 then .ok (upto 0 j.toNat) else .bad
 |_=> .bad
theorem aK.one {K:PySem.W.Frag} {O:Addr->Prop} {H:Hp} {d:D} {xs:List V} (r:aK K O H [d] xs):∃x,xs=[x]/\Rep K O H d x:=by
 obtain⟨x,t,rfl,h1,h2⟩:=r.cons_inv;rw[h2.nil_inv];exact⟨x,rfl,h1⟩
theorem aK.two {K:PySem.W.Frag} {O:Addr->Prop} {H:Hp} {d e:D} {xs:List V} (r:aK K O H [d,e] xs):∃x y,xs=[x,y]/\Rep K O H d x/\Rep K O H e y:=by
 obtain⟨x,t,rfl,h1,h2⟩:=r.cons_inv;obtain⟨y,rfl,h3⟩:=h2.one;exact⟨x,y,rfl,h1,h3⟩
variable {a b:Expr} {fa:ao->R (List D)} {p pos:Pos}
set_option tactic.hygienic true in
theorem cX (hg:Gl X "range") (hm:X.mg "range" =none) (ha:DA X [a] fa) (hs:autoParam (starEach [a] X.env=[(false,eval a X.env)]) aN._auto_1):DI X tg (.Call (.Name "range" p) [a] [] pos) (λ ρ=>(fa ρ).bind gq):=by
 refine PI.imp (pi_range1 hg hm ha hs) λ σ H Q q=>?_;obtain⟨ρ,O,j,q⟩:=q;refine go j q λ ds xs H1 e1 s1 r1 j1 h1=>?_;unfold gq at h1;split at h1
 ·obtain⟨x,rfl,rx⟩:=r1.one;split at h1
  ·rename_i i hi;exact⟨i,by rw[rx.int],hi.1,hi.2,fin h1 (YR.rng 0 i.toNat)⟩
  ·exact h1.elim
 ·exact h1.elim
end
inductive DGp (X:Cx) (gt:D->ao->R ao) (v:V) (σ:St) (H:Hp) (Q:St->Hp->Prop):Prop
 |mk (ρ:ao) (O:Addr->Prop) (d:D) (ρ':ao) (j:In X O H ρ σ) (r:Rep X.K O H d v) (e:gt d ρ= .ok ρ') (q:∀σ',In X O H ρ' σ'->Q σ' H):DGp X gt v σ H Q
noncomputable def DG (X:Cx) (tg:Expr) (gt:D->ao->R ao):Prop:=PG X tg λ v σ H Q=>DGp X gt v σ H Q
inductive ago (X:Cx) (gt:List D->ao->R ao) (vs:List V) (σ:St) (H:Hp) (Q:St->Hp->Prop):Prop
 |mk (ρ:ao) (O:Addr->Prop) (ds:List D) (ρ':ao) (j:In X O H ρ σ) (r:aK X.K O H ds vs) (e:gt ds ρ= .ok ρ') (q:∀σ',In X O H ρ' σ'->Q σ' H):ago X gt vs σ H Q
noncomputable def DGs (X:Cx) (ts:List Expr) (gt:List D->ao->R ao):Prop:=PGs X ts λ vs σ H Q=>ago X gt vs σ H Q
section
variable {X:Cx} {pos:Pos}
theorem In.set {O:Addr->Prop} {H:Hp} {ρ:ao} {σ:St} (j:In X O H ρ σ) {i:Nat} (hi:i < X.N.length) {d:D} {v:V} (r:Rep X.K O H d v):In X O H (ρ.set i (some (.val d))) (σ.set i (some v)):=by
 have h1:i < ρ.length:=by rw[j.ju];exact hi
 have h2:i < σ.length:=by rw[j.len];exact hi
 refine⟨⟨λ k e q=>?_,λ k l e e' u hkl qk ql ok ol sk sl=>?_⟩,j.al,by rw[List.length_set];exact j.len,by rw[List.length_set];exact j.ju⟩
 ·by_cases hk:k=i
  ·subst hk;rw[z2a h1] at q;cases q;exact⟨v,z2a h2,r⟩
  ·rw[z1e (Ne.symm hk)] at q;obtain⟨u,q1,q2⟩:=j.env.get k e q;exact⟨u,by rw[z1e (Ne.symm hk)];exact q1,q2⟩
 ·have hk:k≠i:=λ z=>by subst z;rw[z2a h1] at qk;cases qk;cases ok
  have hl:l≠i:=λ z=>by subst z;rw[z2a h1] at ql;cases ql;cases ol
  rw[z1e (Ne.symm hk)] at qk sk;rw[z1e (Ne.symm hl)] at ql sl;exact j.env.sep k l e e' u hkl qk ql ok ol sk sl
noncomputable def aG (i:Nat) (d:D) (ρ:ao):R ao:= .ok (ρ.set i (some (.val d)))
theorem bA (i:Nat) {x:Str} (hN:X.N.Nodup) (hi:autoParam (X.N[i]?=some x) aN._auto_1) (hx:autoParam (Loc X.env.scope x) lJ._auto_1) (hf:autoParam (X.fn x=true\/X.env.scope.names.lookup x=some .local) lK._auto_1):DG X (.Name x pos) (aG i):=by
 intro pins s σ H v u Q I r h;obtain⟨ρ,O,d,ρ',j,rd,e,q⟩:=h;cases e;exact pg_name hN hi hx hf pins s σ H v u Q I r (q _ (j.set (z1b hi).1 rd))
noncomputable def nilG:List D->ao->R ao
 |[],ρ=> .ok ρ
 |_,_=> .bad
noncomputable def bB (t:D->ao->R ao) (u:List D->ao->R ao):List D->ao->R ao
 |d::ds,ρ=>(t d ρ).bind λ ρ'=>u ds ρ'
 |_,_=> .bad
theorem sS:DGs X [] nilG:=by
 intro pins s σ H vs us Q I r h;obtain⟨ρ,O,ds,ρ',j,rd,e,q⟩:=h;cases ds with
 |nil=>cases e;exact pgs_nil pins s σ H vs us Q I r ⟨rd.nil_inv,q _ j⟩
 |cons d ds=>cases e
theorem iJ {e:Expr} {es:List Expr} {t:D->ao->R ao} {u:List D->ao->R ao} (h1:DG X e t) (h2:DGs X es u)
  (hs:autoParam ((assignEach (e::es) X.env).map (·.2)=assign e X.env::(assignEach es X.env).map (·.2)) aN._auto_1):DGs X (e::es) (bB t u):=by
 intro pins s σ H vs us Q I r h;obtain⟨ρ,O,ds,ρ',j,rd,e,q⟩:=h;cases ds with
 |nil=>cases e
 | cons d ds=>
  obtain⟨x,xs,rfl,rx,rxs⟩:=rd.cons_inv;have e':(t d ρ).bind (λ ρ'=>u ds ρ')= .ok ρ':=e;cases q1:t d ρ with
  |bad=>rw[q1] at e';cases e'
  |err c=>rw[q1] at e';cases e'
  | ok ρ1=>
   rw[q1] at e';refine pgs_cons h1 h2 hs pins s σ H _ us Q I r ⟨x,xs,rfl,ρ,O,d,ρ1,j,rx,q1,λ σ1 j1=>?_⟩;exact⟨ρ1,O,ds,ρ',j1,rxs,e',q⟩
noncomputable def eU (u:List D->ao->R ao):D->ao->R ao
 | .tup ds,ρ=>u ds ρ
 |_,_=> .bad
noncomputable def eV (n:Nat) (u:List D->ao->R ao):List D->ao->R ao:=λ ds ρ=>if ds.length=n then u ds ρ else .bad
theorem yR {es:List Expr} {k:Nat} {u:List D->ao->R ao} {n:Nat} (hc:X.calm=true) (h:DGs X es u)
  (hn:autoParam ((assignEach es X.env).length=n) aN._auto_1) (hst:autoParam ((assignEach es X.env).findIdx? (·.1)=none) aN._auto_1):DG X (.Tuple es k pos) (eU (eV n u)):=by
 intro pins s σ H v w Q I r q;obtain⟨ρ,O,d,ρ',j,rd,e,q⟩:=q;cases d with
 | tup ds=>
  obtain⟨a,xs,rfl,hq,rs⟩:=rd.tup;have e':(if ds.length=n then u ds ρ else .bad)= .ok ρ':=e;by_cases hl:ds.length=n
  ·rw[if_pos hl] at e';exact pg_tup hc h hn hst pins s σ H _ w Q I r ⟨a,xs,rfl,hq,by rw[<-rs.length];exact hl,ρ,O,ds,ρ',j,rs,e',q⟩
  ·rw[if_neg hl] at e';cases e'
 |_=>cases e
end
noncomputable def mU (x:Str):List Str->Nat
 |[]=>0
 |y::r=>if x=y then 0 else mU x r+1
theorem zL {x:Str}:∀{N:List Str},x∈N->N[mU x N]?=some x
 |[],h=>by simp at h
 | y ::r,h=>by
  unfold mU;by_cases e:x=y
  ·rw[if_pos e,e];rfl
  ·rw[if_neg e];rcases List.mem_cons.mp h with z |z
   ·exact absurd z e
   ·simpa using zL z
noncomputable def pull {α:Type} (N caps:List Str) (n:Nat) (l:List (Option α)):List (Option α):=List.replicate n none++caps.map λ x=>(l[mU x N]?).join
theorem zM {α:Type} (N caps:List Str) (n:Nat) (l:List (Option α)):(pull N caps n l).length=n+caps.length:=by simp[pull]
theorem join_some {α:Type} {o:Option (Option α)} {a:α} (h:o.join=some a):o=some (some a):=by
 cases o with
 |none=>cases h
 |some o=>exact congrArg some h
theorem tR {α:Type} {N caps:List Str} {n:Nat} {l:List (Option α)} {i:Nat} {a:α} (h:(pull N caps n l)[i]?=some (some a)):∃j x,i=n+j/\caps[j]?=some x/\l[mU x N]?=some (some a):=by
 unfold pull at h;by_cases hi:i < n
 ·rw[List.getElem?_append_left (by simpa using hi),List.getElem?_replicate,if_pos hi] at h;cases h
 ·rw[List.getElem?_append_right (by simpa using hi),List.length_replicate,z2b] at h;cases e:caps[i - n]? with
  |none=>rw[e] at h;cases h
  | some x=>
   rw[e] at h;exact⟨i - n,x,by exact aiS hi,e,join_some (Option.some.inj h)⟩
theorem Lg {α:Type} {N caps:List Str} {n:Nat} {l:List (Option α)} {j:Nat} {x:Str} (h:caps[j]?=some x):(pull N caps n l)[n+j]?=some (l[mU x N]?).join:=by
 unfold pull;rw[List.getElem?_append_right (by simp),List.length_replicate,z2b,show n+j - n=j by exact af5,h];rfl
noncomputable def dF (sc:Scope):List Str:=(sc.names.filter λ x=>decide (x.2= .free)).map (·.1)
noncomputable def wH (outer sc:Scope) (ts N:List Str):Bool:=
 decide (sc.kind= .function) && sc.names.all (λ x=>(!decide (x.2= .local)) || decide (sc.names.lookup x.1=some .local)) && sc.names.all (λ x=>(!decide (x.2= .cell)) || decide (sc.names.lookup x.1=some .cell)) &&
  (dF sc).all (λ x=>(decide (outer.names.lookup x=some .cell) || decide (outer.names.lookup x=some .free)) && decide (x∈N) && decide (sc.names.lookup x=some .free)) && decide (ts++dF sc).Nodup
structure Fw (outer sc:Scope) (ts N:List Str):Prop where
 kind:sc.kind= .function
 loc:∀x∈sc.names,x.2= .local->sc.names.lookup x.1=some .local
 cel:∀x∈sc.names,x.2= .cell->sc.names.lookup x.1=some .cell
 out:∀x∈dF sc,outer.names.lookup x=some .cell\/outer.names.lookup x=some .free
 mem:∀x∈dF sc,x∈N
 fre:∀x∈dF sc,sc.names.lookup x=some .free
 nd:(ts++dF sc).Nodup
theorem ah9 {outer sc:Scope} {ts N:List Str} (h:wH outer sc ts N=true):Fw outer sc ts N:=by
 unfold wH at h;simp only[Bool.and_eq_true,List.all_eq_true,decide_eq_true_eq,Bool.or_eq_true,Bool.not_eq_true',decide_eq_false_iff_not] at h;obtain⟨⟨⟨⟨h1,h2⟩,h3⟩,h4⟩,h5⟩:=h;exact⟨h1,λ x hx e=>(h2 x hx).resolve_left λ n=>n e,λ x hx e=>(h3 x hx).resolve_left λ n=>n e,λ x hx=>(h4 x hx).1.1,λ x hx=>(h4 x hx).1.2,λ x hx=>(h4 x hx).2,h5⟩
noncomputable def jz (cs:List (Str×Addr)):List (Str×NameKind)->List (Str×Addr)->List (Str×Addr)
 |[],acc=>acc
 |(n,k)::r,acc=>if k= .free then jz cs r ((n,(cs.lookup n).getD 0)::acc) else jz cs r acc
theorem Yx {scope:Scope} {env:PySem.Env} (h:∀x∈scope.names,x.2= .free->∃c,env.cells.lookup x.1=some c):closureFor scope env=pure (jz env.cells scope.names []):=by
 unfold closureFor;have all:∀(l:List (Str×NameKind)) (acc:List (Str×Addr)),(∀x∈l,x.2= .free->∃c,env.cells.lookup x.1=some c)->
   (forIn l acc λ x r=>match x with |(name,kind)=>if (kind ==NameKind.free)=true then do let a <-cellOf env name;pure (ForInStep.yield ((name,a)::r)) else pure (ForInStep.yield r):Sem (List (Str×Addr)))=pure (jz env.cells l acc):=by
  intro l
  induction l with
  |nil=>intro acc _u;rfl
  | cons x r ih=>
   intro acc hx;obtain⟨n,k⟩:=x;rw[List.forIn_cons];unfold jz;by_cases hk:k= .free
   ·obtain⟨c,hc⟩:=hx (n,k) List.mem_cons_self hk;have hc:env.cells.lookup n=some c:=hc;have e1:cellOf env n=pure c:=by unfold cellOf;rw[hc]
    subst hk;simp only[e1,hc,Option.getD_some,beq_self_eq_true,if_true,pure_bind];exact ih _ λ y hy=>hx y (z2f _ hy)
   ·have e2:(k ==NameKind.free)=false:=by simpa using hk
    simp only[e2,Bool.false_eq_true,if_false,pure_bind,hk];exact ih _ λ y hy=>hx y (z2f _ hy)
 simpa using all scope.names [] h
theorem nY (cs:List (Str×Addr)):∀(l:List (Str×NameKind)) (acc:List (Str×Addr)),jz cs l acc=jz cs l []++acc
 |[],acc=>rfl
 | (n,k)::r,acc=>by
  unfold jz;split
  ·rw[nY cs r (_::acc),nY cs r [_]];simp
  ·exact nY cs r acc
set_option tactic.hygienic true in
theorem tU (cs:List (Str×Addr)):∀(l:List (Str×NameKind)) {n:Str} {c:Addr},(n,c)∈jz cs l []->(n,NameKind.free)∈l/\c=(cs.lookup n).getD 0
 |[],_,_,h=>by simp[jz] at h
 | (m, k)::r,n,c,h=>by
  unfold jz at h;split at h
  ·rename_i hk;rw[nY] at h;rcases List.mem_append.mp h with h |h
   ·obtain⟨h1,h2⟩:=tU cs r h;exact⟨z2f _ h1,h2⟩
   ·have e:=List.mem_singleton.mp h;cases e;subst hk;exact⟨List.mem_cons_self,rfl⟩
  ·obtain⟨h1,h2⟩:=tU cs r h;exact⟨z2f _ h1,h2⟩
set_option tactic.hygienic true in
theorem G8 (cs:List (Str×Addr)):∀(l:List (Str×NameKind)) {n:Str},(n,NameKind.free)∈l->((jz cs l []).lookup n).isSome=true
 |[],_,h=>by simp at h
 | (m, k)::r,n,h=>by
  unfold jz;split
  ·rename_i hk;rw[nY,List.lookup_append];rcases List.mem_cons.mp h with e |h
   ·cases e;simp[List.lookup_cons]
   ·simp[G8 cs r h]
  ·rename_i hk;rcases List.mem_cons.mp h with e |h
   ·cases e;exact absurd rfl hk
   ·exact G8 cs r h
theorem fU:∀(l:List (Str×NameKind)) (n:Nat) (acc:List (Str×Addr)),cellsFrom n l acc=cellsFrom n l []++acc
 |[],_,_=>rfl
 | (m,k)::r,n,acc=>by
  unfold cellsFrom;split
  ·rw[fU r _ (_::acc),fU r _ [_]];simp
  ·exact fU r n acc
set_option tactic.hygienic true in
theorem rY:∀(l:List (Str×NameKind)) (n:Nat) {x:Str} {c:Addr},(x,c)∈cellsFrom n l []->(x,NameKind.cell)∈l/\n<=c
 |[],_,_,_,h=>by simp[cellsFrom] at h
 | (m, k)::r,n,x,c,h=>by
  unfold cellsFrom at h;split at h
  ·rename_i hk;rw[fU] at h;rcases List.mem_append.mp h with h |h
   ·obtain⟨h1,h2⟩:=rY r _ h;exact⟨z2f _ h1,by exact z0e h2⟩
   ·have e:=List.mem_singleton.mp h;cases e;have:k= .cell:=by simpa using hk
    subst this;exact⟨List.mem_cons_self,z0g _⟩
  ·obtain⟨h1,h2⟩:=rY r _ h;exact⟨z2f _ h1,h2⟩
section
variable {M:Model} {A:Around} {E:Value->Shared->Prop} {s:Shared}
theorem aaS {scope:Scope} {globals:Addr} {cl:List (Str×Addr)} {qual:Str} {env:PySem.Env} {Q:PySem.Env->Shared->Prop}
  (hQ:Q (newEnv scope s.heap.objs.size globals (cellsFrom (s.heap.objs.size+1) scope.names cl) qual none .none (some env) builtinsNs) {s with heap:=pushCells (s.heap.push {cls:= .type "dict",data:= .dict #[]}) scope.names}):
  wpAny M A (newFunctionEnv scope globals cl [] qual none .none (some env)) Q E s:=by
 simp only[newFunctionEnv,Option.isSome_some,if_true];refine wpAny_bind (wpAny_alloc ?_);refine wpAny_bind (wpAny_layCells _ (λ name kind cells=>by cases hkc:kind ==NameKind.cell <;> simp[hkc]) _ _ _ _ ?_);rw[show ({s with heap:=s.heap.push {cls:= .type "dict",data:= .dict #[]}}:Shared).heap.objs.size=s.heap.objs.size+1 from Heap.size_push ..];exact wpAny_bind (wpAny_pure (wpAny_pure hQ))
end
noncomputable def iQ (scope:Scope) (env:PySem.Env) (C:Addr):PySem.Env:=
 {scope:=relabel scope env,locals:=C,globals:=env.globals,cells:=cellsFrom (C+1) scope.names (jz env.cells scope.names []),qual:=env.qual,func:=none,code:=env.code,frame:=env.frame,builtins:=env.builtins}
noncomputable def bJ (X:Cx) (scope:Scope) (ts:List Str) (C:Addr) (s:Shared) (H:Hp) (ex:List Addr):Cx where
 prog:=X.prog
 w:=X.w
 K:=X.K
 mg:=X.mg
 base:=X.base
 A:=X.A
 N:=ts++dF scope
 s₀:=s
 H₀:=H
 env:=iQ scope X.env C
 outer:=X.stack
 stack:=X.stack
 ex:=ex
 fn:=λ x=>decide (scope.names.lookup x=some .cell)
 calm:=X.calm
 pn:=[]
 xe:=λ _u _u=>False
theorem qp {scope:Scope} {env:PySem.Env} {x:Str}:∀{names:List (Str×NameKind)},
  (names.map λ (n,k)=>if (k ==NameKind.free && env.scope.kind == .function && env.kindOf n ==some .cell) then (n,NameKind.cell) else (n,k)).lookup x =
   (names.lookup x).map λ k=>if (k ==NameKind.free && env.scope.kind == .function && env.kindOf x ==some .cell) then .cell else k
 |[]=>rfl
 | (n, k)::r=>by
  have ih:= @qp scope env x r;rw[z1h];show List.lookup x ((if (k ==NameKind.free && env.scope.kind == .function && env.kindOf n ==some .cell)=true then (n,NameKind.cell) else (n,k))::_)=_;cases hx:x ==n with
  | true=>
   have e:x=n:=by simpa using hx
   subst e;by_cases hc:(k ==NameKind.free && env.scope.kind == .function && env.kindOf x ==some .cell)=true
   ·rw[if_pos hc];simp only[List.lookup_cons,beq_self_eq_true,Option.map_some,hc,if_true]
   ·rw[if_neg hc];simp only[List.lookup_cons,beq_self_eq_true,Option.map_some,hc,if_false] <;> rfl
  | false=>
   by_cases hc:(k ==NameKind.free && env.scope.kind == .function && env.kindOf n ==some .cell)=true
   ·rw[if_pos hc];simp only[List.lookup_cons,hx];exact ih
   ·rw[if_neg hc];simp only[List.lookup_cons,hx];exact ih
theorem tV {sc:Scope} {x:Str} (h:(x,NameKind.free)∈sc.names):x∈dF sc:=List.mem_map.mpr ⟨(x,.free),List.mem_filter.mpr ⟨h,by simp⟩,rfl⟩
theorem aeM {sc:Scope} {x:Str} (h:x∈dF sc):(x,NameKind.free)∈sc.names:=by
 obtain⟨⟨n,k⟩,h1,h2⟩:=List.mem_map.mp h;obtain⟨h3,h4⟩:=List.mem_filter.mp h1;have h4:k=NameKind.free:=by simpa using h4
 subst h4;have h2:n=x:=h2;subst h2;exact h3
section
variable {X:Cx} {scope:Scope} {ts:List Str} {C:Addr}
theorem mZ (B:Fw X.env.scope scope ts X.N) (has:∀x,(X.env.kindOf x=some .cell\/X.env.kindOf x=some .free)->∃c,X.env.cells.lookup x=some c) {x:Str} {c:Addr} (h:(iQ scope X.env C).cells.lookup x=some c):
  (scope.names.lookup x=some .cell/\@LE.le Nat _ (C+1) c)\/(x∈dF scope/\X.env.cells.lookup x=some c):=by
 have h:(cellsFrom (C+1) scope.names (jz X.env.cells scope.names [])).lookup x=some c:=h;rw[fU,List.lookup_append] at h;cases e:(cellsFrom (C+1) scope.names []).lookup x with
 | some c'=>
  rw[e] at h;have e2:c'=c:=by simpa using h
  subst e2;obtain⟨h1,h2⟩:=rY _ _ (PySem.mem_of_lookup e);exact .inl ⟨B.cel _ h1 rfl,h2⟩
 | none=>
  rw[e] at h;have h:(jz X.env.cells scope.names []).lookup x=some c:=by simpa using h
  obtain⟨h1,h2⟩:=tU _ _ (PySem.mem_of_lookup h);have hx:=tV h1;obtain⟨c',hc'⟩:=has x (B.out x hx);rw[hc'] at h2;have h2:c=c':=h2;subst h2;exact .inr ⟨hx,hc'⟩
theorem Ql (B:Fw X.env.scope scope ts X.N) {x:Str} {c:Addr} (hx:x∈dF scope) (hc:X.env.cells.lookup x=some c) (has:∀x,(X.env.kindOf x=some .cell\/X.env.kindOf x=some .free)->∃c,X.env.cells.lookup x=some c):(iQ scope X.env C).cells.lookup x=some c:=by
 have hs:=G8 X.env.cells scope.names (aeM hx);obtain⟨c',e⟩:=Option.isSome_iff_exists.mp hs;have hl:∃d,(iQ scope X.env C).cells.lookup x=some d:=by
  show ∃d,(cellsFrom (C+1) scope.names (jz X.env.cells scope.names [])).lookup x=some d;rw[fU,List.lookup_append,e];cases (cellsFrom (C+1) scope.names []).lookup x with
  |none=>exact⟨c',rfl⟩
  |some d=>exact⟨d,rfl⟩
 obtain⟨d,hd⟩:=hl;rcases mZ B has hd with⟨h1,_⟩ |⟨_,h2⟩
 ·rw[B.fre x hx] at h1;cases h1
 ·rw[hc] at h2;cases h2;exact hd
theorem ac6 (B:Fw X.env.scope scope ts X.N) {x:Str} (hx:x∈dF scope):(iQ scope X.env C).kindOf x=some .cell\/(iQ scope X.env C).kindOf x=some .free:=by
 show (relabel scope X.env).names.lookup x=some .cell\/(relabel scope X.env).names.lookup x=some .free;have e:(relabel scope X.env).names.lookup x=(scope.names.lookup x).map λ k=>if (k ==NameKind.free && X.env.scope.kind == .function && X.env.kindOf x ==some .cell) then .cell else k:=qp (scope:=scope);rw[e,B.fre x hx];simp only[Option.map_some];split
 ·exact .inl rfl
 ·exact .inr rfl
end
noncomputable def yS {α:Type}:R α->R α
 | .err _=> .bad
 | .ok a=> .ok a
 | .bad=> .bad
@[simp] theorem rK {α:Type} (a:α):yS (R.ok a)= .ok a:=rfl
noncomputable def lg (k:D->R (Option D)):List D->R (List D)
 |[]=> .ok []
 |x::xs=>(yS (k x)).bind λ o=>(lg k xs).bind λ ds=> .ok (o.toList++ds)
noncomputable def nR (gt:D->ao->R ao) (ft:ao->R Bool) (fe:ao->R D) (ρ:ao) (x:D):R (Option D):=
 (gt x ρ).bind λ ρ1=>(ft ρ1).bind λ b=>if b=true then (fe ρ1).bind λ d=> .ok (some d) else .ok none
noncomputable def vQ:Option Ent->Option Ent
 |some (.val d)=>some (.val d)
 |some (.obj (.dct a o k))=>some (.obj (.dct a o k))
 |_=>none
noncomputable def vR (n:Nat) (caps:List Nat) (ρ:ao):ao:=List.replicate n none++caps.map λ k=>((ρ.map vQ)[k]?).join
noncomputable def aV (n:Nat) (caps:List Nat) (fi:ao->R (List D)) (gt:D->ao->R ao) (ft:ao->R Bool) (fe:ao->R D):ao->R D:=
 λ ρ=>(fi ρ).bind λ xs=>(lg (nR gt ft fe (vR n caps ρ)) xs).bind (cap .lst)
noncomputable def m5 (n:Nat) (gt:D->ao->R ao):Prop:=∀d ρ ρ',gt d ρ= .ok ρ'->∀i,n<=i->ρ'[i]?=ρ[i]?
noncomputable def Fx (n:Nat) (gt:List D->ao->R ao):Prop:=∀d ρ ρ',gt d ρ= .ok ρ'->∀i,n<=i->ρ'[i]?=ρ[i]?
theorem aR {n i:Nat} (h:i < n):m5 n (aG i):=λ d ρ ρ' e j hj=>by
 cases e;rw[z1e (by exact aiT h hj)]
theorem oX {n:Nat}:Fx n nilG:=λ d ρ ρ' e j hj=>by
 cases d with
 |nil=>cases e;rfl
 |cons _ _=>cases e
theorem dZ {n:Nat} {t:D->ao->R ao} {u:List D->ao->R ao} (h1:m5 n t) (h2:Fx n u):Fx n (bB t u):=λ d ρ ρ' e j hj=>by
 cases d with
 |nil=>cases e
 | cons d ds=>
  have e':(t d ρ).bind (λ ρ'=>u ds ρ')= .ok ρ':=e;cases q:t d ρ with
  |ok ρ1=>rw[q] at e';rw[h2 ds ρ1 ρ' e' j hj,h1 d ρ ρ1 q j hj]
  |err c=>rw[q] at e';cases e'
  |bad=>rw[q] at e';cases e'
theorem oY {n m:Nat} {u:List D->ao->R ao} (h:Fx n u):m5 n (eU (eV m u)):=λ d ρ ρ' e j hj=>by
 cases d with
 | tup ds=>
  have e':(if ds.length=m then u ds ρ else .bad)= .ok ρ':=e;by_cases hl:ds.length=m
  ·rw[if_pos hl] at e';exact h ds ρ ρ' e' j hj
  ·rw[if_neg hl] at e';cases e'
 |_=>cases e
noncomputable def Gj (Y:Cx) (ifs:List Expr) (ft:ao->R Bool):Prop:=∀(pins:List (Addr×Obj)) (s:Shared) (σ:St) (H:Hp) (Q:Bool->Hp->Prop),Inv Y pins σ H s->tG Y rB ft σ H Q->
 wpAny (model Y.prog Y.w) Y.A (forIn ifs true λ c r=>if r=true then do let ok <-isTrue c Y.env (eval c Y.env);pure (ForInStep.yield ok) else pure (ForInStep.yield r)) (TP Y pins σ Q) Y.xe s
theorem bO {Y:Cx}:Gj Y [] (λ _u=> .ok true):=λ pins s σ H Q I h=>by
 obtain⟨ρ,O,j,h⟩:=h;exact wpAny_tests_nil ⟨H,I,fin h rfl⟩
theorem Lh {Y:Cx} {c:Expr} {p:ao->R Bool} (hc:DT Y c p):Gj Y [c] p:=λ pins s σ H Q I h=>wpAny_tests_one (hc pins s σ H Q I h)
theorem aaT {k:D->R (Option D)} {x:D} {xs:List D} {all:List D} (h:lg k (x::xs)= .ok all):∃o rest,k x= .ok o/\lg k xs= .ok rest/\all=o.toList++rest:=by
 have h:(yS (k x)).bind (λ o=>(lg k xs).bind λ ds=> .ok (o.toList++ds))= .ok all:=h;cases e:k x with
 |bad=>rw[e] at h;cases h
 |err c=>rw[e] at h;cases h
 | ok o=>
  rw[e] at h;cases e2:lg k xs with
  |bad=>rw[e2] at h;cases h
  |err c=>rw[e2] at h;cases h
  | ok rest=>
   rw[e2] at h;cases h;exact⟨o,rest,rfl,rfl,rfl⟩
theorem Jk {k:D->R (Option D)}:∀{xs:List D} {c:Str},lg k xs≠.err c
 |[],c=>λ h=>by cases h
 | x ::xs,c=>λ h=>by
  have h:(yS (k x)).bind (λ o=>(lg k xs).bind λ ds=> .ok (o.toList++ds))= .err c:=h;cases e:k x with
  |bad=>rw[e] at h;cases h
  |err c=>rw[e] at h;cases h
  | ok o=>
   rw[e] at h;cases e2:lg k xs with
   |bad=>rw[e2] at h;cases h
   |err c'=>exact Jk e2
   |ok rest=>rw[e2] at h;cases h
section
variable {X:Cx}
theorem Yy {o:Option Ent} {e:Ent} (h:vQ o=some e):o=some e/\e.W6=true:=by
 cases o with
 |none=>cases h
 | some e'=>
  cases e' with
  |val d=>cases h;exact⟨rfl,rfl⟩
  |lst _=>cases h
  |Bt _=>cases h
  | obj t=>cases t with
   |dct a o k=>cases h;exact⟨rfl,rfl⟩
   |exc _=>cases h
   |fn _=>cases h
theorem zN {ρ:ao} {i:Nat} {e:Ent} (h:(ρ.map vQ)[i]?=some (some e)):ρ[i]?=some (some e)/\e.W6=true:=by
 rw[z2b] at h;cases q:ρ[i]? with
 |none=>rw[q] at h;cases h
 | some o=>
  rw[q] at h;obtain⟨h1,h2⟩:=Yy (Option.some.inj h);rw[h1];exact⟨rfl,h2⟩
theorem In.vals {O:Addr->Prop} {H:Hp} {ρ:ao} {σ:St} (j:In X O H ρ σ):In X O H (ρ.map vQ) σ:=
 ⟨⟨λ i e h=>j.env.get i e (zN h).1,λ i k e e' v hik hi hk=>j.env.sep i k e e' v hik (zN hi).1 (zN hk).1⟩,j.al,j.len,by rw[z1g];exact j.ju⟩
theorem Yz {N caps:List Str} {ks:List Nat} {n:Nat} {ρ:ao} (h:caps.map (λ x=>mU x N)=ks):pull N caps n (ρ.map vQ)=vR n ks ρ:=by
 unfold pull vR;rw[<-h,List.map_map];rfl
theorem aeN {scope:Scope} {ts:List Str} {pins:List (Addr×Obj)} {σ:St} {H:Hp} {s:Shared} {fp:List Addr} (I:Inv X pins σ H s) (B:Fw X.env.scope scope ts X.N)
  (hf:∀b∈fp,FpOk X pins H b) (ho:∀b∈fp,b < s.heap.objs.size) {h4:Heap} {C:Nat} (hC:C=s.heap.objs.size+1)
  (e4:h4=pushCells ((s.heap.push {cls:= .type "list",dict:=none,data:= .seq ([]:List Value).toArray}).push {cls:= .type "dict",data:= .dict #[]}) scope.names):
  Inv (bJ X scope ts C s H fp) [] (pull X.N (dF scope) ts.length σ) (upd H s.heap.objs.size (.lst [])) {s with heap:=h4}:=by
 have hD:H s.heap.objs.size=none:=I.hok.fresh (z0g _);have aev:∀b o,(s.heap.push {cls:= .type "list",dict:=none,data:= .seq ([]:List Value).toArray}).get? b=some o->h4.get? b=some o:=λ b o e=>by
  rw[e4];exact pushCells_keeps _ _ b o (z1a _ e)
 have keep:∀b o,s.heap.get? b=some o->h4.get? b=some o:=λ b o e=>aev b o (z1a _ e);have sz3:(s.heap.push {cls:= .type "list",dict:=none,data:= .seq ([]:List Value).toArray}).objs.size=s.heap.objs.size+1:=Heap.size_push ..;have hns:h4.Ns C λ _u=>none:=by
  rw[e4,hC,<-sz3];exact (Heap.Ns.new _ (.type "dict")).keeps (pushCells_keeps _ _)
 have ok:=cellsFrom_ok scope.names ((s.heap.push {cls:= .type "list",dict:=none,data:= .seq ([]:List Value).toArray}).push {cls:= .type "dict",data:= .dict #[]}) (C+1) [] ⟨λ _u _u hm=>(nomatch hm),List.Pairwise.nil⟩ (by rw[Heap.size_push,sz3,hC];exact z0g _);rw[Heap.size_push,sz3,<-hC,<-e4] at ok;have aeO:∀x c,(iQ scope X.env C).cells.lookup x=some c->scope.names.lookup x=some .cell->h4.IsCell c none:=λ x c h hk=>by
  have h:(cellsFrom (C+1) scope.names (jz X.env.cells scope.names [])).lookup x=some c:=h;rw[fU,List.lookup_append] at h;cases e:(cellsFrom (C+1) scope.names []).lookup x with
  | some c'=>
   rw[e] at h;have e2:c'=c:=by simpa using h
   subst e2;exact (ok.empty x c' (PySem.mem_of_lookup e)).1
  | none=>
   rw[e] at h;have h:(jz X.env.cells scope.names []).lookup x=some c:=by simpa using h
   have:=B.fre x (tV (tU _ _ (PySem.mem_of_lookup h)).1);rw[hk] at this;cases this
 have YB:∀x (c:Nat),X.env.cells.lookup x=some c->c < s.heap.objs.size:=λ x c e=>by
  obtain⟨v,q⟩:=I.cell x c e;exact q.lt
 have agp:∀x c,(iQ scope X.env C).cells.lookup x=some c->∃v,h4.IsCell c v:=λ x c h=>by
  rcases mZ B I.ok.has h with⟨h1,_⟩ |⟨_,h2⟩
  ·exact⟨_,aeO x c h h1⟩
  ·obtain⟨v,q⟩:=I.cell x c h2;exact⟨v,q.keeps keep⟩
 refine⟨⟨I.ok.mod,B.kind,I.ok.glob,I.ok.blt,by show @LE.le Nat _ s.heap.objs.size C;exact af6 hC,?inj,?has,?cab,I.ok.hd,I.ok.frames,.inl rfl,?exf,I.bs,z0b I.ok.bsz I.sz,?noex,?exfs,I.stack,I.stkFree⟩,
  rfl,I.bare,Un.laid keep (z0g _) hD,⟨_,hns,?loc⟩,agp,?free,?freeC,λ p hp=>absurd (show p∈([]:List (Addr×Obj)) from hp) (by simp),I.hok.laid keep (z0g _) ?new,?len⟩
 case inj=>
  intro x y c h1 h2;have h1:(iQ scope X.env C).cells.lookup x=some c:=h1;have h2:(iQ scope X.env C).cells.lookup y=some c:=h2;rcases mZ B I.ok.has h1 with⟨a1,a2⟩ |⟨a1,a2⟩ <;> rcases mZ B I.ok.has h2 with⟨b1,b2⟩ |⟨b1,b2⟩
  ·-- both its own
   have look:∀z,(iQ scope X.env C).cells.lookup z=some c->scope.names.lookup z=some .cell->(z,c)∈cellsFrom (C+1) scope.names []:=λ z h hk=>by
    have h:(cellsFrom (C+1) scope.names (jz X.env.cells scope.names [])).lookup z=some c:=h;rw[fU,List.lookup_append] at h;cases e:(cellsFrom (C+1) scope.names []).lookup z with
    | some c'=>
     rw[e] at h;have e2:c'=c:=by simpa using h
     subst e2;exact PySem.mem_of_lookup e
    | none=>
     rw[e] at h;have h:(jz X.env.cells scope.names []).lookup z=some c:=by simpa using h
     have:=B.fre z (tV (tU _ _ (PySem.mem_of_lookup h)).1);rw[hk] at this;cases this
   exact name_of_addr ok.apart (look x h1 a1) (look y h2 b1)
  ·have:=YB y c b2;exact (af7 a2 hC this).elim
  ·have:=YB x c a2;exact (af7 b2 hC this).elim
  ·exact I.ok.inj x y c a2 b2
 case has=>
  intro x hx;have hx:(relabel scope X.env).names.lookup x=some .cell\/(relabel scope X.env).names.lookup x=some .free:=hx;have hx:(scope.names.map λ (n,k)=>if (k ==NameKind.free && X.env.scope.kind == .function && X.env.kindOf n ==some .cell) then (n,NameKind.cell) else (n,k)).lookup x=some .cell\/(scope.names.map λ (n,k)=>if (k ==NameKind.free && X.env.scope.kind == .function && X.env.kindOf n ==some .cell) then (n,NameKind.cell) else (n,k)).lookup x=some .free:=hx;rw[qp (scope:=scope)] at hx;cases e:scope.names.lookup x with
  |none=>rw[e] at hx;rcases hx with z |z <;> cases z
  | some k=>
   rw[e] at hx;by_cases hk:k= .free
   ·subst hk;have hm:=tV (PySem.mem_of_lookup e);obtain⟨c,hc⟩:=I.ok.has x (B.out x hm);exact⟨c,Ql B hm hc I.ok.has⟩
   ·have hk':(k ==NameKind.free)=false:=by simpa using hk
    simp only[Option.map_some,hk',Bool.false_and,Bool.false_eq_true,if_false] at hx;have hc:k= .cell:=by
     rcases hx with z |z
     ·exact Option.some.inj z
     ·exact absurd (Option.some.inj z) hk
    subst hc;have q:=PySem.W.cellsFrom_some scope.names (C+1) (jz X.env.cells scope.names []) (.inl e);exact Option.isSome_iff_exists.mp q
 case cab=>
  intro x c hfn h;have h:(iQ scope X.env C).cells.lookup x=some c:=h;have hfn:scope.names.lookup x=some .cell:=of_decide_eq_true hfn;rcases mZ B I.ok.has h with⟨_,a2⟩ |⟨a1,_⟩
  ·show @LE.le Nat _ s.heap.objs.size c;exact af8 a2 hC
  ·rw[B.fre x a1] at hfn;cases hfn
 case exf=>
  intro b hb;have hb:b∈fp:=hb;have hl: @LT.lt Nat _ b s.heap.objs.size:=ho b hb;refine⟨by show @Ne Nat b C;exact af9 hl hC,λ x c h=>?_⟩;rcases mZ B I.ok.has h with⟨_,a2⟩ |⟨_,a2⟩
  ·show @Ne Nat c b;exact aga a2 hl hC
  ·exact (hf b hb).2.2.2.2.1 x c a2
 case noex=>
  intro b o e hb;have hb:b∈fp:=hb;rcases (hf b hb).2.2.2.1 with z |z
  ·exact I.ok.noex b o e z
  ·exact absurd (z0d (z2c e) (z0b I.ok.bsz z)) (Nat.lt_irrefl _)
 case exfs=>
  intro b hb hz;have hb:b∈fp:=hb;have hz:b∈frs X.stack:=hz;rcases List.mem_cons.mp (I.stkSub b hz) with z |z
  ·exact (hf b hb).2.1 z
  ·exact (hf b hb).2.2.1 z
 case loc=>
  intro i x v h1 h2 h3;have h1:(ts++dF scope)[i]?=some x:=h1;obtain⟨k,y,e1,e2,e3⟩:=tR h2;have hy:x=y:=by
   rw[e1,List.getElem?_append_right (by exact Nat.le_add_right _ _),show ts.length+k - ts.length=k by exact af5,e2] at h1;exact (Option.some.inj h1).symm
  subst hy;have hm:x∈dF scope:=List.mem_of_getElem? e2;obtain⟨m,_,hl⟩:=I.loc;have vis:Vis X.env.scope x:=by
   rcases B.out x hm with z |z
   ·exact .inr (.inl z)
   ·exact .inr (.inr z)
  obtain⟨u,ru,lk⟩:=hl (mU x X.N) x v (zL (B.mem x hm)) e3 vis;refine⟨u,ru,.inr ⟨ac6 B hm,?_⟩⟩;rcases lk with⟨z,_⟩ |⟨_,c,hc,q⟩
  ·have z:X.env.scope.names.lookup x=some .local:=z;rcases B.out x hm with z' |z' <;> rw[z] at z' <;> cases z'
  ·exact⟨c,Ql B hm hc I.ok.has,q.keeps keep⟩
 case free=>
  show upd H s.heap.objs.size (.lst []) C=none;rw[upd_ne (show @Ne Nat C s.heap.objs.size by exact aiU hC)];exact I.hok.fresh (show @LE.le Nat _ s.heap.objs.size C by exact af6 hC)
 case freeC=>
  intro x c h;rcases mZ B I.ok.has h with⟨_,a2⟩ |⟨_,a2⟩
  ·rw[upd_ne (show @Ne Nat c s.heap.objs.size by exact aiV a2 hC)];exact I.hok.fresh (show @LE.le Nat _ s.heap.objs.size c by exact af8 a2 hC)
  ·have:=YB x c a2;rw[upd_ne (show @Ne Nat c s.heap.objs.size by exact Nat.ne_of_lt this)];exact I.freeC x c a2
 case new=>
  exact⟨Nat.zero_le _,[],0,.nil,aev _ _ (z1f _ rfl)⟩
 case len=>
  show (pull X.N (dF scope) ts.length σ).length=(ts++dF scope).length;rw[zM,z1d]
theorem agq {scope:Scope} {ts:List Str} {σ:St} {ρ:ao} {H:Hp} {s:Shared} {fp:List Addr} {O:Addr->Prop} {C:Addr} (B:Fw X.env.scope scope ts X.N) (j:In X O H ρ σ):In (bJ X scope ts C s H fp) O H (pull X.N (dF scope) ts.length ρ) (pull X.N (dF scope) ts.length σ):=by
 refine⟨⟨λ i e h=>?_,λ i k e e' v hik hi hk oi ok si sk=>?_⟩,j.al,?_,?_⟩
 ·obtain⟨m,x,rfl,e1,e2⟩:=tR h;obtain⟨v,e3,r⟩:=j.env.get _ e e2;exact⟨v,by rw[Lg e1,e3];rfl,r⟩
 ·obtain⟨m,x,rfl,e1,e2⟩:=tR hi;obtain⟨m',x',rfl,e1',e2'⟩:=tR hk;have hx:x≠x':=λ z=>by
   subst z;have nd:=(List.nodup_append.mp B.nd).2.1;exact hik (by rw[nodup_ix nd e1 e1'])
  have hm:=B.mem x (List.mem_of_getElem? e1);have hm':=B.mem x' (List.mem_of_getElem? e1');have hne:mU x X.N≠mU x' X.N:=λ z=>by
   have q1:=zL hm;have q2:=zL hm';rw[z,q2] at q1;exact hx (Option.some.inj q1).symm
  rw[Lg e1] at si;rw[Lg e1'] at sk;exact j.env.sep _ _ e e' v hne e2 e2' oi ok (join_some (Option.some.inj si)) (join_some (Option.some.inj sk))
 ·show (pull X.N (dF scope) ts.length σ).length=(ts++dF scope).length;rw[zM,z1d]
 ·show (pull X.N (dF scope) ts.length ρ).length=(ts++dF scope).length;rw[zM,z1d]
end
theorem mL:1000000 < sizeLine:=by rw[sizeLine_eq];decide
section
variable {X:Cx}
theorem In.back {Y:Cx} {O:Addr->Prop} {H:Hp} {ρ ρ1:ao} {σ:St} {n:Nat} (j:In Y O H ρ1 σ) (h0:∀i,i < n->ρ[i]?=some none) (h1:∀i,n<=i->ρ1[i]?=ρ[i]?) (hl:ρ.length=Y.N.length):In Y O H ρ σ:=by
 have sub:∀(i:Nat) e,ρ[i]?=some (some e)->ρ1[i]?=some (some e):=λ i e h=>by
  by_cases hi:i < n
  ·rw[h0 i hi] at h;cases h
  ·rw[h1 i (by exact Nat.not_lt.mp hi)];exact h
 exact⟨⟨λ i e h=>j.env.get i e (sub i e h),λ i k e e' v hik hi hk=>j.env.sep i k e e' v hik (sub i e hi) (sub k e' hk)⟩,j.al,j.len,hl⟩
theorem aaU {α:Type} {N caps:List Str} {n:Nat} {l:List (Option α)} {i:Nat} (h:i < n):(pull N caps n l)[i]?=some none:=by
 unfold pull;rw[List.getElem?_append_left (by simpa using h),List.getElem?_replicate,if_pos h]
theorem In.go {Y:Cx} {O O':Addr->Prop} {H H':Hp} {ρ:ao} {σ:St} (j:In Y O H ρ σ) (hv:∀(i:Nat) e,ρ[i]?=some (some e)->e.W6=true) (r:d7 Y.K O H O' H') (al:∀a,O' a->∃o,H' a=some o):In Y O' H' ρ σ:=by
 refine⟨⟨λ i e h=>?_,λ i k e e' v _u hi _u oi=>?_⟩,al,j.len,j.ju⟩
 ·obtain⟨v,h1,h2⟩:=j.env.get i e h;refine⟨v,h1,?_⟩;cases e with
  |val d=>exact Rep.go r h2
  |lst _=>cases hv i _ h
  |Bt _=>cases hv i _ h
  | obj t=>cases t with
   |dct a o k=>exact⟨h2.1,r.ext.dts _ _ _ h2.2⟩
   |exc _=>cases hv i _ h
   |fn _=>cases hv i _ h
 ·rw[aeL (hv i e hi)] at oi;cases oi
theorem M7 {N caps:List Str} {n:Nat} {ρ:ao}:∀(i:Nat) e,(pull N caps n (ρ.map vQ))[i]?=some (some e)->e.W6=true:=λ i e h=>by
 obtain⟨_,_,_,_,q⟩:=tR h;exact (zN q).2
end
set_option genInjectivity true in
inductive So where
 |bad |nx (ρ:ao) |rt (d:D) |bk (ρ:ao) |ct (ρ:ao) |ex (c:Str) (ρ:ao)
structure At (X:Cx) (H0:Hp) (O0 O:Addr->Prop) (H:Hp) (ρ:ao) (σ:St):Prop where
 same:Same H0 H
 cZ:d7 X.K O0 H0 O H
 sub:∀a,O0 a->O a
 inn:In X O H ρ σ
 mine:∀(i:Nat) e a,ρ[i]?=some (some e)->e.own=true->σ[i]?=some (some (.ref a))->H0 a=none/\¬O0 a
noncomputable def tX (X:Cx) (H0:Hp) (O0 O:Addr->Prop) (H:Hp) (E:Ends) (o:So):Prop:=match o with
 | .nx ρ'=>∀σ' H' O',At X H0 O0 O' H' ρ' σ'->d7 X.K O H O' H'->E.nx σ' H'
 | .bk ρ'=>∀σ' H' O',At X H0 O0 O' H' ρ' σ'->d7 X.K O H O' H'->E.bk σ' H'
 | .ct ρ'=>∀σ' H' O',At X H0 O0 O' H' ρ' σ'->d7 X.K O H O' H'->E.ct σ' H'
 | .rt d=>∀v H',Same H0 H'->Rep X.K O0 H' d v->E.rt v H'
 | .ex c ρ'=>∀σ' H' O',At X H0 O0 O' H' ρ' σ'->M4 X c σ' H'
 | .bad=>False
theorem tX.go {X:Cx} {H0 H H1:Hp} {O0 O O1:Addr->Prop} {E:Ends} {o:So} (h:tX X H0 O0 O H E o) (r:d7 X.K O H O1 H1):tX X H0 O0 O1 H1 E o:=by
 cases o with
 |bad=>exact h
 |rt d=>exact h
 |bk ρ2=>exact λ σ2 H2 O2 j2 r2=>h σ2 H2 O2 j2 (r.trans r2)
 |ct ρ2=>exact λ σ2 H2 O2 j2 r2=>h σ2 H2 O2 j2 (r.trans r2)
 |nx ρ2=>exact λ σ2 H2 O2 j2 r2=>h σ2 H2 O2 j2 (r.trans r2)
 |ex c ρ2=>exact h
noncomputable def tS (X:Cx) (g:ao->So):TS:=λ E σ H=>∃H0 O0 O ρ,At X H0 O0 O H ρ σ/\tX X H0 O0 O H E (g ρ)
noncomputable def DS (X:Cx) (st:Stmt) (g:ao->So):Prop:=PS X st (tS X g)
noncomputable def c7 (X:Cx) (st:List Stmt) (g:ao->So):Prop:=PSs X st (tS X g)
theorem PS.imp {X:Cx} {e:Stmt} {t t':TS} (h:PS X e t) (w:∀σ H Q,t' Q σ H->t Q σ H):PS X e t':=λ pins s σ H Q I q=>h pins s σ H Q I (w σ H Q q)
theorem PSs.imp {X:Cx} {e:List Stmt} {t t':TS} (h:PSs X e t) (w:∀σ H Q,t' Q σ H->t Q σ H):PSs X e t':=λ pins s σ H Q I q=>h pins s σ H Q I (w σ H Q q)
section
variable {X:Cx} {H0 H H1:Hp} {O0 O:Addr->Prop} {ρ:ao} {σ:St}
theorem At.grow (j:At X H0 O0 O H ρ σ) (s:Same H H1):At X H0 O0 O H1 ρ σ:=⟨j.same.trans s,j.cZ.trans (Same.cZ s),j.sub,j.inn.same s,j.mine⟩
theorem At.set (j:At X H0 O0 O H ρ σ) {i:Nat} (hi:i < X.N.length) {d:D} {v:V} (r:Rep X.K O H d v):At X H0 O0 O H (ρ.set i (some (.val d))) (σ.set i (some v)):=by
 refine⟨j.same,j.cZ,j.sub,j.inn.set hi r,λ k e a h ho hs=>?_⟩;have h1:i < ρ.length:=by rw[j.inn.ju];exact hi
 by_cases hk:k=i
 ·subst hk;rw[z2a h1] at h;cases h;cases ho
 ·rw[z1e (Ne.symm hk)] at h hs;exact j.mine k e a h ho hs
noncomputable def rC:Option Ent->Option Ent
 |some (.lst ds)=>some (.val (.lst ds))
 |o=>o
noncomputable def cG (ρ:ao):ao:=ρ.map rC
noncomputable def Qm (ρ:ao) (σ:St) (O:Addr->Prop):Addr->Prop:=λ a=>O a/\∀(i:Nat) ds,ρ[i]?=some (some (.lst ds))->σ[i]?≠some (some (.ref a))
theorem Qn {i:Nat} {e:Ent} (h:(cG ρ)[i]?=some (some e)):(ρ[i]?=some (some e)/\∀ds,e≠.lst ds)\/∃ds,ρ[i]?=some (some (.lst ds))/\e= .val (.lst ds):=by
 unfold cG at h;rw[z2b] at h;cases q:ρ[i]? with
 |none=>rw[q] at h;cases h
 | some o=>
  rw[q] at h;have h:rC o=some e:=Option.some.inj h;cases o with
  |none=>cases h
  | some e'=>
   cases e' with
   |val d=>cases h;exact .inl ⟨rfl,λ _u z=>by cases z⟩
   |lst ds=>cases h;exact .inr ⟨ds,rfl,rfl⟩
   |Bt kvs=>cases h;exact .inl ⟨rfl,λ _u z=>by cases z⟩
   |obj t=>cases h;exact .inl ⟨rfl,λ _u z=>by cases z⟩
theorem In.cG (j:In X O H ρ σ):In X (Qm ρ σ O) H (Pu.cG ρ) σ:=by
 refine⟨⟨λ i e h=>?_,λ i k e e' v hik hi hk oi ok si sk=>?_⟩,λ a z=>j.al a z.1,j.len,by unfold Pu.cG;rw[z1g];exact j.ju⟩
 ·rcases Qn h with⟨h1,h2⟩ |⟨ds,h1,rfl⟩
  ·obtain⟨v,h3,h4⟩:=j.env.get i e h1;refine⟨v,h3,?_⟩;cases e with
   |val d=>exact Rep.fewer (λ a z=>z.1) h4
   |lst ds=>exact absurd rfl (h2 ds)
   |obj t=>exact h4
   | Bt kvs=>
    obtain⟨a,ys,e1,o1,e2,k1,r1⟩:=h4;refine⟨a,ys,e1,⟨o1,λ k ds hk hs=>?_⟩,e2,k1,r1.fewer λ a z=>z.1⟩;by_cases hik:i=k
    ·subst hik;rw[h1] at hk;cases hk
    ·exact j.env.sep i k _ _ v hik h1 hk rfl rfl h3 (by rw[e1];exact hs)
  ·obtain⟨v,h3,a,xs,e1,o1,e2,r1⟩:=j.env.get i _ h1;exact⟨v,h3,by rw[e1];exact jN (SqL.of e2) (λ z=>z.2 i ds h1 (by rw[<-e1];exact h3)) (r1.fewer λ a z=>z.1)⟩
 ·have un:∀{m:Nat} {e:Ent},(Pu.cG ρ)[m]?=some (some e)->e.own=true->ρ[m]?=some (some e):=λ {m e} h ho=>by
   rcases Qn h with⟨h1,_⟩ |⟨ds,_,rfl⟩
   ·exact h1
   ·cases ho
  exact j.env.sep i k e e' v hik (un hi oi) (un hk ok) oi ok si sk
theorem At.agr (j:At X H0 O0 O H ρ σ):∀a,O0 a->Qm ρ σ O a:=λ a z=>⟨j.sub a z,λ i ds h hs=>(j.mine i _ a h rfl hs).2 z⟩
end
section
variable {X:Cx} {st:Stmt} {rest:List Stmt} {g k:ao->So} {f:ao->R D} {p:ao->R Bool} {e:Expr} {pos:Pos}
noncomputable def aP (g k:ao->So):ao->So:=λ ρ=>match g ρ with
 | .nx ρ'=>k ρ'
 |o=>o
theorem d9:c7 X [] .nx:=PSs.imp pss_nil λ σ H E h=>by
 obtain⟨H0,O0,O,ρ,j,h⟩:=h;exact h σ H O j .refl
theorem aO (h:DS X st g):c7 X [st] g:=pss_one h
theorem aJ (h1:DS X st g) (h2:c7 X rest k):c7 X (st::rest) (aP g k):=by
 refine PSs.imp (pss_cons h1 h2) λ σ H E h=>?_;obtain⟨H0,O0,O,ρ,j,h⟩:=h;unfold aP at h;refine⟨H0,O0,O,ρ,j,?_⟩;cases e1:g ρ with
 |bad=>rw[e1] at h;exact h
 |rt d=>rw[e1] at h;exact h
 |bk ρ'=>rw[e1] at h;exact h
 |ct ρ'=>rw[e1] at h;exact h
 |ex c ρ'=>rw[e1] at h;exact h
 | nx ρ'=>
  rw[e1] at h;have h:tX X H0 O0 O H E (k ρ'):=h;exact λ σ' H' O' j' r'=>⟨H0,O0,O',ρ',j',h.go r'⟩
noncomputable def jA (r:R D) (ρ:ao) (k:D->So):So:=match r with
 | .ok d=>k d
 | .err c=> .ex c ρ
 | .bad=> .bad
noncomputable def retS (f:ao->R D):ao->So:=λ ρ=>jA (f (cG ρ)) ρ .rt
theorem bK (he:DE X e f):DS X (.Return (some e) pos) (retS f):=by
 refine PS.imp (ps_ret he) λ σ H E h=>?_;obtain⟨H0,O0,O,ρ,j,h⟩:=h;refine⟨cG ρ,Qm ρ σ O,j.inn.cG,?_⟩;unfold retS jA at h;cases e1:f (cG ρ) with
 |bad=>rw[e1] at h;exact h
 |err c=>rw[e1] at h;exact h σ H O j
 |ok d=>rw[e1] at h;exact λ v H' s r=>h v H' (j.same.trans s) (Rep.fewer j.agr r)
noncomputable def mW (f:ao->R D):ao->So:=λ ρ=>jA (f (cG ρ)) ρ λ _u=> .nx ρ
theorem sU (he:DE X e f) (hs:autoParam (swapsWith e none pos.line X.env=pure false) aN._auto_1):DS X (.Expr e pos) (mW f):=by
 refine PS.imp (ps_expr he hs) λ σ H E h=>?_;obtain⟨H0,O0,O,ρ,j,h⟩:=h;refine⟨cG ρ,Qm ρ σ O,j.inn.cG,?_⟩;unfold mW jA at h;cases e1:f (cG ρ) with
 |bad=>rw[e1] at h;exact h
 |err c=>rw[e1] at h;exact h σ H O j
 |ok d=>rw[e1] at h;exact λ v H' s r=>h σ H' O (j.grow s) (Same.cZ s)
noncomputable def aZ (f:ao->R D) (gt:D->ao->R ao):ao->So:=λ ρ=>jA (f ρ) ρ λ d=>match gt d ρ with
 | .ok ρ'=> .nx ρ'
 |_=> .bad
theorem bL (i:Nat) {x:Str} {pos':Pos} (hN:X.N.Nodup) (he:DE X e f) (hi:autoParam (X.N[i]?=some x) aN._auto_1) (hx:autoParam (Loc X.env.scope x) lJ._auto_1) (hs:autoParam (swapsWith e (some (.Name x pos')) pos.line X.env=pure false) aN._auto_1)
  (hf:autoParam (X.fn x=true\/X.env.scope.names.lookup x=some .local) lK._auto_1):DS X (.Assign [.Name x pos'] e pos) (aZ f (aG i)):=by
 refine PS.imp (ps_set hN hi hx he hs hf) λ σ H E h=>?_;obtain⟨H0,O0,O,ρ,j,h⟩:=h;refine⟨ρ,O,j.inn,?_⟩;unfold aZ jA at h;cases e1:f ρ with
 |bad=>rw[e1] at h;exact h
 |err c=>rw[e1] at h;exact h σ H O j
 |ok d=>rw[e1] at h;exact λ v H' s r=>h _ H' O ((j.grow s).set (z1b hi).1 r) (Same.cZ s)
theorem Li (i k:Nat) {x y:Str} {px py pt:Pos} {kt} (hc:X.calm=true) (hN:X.N.Nodup) (he:DE X e f) (hi:autoParam (X.N[i]?=some x) aN._auto_1) (hk:autoParam (X.N[k]?=some y) aN._auto_1)
  (hx:autoParam (Loc X.env.scope x) lJ._auto_1) (hy:autoParam (Loc X.env.scope y) lJ._auto_1)
  (hfx:autoParam (X.fn x=true\/X.env.scope.names.lookup x=some .local) lK._auto_1) (Qo:autoParam (X.fn y=true\/X.env.scope.names.lookup y=some .local) lK._auto_1)
  (hs:autoParam (swapsWithSole [.Tuple [.Name x px,.Name y py] kt pt] e pos.line X.env=pure false) aN._auto_1) (hw:autoParam (swappedStores [.Tuple [.Name x px,.Name y py] kt pt] e X.env=pure none) aN._auto_1):
  DS X (.Assign [.Tuple [.Name x px,.Name y py] kt pt] e pos) (aZ f (eU (eV 2 (bB (aG i) (bB (aG k) nilG))))):=by
 refine PS.imp (ps_asg he (pg_tup hc (pgs_cons (pg_name hN hi hx hfx) (pgs_cons (pg_name hN hk hy Qo) pgs_nil))) hs hw) λ σ H E h=>?_;obtain⟨H0,O0,O,ρ,j,h⟩:=h;refine⟨ρ,O,j.inn,?_⟩;unfold aZ jA at h;cases e1:f ρ with
 |bad=>rw[e1] at h;exact h
 |err c=>rw[e1] at h;exact h σ H O j
 | ok d=>
  rw[e1] at h;intro v H' s r;cases d with
  | tup ds=>
   match ds,h,r with
   |[],h,_=>exact h.elim
   |[_],h,_=>exact h.elim
   |_::_::_::_,h,_=>exact (show False by simpa[eU,eV,tX] using h).elim
   | [d1,d2],h,r=>
    obtain⟨a,xs,rfl,hq,rs⟩:=r.tup;obtain⟨v1,v2,rfl,r1,r2⟩:=rs.two;refine⟨a,[v1,v2],rfl,hq,rfl,v1,[v2],rfl,v2,[],rfl,rfl,?_⟩;exact h _ H' O (((j.grow s).set (z1b hi).1 r1).set (z1b hk).1 r2) (Same.cZ s)
  |_=>exact h.elim
noncomputable def jB (p:ao->R Bool) (g k:ao->So):ao->So:=λ ρ=>match p (cG ρ) with
 | .ok true=>g ρ
 | .ok false=>k ρ
 | .err c=> .ex c ρ
 | .bad=> .bad
theorem W7 {g:ao->So} {E:Ends} {H0 H H1:Hp} {O0 O:Addr->Prop} {ρ:ao} {σ:St} (j:At X H0 O0 O H ρ σ) (s:Same H H1) (h:tX X H0 O0 O H E (g ρ)):tS X g E σ H1:=
 ⟨H0,O0,O,ρ,j.grow s,h.go (Same.cZ s)⟩
theorem iV {c:Expr} {a b:List Stmt} (hc:DT X c p) (ha:c7 X a g) (hb:c7 X b k):DS X (.If c a b pos) (jB p g k):=by
 refine PS.imp (ps_if hc ha hb) λ σ H E h=>?_;obtain⟨H0,O0,O,ρ,j,h⟩:=h;refine⟨cG ρ,Qm ρ σ O,j.inn.cG,?_⟩;unfold jB at h;cases e1:p (cG ρ) with
 |bad=>rw[e1] at h;exact h
 |err c=>rw[e1] at h;exact h σ H O j
 | ok t=>
  rw[e1] at h;intro b' H' s e;subst e;cases t with
  |true=>rw[if_pos rfl];exact W7 j s h
  |false=>rw[if_neg Bool.false_ne_true];exact W7 j s h
noncomputable def forL (gt:D->ao->R ao) (b:ao->So):List D->ao->So
 |[],ρ=> .nx ρ
 | x ::xs,ρ=>match gt x ρ with
  | .ok ρ1=>match b ρ1 with
   | .nx ρ2=>forL gt b xs ρ2
   | .ct ρ2=>forL gt b xs ρ2
   | .bk ρ2=> .nx ρ2
   |o=>o
  |_=> .bad
noncomputable def oV (fi:ao->R (List D)) (gt:D->ao->R ao) (b:ao->So):ao->So:=λ ρ=>match fi ρ with
 | .ok xs=>forL gt b xs ρ
 | .err c=> .ex c ρ
 | .bad=> .bad
inductive ags (X:Cx) (gt:D->ao->R ao) (v:V) (σ:St) (H:Hp) (Q:St->Hp->Prop):Prop
 |mk (H0:Hp) (O0 O:Addr->Prop) (ρ:ao) (d:D) (ρ':ao) (j:At X H0 O0 O H ρ σ) (r:Rep X.K O H d v) (e:gt d ρ= .ok ρ') (q:∀σ',At X H0 O0 O H ρ' σ'->Q σ' H):ags X gt v σ H Q
noncomputable def DGA (X:Cx) (tg:Expr) (gt:D->ao->R ao):Prop:=PG X tg λ v σ H Q=>ags X gt v σ H Q
theorem qu (i:Nat) {x:Str} (hN:X.N.Nodup) (hi:autoParam (X.N[i]?=some x) aN._auto_1) (hx:autoParam (Loc X.env.scope x) lJ._auto_1) (hf:autoParam (X.fn x=true\/X.env.scope.names.lookup x=some .local) lK._auto_1):DGA X (.Name x pos) (aG i):=by
 intro pins s σ H v u Q I r h;obtain⟨H0,O0,O,ρ,d,ρ',j,rd,e,q⟩:=h;cases e;exact pg_name hN hi hx hf pins s σ H v u Q I r (q _ (j.set (z1b hi).1 rd))
theorem Fy (i k:Nat) {x y:Str} {px py:Pos} {kt} (hc:X.calm=true) (hN:X.N.Nodup) (hi:autoParam (X.N[i]?=some x) aN._auto_1) (hk:autoParam (X.N[k]?=some y) aN._auto_1)
  (hx:autoParam (Loc X.env.scope x) lJ._auto_1) (hy:autoParam (Loc X.env.scope y) lJ._auto_1)
  (hfx:autoParam (X.fn x=true\/X.env.scope.names.lookup x=some .local) lK._auto_1) (Qo:autoParam (X.fn y=true\/X.env.scope.names.lookup y=some .local) lK._auto_1):
  DGA X (.Tuple [.Name x px,.Name y py] kt pos) (eU (eV 2 (bB (aG i) (bB (aG k) nilG)))):=by
 intro pins s σ H v u Q I r h;obtain⟨H0,O0,O,ρ,d,ρ',j,rd,e,q⟩:=h;cases d with
 | tup ds=>
  match ds,e,rd with
  |[],e,_=>cases e
  |[_],e,_=>cases e
  |_::_::_::_,e,_=>simp[eU,eV] at e
  | [d1,d2],e,rd=>
   obtain⟨a,xs,rfl,hq,rs⟩:=rd.tup;obtain⟨v1,v2,rfl,r1,r2⟩:=rs.two;cases e;refine pg_tup hc (pgs_cons (pg_name hN hi hx hfx) (pgs_cons (pg_name hN hk hy Qo) pgs_nil)) rfl rfl pins s σ H _ u Q I r ⟨a,[v1,v2],rfl,hq,rfl,v1,[v2],rfl,v2,[],rfl,rfl,?_⟩;exact q _ ((j.set (z1b hi).1 r1).set (z1b hk).1 r2)
 |_=>cases e
theorem m7 {tg iter:Expr} {body:List Stmt} {fi:ao->R (List D)} {gt:D->ao->R ao} {b:ao->So} (hp:PassesOwn (model X.prog X.w) X.A X.env X.xe) (hc:X.calm=true) (hi:DI X tg iter fi) (hg:DGA X tg gt) (hb:c7 X body b)
  (hs:autoParam (∀x,foldedSetIterable iter X.env x=pure x) yN._auto_1):DS X (.For tg iter body [] pos) (oV fi gt b):=by
 refine PS.imp (ps_for hp hc hi hg hb hs) λ σ H E h=>?_;obtain⟨H0,O0,O,ρ,j,h⟩:=h;refine⟨ρ,O,j.inn,?_⟩;unfold oV at h;cases e1:fi ρ with
 |bad=>rw[e1] at h;exact h
 |err c=>rw[e1] at h;exact h σ H O j
 | ok xs =>
  rw[e1] at h;have h:tX X H0 O0 O H E (forL gt b xs ρ):=h;intro J H1 s1 yr;have j1:=j.grow s1;have q1:d7 X.K O H O H1:=Same.cZ s1;refine⟨λ i m σ' H'=>∃O' ρ',At X H0 O0 O' H' ρ' σ'/\d7 X.K O H1 O' H'/\i<=xs.length/\m=xs.length - i/\forL gt b (xs.drop i) ρ'=forL gt b xs ρ,⟨_,O,ρ,j1,.refl,Nat.zero_le _,rfl,by simp⟩,?_⟩
  rintro i m σ' H' ⟨O',ρ',j',r',hil,rfl,hf⟩
  have yat:=yr O' H' r' i;by_cases hlt:i < xs.length
  ·have ed:xs.drop i=xs[i]::xs.drop (i+1):=List.drop_eq_getElem_cons hlt;obtain⟨jgo,jy⟩:=yat.1 xs[i] (by simp[hlt]);refine .inr ⟨jgo,λ σ2 H2=>∃O2 ρ2,At X H0 O0 O2 H2 ρ2 σ2/\d7 X.K O H1 O2 H2/\forL gt b (xs.drop (i+1)) ρ2=forL gt b xs ρ,?_,λ x H2 y=>?_⟩
   ·rintro σ2 H2 ⟨O2,ρ2,j2,r2,hf2⟩
    exact⟨xs.length - (i+1),by exact agb hlt,O2,ρ2,j2,r2,by assumption,rfl,hf2⟩
   ·obtain⟨sm,rep⟩:=jy x H2 y;rw[ed] at hf;have hf:(match gt xs[i] ρ' with
     | .ok ρ1=>match b ρ1 with
      | .nx ρ2=>forL gt b (xs.drop (i+1)) ρ2
      | .ct ρ2=>forL gt b (xs.drop (i+1)) ρ2
      | .bk ρ2=> .nx ρ2
      |o=>o
     |_=> .bad)=forL gt b xs ρ:=hf
    cases e2:gt xs[i] ρ' with
    |bad=>rw[e2] at hf;rw[<-hf] at h;exact h.elim
    |err c=>rw[e2] at hf;rw[<-hf] at h;exact h.elim
    | ok ρ1=>
     rw[e2] at hf;refine⟨H0,O0,O',ρ',xs[i],ρ1,j'.grow sm,rep,e2,λ σ3 j3=>?_⟩;refine⟨H0,O0,O',ρ1,j3,?_⟩;have r3:d7 X.K O H1 O' H2:=r'.trans (Same.cZ sm);have hf:(match b ρ1 with
      | .nx ρ2=>forL gt b (xs.drop (i+1)) ρ2
      | .ct ρ2=>forL gt b (xs.drop (i+1)) ρ2
      | .bk ρ2=> .nx ρ2
      |o=>o)=forL gt b xs ρ:=hf
     cases e3:b ρ1 with
     |bad=>rw[e3] at hf;rw[<-hf] at h;exact h
     |rt d=>rw[e3] at hf;rw[<-hf] at h;exact h
     |ex c ρ2=>rw[e3] at hf;rw[<-hf] at h;exact h
     |bk ρ2=>rw[e3] at hf;rw[<-hf] at h;exact λ σ4 H4 O4 j4 r4=>h σ4 H4 O4 j4 (q1.trans (r3.trans r4))
     |nx ρ2=>rw[e3] at hf;exact λ σ4 H4 O4 j4 r4=>⟨O4,ρ2,j4,r3.trans r4,hf⟩
     |ct ρ2=>rw[e3] at hf;exact λ σ4 H4 O4 j4 r4=>⟨O4,ρ2,j4,r3.trans r4,hf⟩
  ·have ei:i=xs.length:=by exact Yq hil hlt
   subst ei;have hf:forL gt b (xs.drop xs.length) ρ'=forL gt b xs ρ:=hf;rw[List.drop_length] at hf;rw[<-hf] at h;exact .inl ⟨yat.2 (z0g _),h σ' H' O' j' (q1.trans r')⟩
noncomputable def iw (p:ao->R Bool) (b:ao->So):Nat->ao->So
 |0,_=> .bad
 | n +1,ρ=>match p (cG ρ) with
  | .ok true=>match b ρ with
   | .nx ρ'=>iw p b n ρ'
   | .ct ρ'=>iw p b n ρ'
   | .bk ρ'=> .nx ρ'
   |o=>o
  | .ok false=> .nx ρ
  | .err c=> .ex c ρ
  | .bad=> .bad
theorem G9 (n:Nat) {c:Expr} {body:List Stmt} {b:ao->So} (hp:PassesOwn (model X.prog X.w) X.A X.env X.xe) (hc:DT X c p) (hb:c7 X body b):DS X (.While c body [] pos) (iw p b n):=by
 refine PS.imp (ps_while hp hc hb) λ σ H E h=>?_;obtain⟨H0,O0,O,ρ,j,h⟩:=h;have h:tX X H0 O0 O H E (iw p b n ρ):=h;refine⟨λ m σ' H'=>∃O' ρ',At X H0 O0 O' H' ρ' σ'/\d7 X.K O H O' H'/\iw p b m ρ'=iw p b n ρ,⟨n,O,ρ,j,.refl,rfl⟩,?_⟩
 rintro m σ' H' ⟨O',ρ',j',r',hf⟩
 refine⟨cG ρ',Qm ρ' σ' O',j'.inn.cG,?_⟩;cases m with
 |zero=>rw[<-hf] at h;exact h.elim
 | succ m =>
  have hf:(match p (cG ρ') with
   | .ok true=>match b ρ' with
    | .nx ρ'=>iw p b m ρ'
    | .ct ρ'=>iw p b m ρ'
    | .bk ρ'=> .nx ρ'
    |o=>o
   | .ok false=> .nx ρ'
   | .err c=> .ex c ρ'
   | .bad=> .bad)=iw p b n ρ:=hf
  cases e1:p (cG ρ') with
  |bad=>rw[e1] at hf;rw[<-hf] at h;exact h
  |err c=>rw[e1] at hf;rw[<-hf] at h;exact h σ' H' O' j'
  | ok t =>
   rw[e1] at hf;intro t' H1 s1 e;subst e;have j1:=j'.grow s1;have r1:d7 X.K O H O' H1:=r'.trans (Same.cZ s1);cases t with
   | false=>
    rw[if_neg Bool.false_ne_true];rw[<-hf] at h;exact h σ' H1 O' j1 r1
   | true=>
    rw[if_pos rfl];refine⟨λ σ2 H2=>∃O2 ρ2,At X H0 O0 O2 H2 ρ2 σ2/\d7 X.K O H O2 H2/\iw p b m ρ2=iw p b n ρ,?_,H0,O0,O',ρ',j1,?_⟩
    ·rintro σ2 H2 ⟨O2,ρ2,j2,r2,hf2⟩
     exact⟨m,by exact z0g _,O2,ρ2,j2,r2,hf2⟩
    ·have hf:(match b ρ' with
      | .nx ρ'=>iw p b m ρ'
      | .ct ρ'=>iw p b m ρ'
      | .bk ρ'=> .nx ρ'
      |o=>o)=iw p b n ρ:=hf
     cases e3:b ρ' with
     |bad=>rw[e3] at hf;rw[<-hf] at h;exact h
     |rt d=>rw[e3] at hf;rw[<-hf] at h;exact h
     |ex c ρ2=>rw[e3] at hf;rw[<-hf] at h;exact h
     |bk ρ2=>rw[e3] at hf;rw[<-hf] at h;exact λ σ4 H4 O4 j4 r4=>h σ4 H4 O4 j4 (r1.trans r4)
     |nx ρ2=>rw[e3] at hf;exact λ σ4 H4 O4 j4 r4=>⟨O4,ρ2,j4,r1.trans r4,hf⟩
     |ct ρ2=>rw[e3] at hf;exact λ σ4 H4 O4 j4 r4=>⟨O4,ρ2,j4,r1.trans r4,hf⟩
end
section
variable {X:Cx} {a b e:Expr} {es:List Expr} {f g:ao->R D} {fa:ao->R (List D)} {pos:Pos}
noncomputable def aia (K:PySem.W.Frag) (t:TA):TE:=λ σ H Q=>t σ H λ xs H1=>xs.length<=sizeLine/\∀p,H1 p=none->K.lookup p=none->Q (.ref p) (upd H1 p (.lst xs))
theorem Inv.YC {pins:List (Addr×Obj)} {σ:St} {H:Hp} {s:Shared} (I:Inv X pins σ H s):X.K.lookup s.heap.objs.size=none:=by
 cases q:X.K.lookup s.heap.objs.size with
 |none=>rfl
 |some o=>exact absurd (z2c (I.kIn _ _ q)) (Nat.lt_irrefl _)
theorem W8 {t:TA} (h:PA X es t):PE X (.List es pos) (aia X.K t):=by
 intro pins s σ H Q I hq;refine wpAny_List_spliced (thn (h pos pins s σ H _ I hq) λ us s1 ⟨xs,H1,I1,r,z,q⟩=>⟨by rw[<-r.length];exact z,?_⟩);have hf:H1 s1.heap.objs.size=none:=I1.hok.fresh (z0g _);refine⟨.ref s1.heap.objs.size,upd H1 s1.heap.objs.size (.lst xs),I1.laid (t':=s1.toks) (λ b u e=>z1a _ e) (z0g _) ?_,rfl,q _ hf (Inv.YC I1)⟩;exact⟨z,us,0,r,z1f _ rfl⟩
noncomputable def newL (fa:ao->R (List D)) (i:Nat):ao->So:=λ ρ=>match fa ρ with
 | .ok ds=>if ds.length<=1000000 then .nx (ρ.set i (some (.lst ds))) else .bad
 | .err c=> .ex c ρ
 | .bad=> .bad
theorem At.own {H0 H:Hp} {O0 O:Addr->Prop} {ρ:ao} {σ:St} (j:At X H0 O0 O H ρ σ) {i:Nat} (hi:i < X.N.length) {p:Addr} {o:HO} {en:Ent} (hp:H p=none) (hk:X.K.lookup p=none) (ho:en.own=true)
  (hr:zJ X.K (λ a=>O a\/a=p) (upd H p o) en (.ref p)):
  At X H0 O0 (λ a=>O a\/a=p) (upd H p o) (ρ.set i (some en)) (σ.set i (some (.ref p)))/\d7 X.K O H (λ a=>O a\/a=p) (upd H p o):=by
 have s1:Same H (upd H p o):=Same.upd hp;have r1:d7 X.K O H (λ a=>O a\/a=p) (upd H p o):=⟨(Same.cZ (K:=X.K) (O:=O) s1).ext,λ a z=>z.elim .inl λ e=> .inr (by rw[e];exact⟨hp,hk⟩),(Same.cZ (K:=X.K) (O:=O) s1).dom⟩;have h1:i < ρ.length:=by rw[j.inn.ju];exact hi
 have h2:i < σ.length:=by rw[j.inn.len];exact hi
 have nOp:¬O p:=j.inn.BW hp;have old:∀{e:Ent} {v:V},zJ X.K O H e v->zJ X.K (λ a=>O a\/a=p) (upd H p o) e v/\(e.own=true->v≠.ref p):=λ {e v} h=>by
  cases e with
  |val d=>exact⟨Rep.go r1 h,λ z=>by cases z⟩
  | lst ds=>
   obtain⟨a,xs,e1,o1,e2,r⟩:=h;exact⟨⟨a,xs,e1,.inl o1,s1 _ _ e2,r.go r1⟩,λ _u z=>by rw[e1] at z;cases z;exact nOp o1⟩
  |obj t=>exact⟨pB.same s1 h,λ z=>by cases z⟩
  | Bt kvs=>
   obtain⟨a,xs,e1,o1,e2,k,r⟩:=h;exact⟨⟨a,xs,e1,.inl o1,s1 _ _ e2,k,r.go r1⟩,λ _u z=>by rw[e1] at z;cases z;exact nOp o1⟩
 refine⟨⟨j.same.trans s1,j.cZ.trans r1,λ a z=> .inl (j.sub a z),⟨⟨λ k e h=>?_,λ k l e e' v hkl hk' hl ok ol sk sl=>?_⟩,λ a z=>?_,by rw[List.length_set];exact j.inn.len,by rw[List.length_set];exact j.inn.ju⟩,λ k e a h hoo hs=>?_⟩,r1⟩
 ·by_cases hki:k=i
  ·subst hki;rw[z2a h1] at h;cases h;exact⟨.ref p,z2a h2,hr⟩
  ·rw[z1e (Ne.symm hki)] at h;obtain⟨v,q1,q2⟩:=j.inn.env.get k e h;exact⟨v,by rw[z1e (Ne.symm hki)];exact q1,(old q2).1⟩
 ·by_cases hki:k=i
  ·subst hki;rw[z2a h2] at sk;cases sk;rw[z1e hkl] at hl sl;obtain⟨v,q1,q2⟩:=j.inn.env.get l e' hl;rw[q1] at sl;cases sl;exact (old q2).2 ol rfl
  ·rw[z1e (Ne.symm hki)] at hk' sk;by_cases hli:l=i
   ·subst hli;rw[z2a h2] at sl;cases sl;obtain⟨v,q1,q2⟩:=j.inn.env.get k e hk';rw[q1] at sk;cases sk;exact (old q2).2 ok rfl
   ·rw[z1e (Ne.symm hli)] at hl sl;exact j.inn.env.sep k l e e' v hkl hk' hl ok ol sk sl
 ·rcases z with z |z
  ·obtain⟨u,q⟩:=j.inn.al a z;exact⟨u,s1 _ _ q⟩
  ·rw[z];exact⟨o,upd_same⟩
 ·by_cases hki:k=i
  ·subst hki;rw[z2a h2] at hs;cases hs;exact⟨j.same.free hp,λ z=>nOp (j.sub _ z)⟩
  ·rw[z1e (Ne.symm hki)] at h hs;exact j.mine k e a h hoo hs
theorem W9 (i:Nat) {x:Str} {pos' p2:Pos} (hN:X.N.Nodup) (ha:DA X es fa) (hi:autoParam (X.N[i]?=some x) aN._auto_1) (hx:autoParam (Loc X.env.scope x) lJ._auto_1) (hs:autoParam (swapsWith (.List es p2) (some (.Name x pos')) pos.line X.env=pure false) aN._auto_1)
  (hf:autoParam (X.fn x=true\/X.env.scope.names.lookup x=some .local) lK._auto_1):DS X (.Assign [.Name x pos'] (.List es p2) pos) (newL fa i):=by
 refine PS.imp (ps_set hN hi hx (W8 ha) hs hf) λ σ H E h=>?_;obtain⟨H0,O0,O,ρ,j,h⟩:=h;refine⟨ρ,O,j.inn,?_⟩;unfold newL at h;cases e1:fa ρ with
 |bad=>rw[e1] at h;exact h
 |err c=>rw[e1] at h;exact h σ H O j
 | ok ds=>
  rw[e1] at h;intro vs H1 s1 r1;by_cases hl:ds.length<=1000000
  ·simp only[if_pos hl] at h;refine⟨by rw[<-r1.length];exact z0b hl dh,λ p hp hk=>?_⟩;obtain⟨j2,r2⟩:=(j.grow s1).own (z1b hi).1 (o:= .lst vs) (en:= .lst ds) hp hk rfl ⟨p,vs,rfl,.inr rfl,upd_same,r1.go ⟨(Same.cZ (K:=X.K) (O:=O) (Same.upd hp)).ext,λ a z=>z.elim .inl λ e=> .inr (by rw[e];exact⟨hp,hk⟩),(Same.cZ (K:=X.K) (O:=O) (Same.upd hp)).dom⟩⟩;exact h _ _ _ j2 ((Same.cZ s1).trans r2)
  ·simp only[if_neg hl] at h;exact h.elim
theorem At.chg {H0 H:Hp} {O0 O:Addr->Prop} {ρ:ao} {σ:St} (j:At X H0 O0 O H ρ σ) {i:Nat} {e0 en:Ent} {p:Addr} {u o:HO} (hi:ρ[i]?=some (some e0)) (h0:e0.own=true) (hp:σ[i]?=some (some (.ref p))) (hO:O p) (hu:H p=some u) (hm:Mut (some u)) (ho:en.own=true)
  (hr:d7 X.K O H O (upd H p o)->zJ X.K O (upd H p o) en (.ref p)):At X H0 O0 O (upd H p o) (ρ.set i (some en)) σ/\d7 X.K O H O (upd H p o):=by
 have nt:∀b xs,Rd H b (.tup xs)->b≠p:=λ b xs h z=>by
  subst z;rcases h with h |⟨_,h⟩ <;> rw[hu] at h <;> cases h <;> exact hm
 have r1:d7 X.K O H O (upd H p o):=by
  refine⟨⟨λ b xs h=>?_,λ b xs n h=>?_,λ b xs h=>by rw[upd_ne (nt b xs (.inl h))];exact h,λ b q k h=>by rw[upd_ne (λ e=>by rw[e,hu] at h;cases h;exact hm)];exact h⟩,λ a z=> .inl z,λ a z=>?_⟩
  ·have nb:=nt b xs h;rcases h with h |⟨q,h⟩
   ·exact .inl (by rw[upd_ne nb];exact h)
   ·exact .inr ⟨q,by rw[upd_ne nb];exact h⟩
  ·have nb:b≠p:=λ z=>n (by rw[z];exact hO);rcases h with h |⟨q,h⟩
   ·exact .inl (by rw[upd_ne nb];exact h)
   ·exact .inr ⟨q,by rw[upd_ne nb];exact h⟩
  ·by_cases ea:a=p
   ·rw[ea,upd_same] at z;cases z
   ·rw[upd_ne ea] at z;exact z
 have h1:i < ρ.length:=(z1b hi).1;obtain⟨hH0,hO0⟩:=j.mine i e0 p hi h0 hp;refine⟨⟨λ b q z=>?_,j.cZ.trans r1,j.sub,⟨⟨λ k e h=>?_,λ k l e e' v hkl hk' hl ok ol sk sl=>?_⟩,λ a z=>?_,j.inn.len,by rw[List.length_set];exact j.inn.ju⟩,λ k e a h hoo hs=>?_⟩,r1⟩
 ·rw[upd_ne (ne_of_none z hH0)];exact j.same _ _ z
 ·by_cases hki:k=i
  ·subst hki;rw[z2a h1] at h;cases h;exact⟨_,hp,hr r1⟩
  ·rw [z1e (Ne.symm hki)] at h;obtain⟨v,q1,q2⟩:=j.inn.env.get k e h;refine⟨v,q1,?_⟩;have nv:e.own=true->v≠.ref p:=λ z w=>by
    subst w;exact j.inn.env.sep k i e e0 _ hki h hi z h0 q1 hp
   cases e with
   |val d=>exact Rep.go r1 q2
   | obj t=>exact pB.fz (λ b o' u hb=>by
     have nb:b≠p:=λ z=>by rw[z,hu] at hb;cases hb;exact hm
     rw[upd_ne nb];exact hb) q2
   | lst ds=>
    obtain⟨a,xs,e1,o1,e2,r⟩:=q2;have na:a≠p:=λ z=>nv rfl (by rw[e1,z]);exact⟨a,xs,e1,o1,by rw[upd_ne na];exact e2,r.go r1⟩
   | Bt kvs=>
    obtain⟨a,xs,e1,o1,e2,kk,r⟩:=q2;have na:a≠p:=λ z=>nv rfl (by rw[e1,z]);exact⟨a,xs,e1,o1,by rw[upd_ne na];exact e2,kk,r.go r1⟩
 ·have un:∀{m:Nat} {x:Ent},(ρ.set i (some en))[m]?=some (some x)->x.own=true->∃y,ρ[m]?=some (some y)/\y.own=true:=λ {m x} h ho'=>by
   by_cases hmi:m=i
   ·rw[hmi];exact⟨e0,hi,h0⟩
   ·rw[z1e (Ne.symm hmi)] at h;exact⟨x,h,ho'⟩
  obtain⟨y,hy,oy⟩:=un hk' ok;obtain⟨y',hy',oy'⟩:=un hl ol;exact j.inn.env.sep k l y y' v hkl hy hy' oy oy' sk sl
 ·by_cases ea:a=p
  ·rw[ea];exact⟨o,upd_same⟩
  ·obtain⟨w,q⟩:=j.inn.al a z;exact⟨w,by rw[upd_ne ea];exact q⟩
 ·by_cases hki:k=i
  ·subst hki;rw[hp] at hs;cases hs;exact⟨hH0,hO0⟩
  ·rw[z1e (Ne.symm hki)] at h;exact j.mine k e a h hoo hs
noncomputable def wI (i:Nat) (f:ao->R D):ao->So:=λ ρ=>jA (yS (f ρ)) ρ λ d=>match ρ[i]? with
 |some (some (.lst ds))=>if ds.length < 1000000 then .nx (ρ.set i (some (.lst (ds++[d])))) else .bad
 |_=> .bad
theorem Jl (i:Nat) {x:Str} {px apos cpos:Pos} (he:DE X e f) (hN:autoParam (X.N[i]?=some x) aN._auto_1) (hv:autoParam (Vis X.env.scope x) su._auto_1)
  (hd:autoParam ((x ==("__debug__" :Str))=false) cD._auto_1) (hcd:autoParam ((x ==("__classdict__" :Str))=false) cD._auto_1)
  (hbase:autoParam (attributeBase (.Name x px) "append" X.env (eval (.Name x px) X.env)=eval (.Name x px) X.env) aN._auto_1)
  (hfew:((backTo cpos (starEach [e] X.env)).all (λ x=> !x.1) && (backToKw cpos (keywordEach [] X.env)).all (λ x=>x.1.isSome)
   && decide ([e].length+([]:List Keyword).length+(if ([]:List Keyword).isEmpty then 0 else 1) < 30))=true:=by rfl)
  (hline:autoParam ((apos.endLine ==cpos.line)=true) aN._auto_1) (hs1:autoParam (starEach [e] X.env=(false,eval e X.env)::starEach [] X.env) aN._auto_1) (hplain:autoParam ((backTo cpos (starEach [] X.env)).any (·.1)=false) aN._auto_1)
  (hs:autoParam (swapsWith (.Call (.Attribute (.Name x px) "append" apos) [e] [] cpos) none pos.line X.env=pure false) aN._auto_1):
  DS X (.Expr (.Call (.Attribute (.Name x px) "append" apos) [e] [] cpos) pos) (wI i f):=by
 refine PS.imp (ps_expr (pe_bm PySem.F.plainAttrs_list PySem.F.slot_list_append PySem.F.type_list_append mt_append (pe_var hN hv hd hcd) (pa_cons he pa_nil hs1) hbase hfew hline hs1 hplain) hs) λ σ H E h=>?_;obtain⟨H0,O0,O,ρ,j,h⟩:=h;unfold wI jA at h;cases e1:f ρ with
 |bad=>rw[e1] at h;exact h.elim
 |err c=>rw[e1] at h;exact h.elim
 | ok d =>
  rw[e1] at h;cases e2:ρ[i]? with
  |none=>simp only[e2] at h;exact h.elim
  | some oe=>
   cases oe with
   |none=>simp only[e2] at h;exact h.elim
   | some en=>
    cases en with
    |val _=>simp only[e2] at h;exact h.elim
    |Bt _=>simp only[e2] at h;exact h.elim
    |obj _=>simp only[e2] at h;exact h.elim
    | lst ds=>
     simp only[e2] at h;by_cases hl:ds.length < 1000000
     ·simp only[if_pos hl] at h;obtain⟨v,hv1,a,xs,rfl,hO,hH,rs⟩:=j.inn.env.get i _ e2;refine⟨.ref a,hv1,.inl ⟨rfl,xs,SqL.of hH⟩,?_⟩;refine⟨ρ,O,j.inn,?_⟩;rw[e1];intro w H1 s1 rw1;have j1:=j.grow s1;obtain⟨_,hv2,a2,xs2,e3,hO2,hH2,M8⟩:=j1.inn.env.get i _ e2;rw[hv1] at hv2;cases hv2;cases e3;have hlen:=M8.length;refine⟨a,xs2,w,rfl,rfl,hH2,by have:=mL;exact aiW this hl hlen,?_⟩;obtain⟨j2,r2⟩:=j1.chg (o:= .lst (xs2++[w])) (en:= .lst (ds++[d])) e2 rfl hv1 hO2 hH2 trivial rfl λ r=>⟨a,xs2++[w],rfl,hO2,upd_same,(M8.append (.cons rw1 .nil)).go r⟩;exact h _ _ _ j2 ((Same.cZ s1).trans r2)
     ·simp only[if_neg hl] at h;exact h.elim
end
inductive SpD (K:PySem.W.Frag) (n:Nat) (F:List D->R D) (vs:List V) (H:Hp) (Q:VK):Prop
 | mk (O:Addr->Prop) (ds:List D) (r:aK K O H ds vs) (hl:ds.length=n) (al:∀a,O a->∃o,H a=some o) (h:match F ds with
  | .ok d=>∀v H',Same H H'->Rep K O H' d v->Q v H'
  |_=>False):SpD K n F vs H Q
noncomputable def M9 (K:PySem.W.Frag) (n:Nat) (F:List D->R D):Sp:=λ vs H Q _u=>SpD K n F vs H Q
noncomputable def bY (n:Nat) (g:ao->So) (ds:List D):R D:=match g (ds.map (λ d=>some (.val d))++List.replicate n none) with
 | .rt d=> .ok d
 | .nx _=> .ok .non
 | .ex c _=> .err c
 |_=> .bad
section
variable {P:Program} {w:World} {K:PySem.W.Frag} {mg:Str->Option Value} {base:Heap}
theorem nM {K:PySem.W.Frag} {O:Addr->Prop} {H:Hp} {ds:List D} {vs:List V} (r:aK K O H ds vs) (m:Nat) (i:Nat) (e:Ent) (h:(ds.map (λ d=>some (Ent.val d))++List.replicate m none)[i]?=some (some e)):∃v,(vs.map some++List.replicate m none)[i]?=some (some v)/\zJ K O H e v/\e.own=false:=by
 by_cases hi:i < ds.length
 ·rw[List.getElem?_append_left (by simpa using hi),z2b] at h;cases q:ds[i]? with
  |none=>rw[q] at h;cases h
  | some d=>
   rw[q] at h;cases h;obtain⟨v,e1,rv⟩:=r.get q;exact⟨v,by rw[List.getElem?_append_left (by rw[z1g,<-r.length];exact hi),z2b,e1];rfl,rv,rfl⟩
 ·rw[List.getElem?_append_right (by simpa using hi),List.getElem?_replicate] at h;split at h <;> cases h
theorem fnD {x qual:Str} {st:Stmt} {f:Addr} {fd:FuncData} {N ps:List Str} {k n m:Nat} {g:ao->So} {F:List D->R D} (Fn:Fun K x qual st f fd) (S:FnScope N ps (defScope st)) (hn:ps.length=n) (hm:N.length=n+m)
  (hb:∀(cdv:Value) (A:Around) (outer:List PySem.Env) (s:Shared) (H:Hp) (E:XK),Room k (A.deeper (envOfC qual (defScope st) s.heap.objs.size f cdv))->c7 (cxOf CX0 P w K mg base N qual (defScope st) f cdv A outer s H E).nox (defBody st) g)
  (hF:∀ds d,ds.length=n->F ds= .ok d->bY m g ds= .ok d):FnOk P w K mg base CX0 (k+1) f fd ps (M9 K n F):=by
 refine Fn.ok S (λ vs H Q E h=>?_) (λ cdv A outer s H vs Q E hr h=>?_)
 ·obtain⟨O,ds,r,hl,_⟩:=h;rw[hn,<-hl,r.length]
 ·obtain⟨O,ds,r,hl,al,h⟩:=h;refine⟨_,hb cdv A outer s H E hr,H,O,O,ds.map (λ d=>some (.val d))++List.replicate m none,?_,?_⟩
  ·have hst:L2.start N vs=vs.map some++List.replicate m none:=by
    unfold L2.start;rw[show N.length - vs.length=m by rw[<-r.length];exact agc hm hl]
   refine⟨Same.refl _,.refl,λ _u z=>z,⟨⟨λ i e q=>?_,λ i k e e' v _u hi _u oi=>?_⟩,al,?_,?_⟩,λ i e a q ho=>?_⟩
   ·obtain⟨v,h1,h2,_⟩:=nM r m i e q;exact⟨v,by rw[hst];exact h1,h2⟩
   ·obtain⟨_,_,_,h3⟩:=nM r m i e hi;rw[h3] at oi;cases oi
   ·show (L2.start N vs).length=N.length;rw[hst,z1d,z1g,List.length_replicate,<-r.length];exact Yr hl hm
   ·show (ds.map (λ d=>some (Ent.val d))++List.replicate m none).length=N.length;rw[z1d,z1g,List.length_replicate];exact Yr hl hm
   ·obtain⟨_,_,_,h3⟩:=nM r m i e q;rw[h3] at ho;cases ho
  ·cases e:F ds with
   |bad=>rw[e] at h;exact h.elim
   |err c=>rw[e] at h;exact h.elim
   | ok d=>
    rw[e] at h;have q:=hF ds d hl e;unfold bY at q;cases e2:g (ds.map (λ d=>some (.val d))++List.replicate m none) with
    | rt d'=>
     rw[e2] at q;cases q;exact λ v H' s' r'=>h v H' s' r'
    | nx ρ'=>
     rw[e2] at q;cases q;exact λ σ' H' O' j' _u=>h .non H' j'.same Fi
    |bk _=>rw[e2] at q;cases q
    |ct _=>rw[e2] at q;cases q
    |ex _ _=>rw[e2] at q;cases q
    |bad=>rw[e2] at q;cases q
end
section
variable {X:Cx} {k n:Nat} {f:Addr} {fd:FuncData} {ps:List Str} {F:List D->R D} {x:Str} {p pos:Pos} {e:Expr} {es:List Expr} {fa:ao->R (List D)}
noncomputable def bC (F:List D->R D) (n:Nat) (ds:List D):R D:=if ds.length=n then yS (F ds) else .bad
theorem aeP (G:FnOk X.prog X.w X.K X.mg X.base CX0 k f fd ps (M9 X.K n F)) (hr:Room k X.A) (hg:Gl X x) (hm:X.mg x=some (.ref f)) (hk:PySem.W.keepIn X.K (.ref f)=true) (hb:Binds X.K fd ps [])
  (ha:DA X (e::es) fa) (hdb:autoParam ((x ==("__debug__" :Str))=false) cD._auto_1) (he:autoParam (starEach (e::es) X.env=(false,eval e X.env)::starEach es X.env) aN._auto_1) (hpl:autoParam ((backTo pos (starEach es X.env)).any (·.1)=false) aN._auto_1):
  DE X (.Call (.Name x p) (e::es) [] pos) (aF (bC F n) fa):=by
 refine PE.imp (pe_call (dvs:=[]) G hr hg hm hk hb .nil pass0 ha hdb he hpl) λ σ H Q h=>?_;obtain⟨ρ,O,j,h⟩:=h;refine go j h λ ds vs H1 e1 s1 r1 j1 h1=>?_;unfold bC at h1;by_cases hl:ds.length=n
 ·rw[if_pos hl] at h1;rw[List.append_nil];refine⟨O,ds,r1,hl,j1.al,?_⟩;cases q:F ds with
  |ok d=>rw[q] at h1;exact h1
  |err c=>rw[q] at h1;exact h1
  |bad=>rw[q] at h1;exact h1
 ·rw[if_neg hl] at h1;exact h1.elim
end
section
variable {X:Cx}
noncomputable def bW:List D->R D
 |[.tup ds]=> .ok (.int ds.length)
 |[.lst ds]=> .ok (.int ds.length)
 |_=> .bad
theorem cP:CallD X (.builtin "len") bW:=by
 refine⟨_,call_len_seq,λ ρ O σ H Q xs ds j r h=>?_⟩;unfold bW at h;split at h
 ·obtain⟨x,rfl,rx⟩:=r.one;obtain⟨a,ys,rfl,hq,rs⟩:=rx.tup;exact⟨a,ys,rfl,.inr hq,by rw[<-rs.length];exact fin h (bN _)⟩
 ·obtain⟨x,rfl,rx⟩:=r.one;obtain⟨a,ys,rfl,hq,_,rs⟩:=rx.lst;exact⟨a,ys,rfl,.inl hq,by rw[<-rs.length];exact fin h (bN _)⟩
 ·exact h.elim
noncomputable def qw:List D->R D
 |[.tup ds]=> .ok (.tup ds)
 |[.lst ds]=> .ok (.tup ds)
 |_=> .bad
theorem lR:CallD X (.type "tuple") qw:=by
 refine⟨_,call_tuple_of,λ ρ O σ H Q xs ds j r h=>?_⟩;unfold qw at h;split at h
 ·obtain⟨x,rfl,rx⟩:=r.one;obtain⟨a,ys,rfl,hq,rs⟩:=rx.tup;exact⟨a,ys,rfl,.inr ⟨hq,fin h rx⟩⟩
 ·obtain⟨x,rfl,rx⟩:=r.one;obtain⟨a,ys,rfl,hq,_,rs⟩:=rx.lst;exact⟨a,ys,rfl,.inl ⟨hq,λ l hl=>h _ _ (Same.upd hl) (Rep.sO hl rs)⟩⟩
 ·exact h.elim
noncomputable def boolsOf:List D->Option (List Bool)
 |[]=>some []
 | .bl b::r=>(boolsOf r).map (b:: ·)
 |_=>none
noncomputable def intsOf:List D->Option (List Int)
 |[]=>some []
 | .int i::r=>(intsOf r).map (i:: ·)
 |_=>none
theorem Xa {K:PySem.W.Frag} {O:Addr->Prop} {H:Hp}:∀{ds:List D} {bs:List Bool} {vs:List V},boolsOf ds=some bs->aK K O H ds vs->vs=bs.map V.bl
 |[],bs,vs,e,r=>by cases e;exact r.nil_inv
 | d ::ds,bs,vs,e,r=>by
  cases d with
  | bl b=>
   have e:(boolsOf ds).map (b:: ·)=some bs:=e;cases q:boolsOf ds with
   |none=>rw[q] at e;cases e
   | some l=>
    rw[q] at e;cases e;obtain⟨x,t,rfl,rx,rt⟩:=r.cons_inv;rw[rx.bl,Xa q rt];rfl
  |_=>cases e
theorem Qp {K:PySem.W.Frag} {O:Addr->Prop} {H:Hp}:∀{ds:List D} {bs:List Int} {vs:List V},intsOf ds=some bs->aK K O H ds vs->vs=bs.map V.int
 |[],bs,vs,e,r=>by cases e;exact r.nil_inv
 | d ::ds,bs,vs,e,r=>by
  cases d with
  | int b=>
   have e:(intsOf ds).map (b:: ·)=some bs:=e;cases q:intsOf ds with
   |none=>rw[q] at e;cases e
   | some l=>
    rw[q] at e;cases e;obtain⟨x,t,rfl,rx,rt⟩:=r.cons_inv;rw[rx.int,Qp q rt];rfl
  |_=>cases e
theorem Qq:∀{bs:List Bool} {us:List Value},Vals (bs.map V.bl) us->LSm.BoolsAre us bs
 |[],_,.nil=> .nil
 |b::bs,_,.cons r t=>by cases r;exact .cons b (Qq t)
theorem aaV (hc:X.calm=true):CallR X (.builtin "all") (λ xs H Q=>∃p,∃bs:List Bool,xs=[.ref p]/\SqL X.K H p (bs.map V.bl)/\Q (.bl (bs.all id)) H):=by
 intro pins s σ H xs us Q I r h;obtain⟨p,bs,rfl,hq,q⟩:=h;obtain⟨u,rfl,rx⟩:=vals1 r;cases rx;obtain⟨its,r',pl,hz⟩:=I.list hq;have hb:=Qq r';have hl:=pl.isList;have hlt:p < s.heap.objs.size:=by obtain⟨_,e,_⟩:=hl;exact z2c e
 refine call_all_walk (wpAny_pyIter_list hl ?_);refine⟨s.heap.objs.size,[s.heap.objs.size,p],[s.heap.objs.size],its.toArray.size,_,_,λ i=>(bs[i]?).getD true,rfl,Walks.list (A:=X.A.in1) (I.ok.hd hc) _ p (Nat.ne_of_lt hlt) its.toArray,
  ⟨⟨_,z1f _ rfl,rfl,rfl⟩,hl.push _⟩,λ i v s' Q' E' hP hQ=>?_,λ h' tk hk=>?_⟩
 ·obtain⟨b,e,rfl⟩:=hb.get i v (by simpa using hP);simp only[e,Option.getD_some] at hQ;exact wpAny_truthy_bool hQ
 ·have e:((List.range its.toArray.size).all λ i=>(bs[i]?).getD true)=bs.all id:=by
   rw[z1c,hb.length];exact LSm.range_all bs
  rw[e];exact⟨.bl _,H,I.kept (LSm.kept_iter hk),rfl,q⟩
noncomputable def Hg:List D->R D
 | [.lst ds]=>match boolsOf ds with
  |some bs=> .ok (.bl (bs.all id))
  |none=> .bad
 |_=> .bad
set_option tactic.hygienic true in
theorem Qs (hc:X.calm=true):CallD X (.builtin "all") Hg:=by
 refine⟨_,aaV hc,λ ρ O σ H Q xs ds j r h=>?_⟩;unfold Hg at h;split at h
 ·rename_i ds;obtain⟨x,rfl,rx⟩:=r.one;obtain⟨a,ys,rfl,hq,_,rs⟩:=rx.lst;cases e:boolsOf ds with
  |none=>rw[e] at h;exact h.elim
  | some bs=>
   rw[e] at h;have ey:=Xa e rs;subst ey;exact⟨a,bs,rfl,hq,fin h (gQ _)⟩
 ·exact h.elim
theorem aaW (hc:X.calm=true):CallR X (.builtin "sum") (λ xs H Q=>∃p,∃ns:List Int,xs=[.ref p]/\(SqL X.K H p (ns.map V.int)\/SqT X.K H p (ns.map V.int))/\Q (.int ns.sum) H):=by
 intro pins s σ H xs us Q I r h;obtain⟨p,ns,rfl,hq,q⟩:=h;obtain⟨u,rfl,rx⟩:=vals1 r;cases rx;have key:∀(its:List Value),Vals (ns.map V.int) its->∃zs:Array (Int×Tok),its.toArray=intItems zs/\preSum (numAt zs) zs.size=ns.sum:=λ its r'=>by
  have hi:=intsAre_of r';obtain⟨zs,hx⟩:=hi.allInts.items;refine⟨zs,hx,?_⟩;have e1:ns=zs.toList.map (·.1):=by
   rw[<-nums_intItems,<-hx];exact (show numsOf its.toArray.toList=ns from hi.numsOf).symm
  rw[preSum_eq,List.take_of_length_le (by simp),e1]
 rcases hq with hq |hq
 ·obtain⟨its,r',pl,hz⟩:=I.list hq;obtain⟨zs,e1,e2⟩:=key its r';refine sum_intListG (I.ok.hd hc) (e1▸pl.isList) λ h' tk t' hk=>?_;rw[e2];exact⟨.int _,H,I.kept hk,⟨t',rfl⟩,q⟩
 ·obtain⟨its,r',pl,hz⟩:=I.tuple hq;obtain⟨zs,e1,e2⟩:=key its r';refine PySem.W.ktm_sumG (I.ok.hd hc) (show s.heap.IsTuple p (intItems zs) from e1▸pl) λ h' tk t' hk=>?_;rw[e2];exact⟨.int _,H,I.kept hk,⟨t',rfl⟩,q⟩
noncomputable def Lj:List D->R D
 | [.lst ds]=>match intsOf ds with
  |some bs=> .ok (.int bs.sum)
  |none=> .bad
 | [.tup ds]=>match intsOf ds with
  |some bs=> .ok (.int bs.sum)
  |none=> .bad
 |_=> .bad
set_option tactic.hygienic true in
theorem aaX (hc:X.calm=true):CallD X (.builtin "sum") Lj:=by
 refine⟨_,aaW hc,λ ρ O σ H Q xs ds j r h=>?_⟩;unfold Lj at h;split at h
 ·rename_i ds;obtain⟨x,rfl,rx⟩:=r.one;obtain⟨a,ys,rfl,hq,_,rs⟩:=rx.lst;cases e:intsOf ds with
  |none=>rw[e] at h;exact h.elim
  | some bs=>
   rw[e] at h;have ey:=Qp e rs;subst ey;exact⟨a,bs,rfl,.inl hq,fin h (bN _)⟩
 ·rename_i ds;obtain⟨x,rfl,rx⟩:=r.one;obtain⟨a,ys,rfl,hq,rs⟩:=rx.tup;cases e:intsOf ds with
  |none=>rw[e] at h;exact h.elim
  | some bs=>
   rw[e] at h;have ey:=Qp e rs;subst ey;exact⟨a,bs,rfl,.inr hq,fin h (bN _)⟩
 ·exact h.elim
noncomputable def m8:D->String
 | .non=> "NoneType"
 | .bl _=> "bool"
 | .int _=> "int"
 | .str _=> "str"
 | .tup _=> "tuple"
 | .lst _=> "list"
theorem aaY (T:String) (ans:String->Bool) (hk:∀d:D,PySem.W.kitOne X.K (.type (m8 d)) (.type T)=some (ans (m8 d))):
  CallR X (.builtin "isinstance") (λ xs H Q=>∃x O d,xs=[x,.ty T]/\Rep X.K O H d x/\Q (.bl (ans (m8 d))) H):=by
 intro pins s σ H xs us Q I r h;obtain⟨x,O,d,rfl,rd,q⟩:=h;obtain⟨u,u2,rfl,rx,r2⟩:=vals2 r;cases r2;have e:=hk d;have fin':∀tk,EP X pins σ Q (.bool (ans (m8 d))) {s with toks:=tk}:=λ tk=>⟨.bl _,H,I.tok _,rfl,q⟩;cases d with
 | non=>
  cases rd.non;cases (show u=Value.none from rx);exact PySem.W.kia_one PySem.W.kitx_none I.kIn True.intro e (λ z=>nomatch z) fin'
 | bl b=>
  cases rd.bl;cases (show u=Value.bool b from rx);exact PySem.W.kia_one PySem.W.kitx_bool I.kIn True.intro e (λ z=>nomatch z) fin'
 | int i=>
  cases rd.int;obtain⟨t,z⟩:=(show ∃t,u=Value.int i t from rx);cases z;exact PySem.W.kia_one PySem.W.kitx_int I.kIn True.intro e (λ z=>nomatch z) fin'
 | str y=>
  cases rd.str;obtain⟨t,z⟩:=(show ∃t,u=Value.str y t from rx);cases z;exact PySem.W.kia_one PySem.W.kitx_str I.kIn True.intro e (λ z=>nomatch z) fin'
 | tup ds=>
  obtain⟨a,ys,rfl,hq,_⟩:=rd.tup;cases (show u=Value.ref a from rx);obtain⟨its,_,pl,_⟩:=I.tuple hq;obtain⟨o,h1,h2,_⟩:=pl;exact PySem.W.kia_one PySem.W.kitx_tuple I.kIn ⟨o,h1,h2⟩ e (λ z=>nomatch z) fin'
 | lst ds=>
  obtain⟨a,ys,rfl,hq,_,_⟩:=rd.lst;cases (show u=Value.ref a from rx);obtain⟨its,_,pl,_⟩:=I.list hq;obtain⟨o,n,h1,h2,_⟩:=pl;exact PySem.W.kia_one PySem.W.kitx_list I.kIn ⟨o,h1,h2⟩ e (λ z=>nomatch z) fin'
noncomputable def P0 (ans:String->Bool) (f:ao->R D):ao->R D:=λ ρ=>(f ρ).bind λ d=> .ok (.bl (ans (m8 d)))
theorem Ln {T:String} {ans:String->Bool} {x y:Str} {e:Expr} {f:ao->R D} {p p2 pos:Pos} (hk:∀d:D,PySem.W.kitOne X.K (.type (m8 d)) (.type T)=some (ans (m8 d))) (he:DE X e f)
  (hg:Gl X x) (hm:X.mg x=none) (hv:bootBuiltins x=some (.builtin "isinstance")) (hgy:Gl X y) (hmy:X.mg y=none) (hvy:bootBuiltins y=some (.type T)) (hn:autoParam (x≠"__name__") cD._auto_1) (hdb:autoParam ((x ==("__debug__" :Str))=false) cD._auto_1)
  (hny:autoParam (y≠"__name__") cD._auto_1) (hdy:autoParam ((y ==("__debug__" :Str))=false) cD._auto_1)
  (hs:autoParam (starEach [e,.Name y p2] X.env=(false,eval e X.env)::starEach [.Name y p2] X.env) aN._auto_1) (hs2:autoParam (starEach [.Name y p2] X.env=(false,eval (.Name y p2) X.env)::starEach [] X.env) aN._auto_1) (hpl:autoParam ((backTo pos (starEach [.Name y p2] X.env)).any (·.1)=false) aN._auto_1):
  DE X (.Call (.Name x p) [e,.Name y p2] [] pos) (P0 ans f):=by
 refine PE.imp (pe_callB (aaY T ans hk) hg hm hv (pa_cons he (pa_cons (pe_bltn (v:= .ty T) hgy hmy hvy rfl hny hdy) pa_nil hs2) hs) hn hdb hs hpl) λ σ H Q h=>?_;obtain⟨ρ,O,j,h⟩:=h;refine go j h λ d v H1 e1 s1 r1 j1 h1=>?_;exact⟨v,O,d,rfl,r1,fin h1 (gQ _)⟩
end
mutual
noncomputable def gU:D->D->Bool
 | .non,.non=>true
 | .bl a,.bl b=>a ==b
 | .bl a,.int b=>(if a then 1 else 0) ==b
 | .int a,.bl b=>a ==(if b then 1 else 0)
 | .int a,.int b=>a ==b
 | .str a,.str b=>a ==b
 | .tup a,.tup b=>rZ a b
 | .lst a,.lst b=>rZ a b
 |_,_=>false
noncomputable def rZ:List D->List D->Bool
 |[],[]=>true
 |x::xs,y::ys=>gU x y && rZ xs ys
 |_,_=>false
end
mutual
noncomputable def dep:D->Nat
 | .tup a=>deps a+1
 | .lst a=>deps a+1
 |_=>0
noncomputable def deps:List D->Nat
 |[]=>0
 |x::xs=>max (dep x) (deps xs)
end
theorem qy:∀{ds:List D} {d:D},d∈ds->dep d<=deps ds
 |[],_,h=>by simp at h
 | x::xs,d,h=>by
  rw[deps];rcases List.mem_cons.mp h with e |h
  ·subst e;exact Nat.le_max_left _ _
  ·exact z0b (qy h) (Nat.le_max_right _ _)
theorem tY (a b:Bool):gU (.bl a) (.bl b)=(a ==b):=rfl
theorem tZ (a:Bool) (b:Int):gU (.bl a) (.int b)=((if a then 1 else 0) ==b):=rfl
theorem uc (a:Int) (b:Bool):gU (.int a) (.bl b)=(a ==(if b then 1 else 0)):=rfl
theorem ud (a b:Int):gU (.int a) (.int b)=(a ==b):=rfl
theorem uf (a b:Str):gU (.str a) (.str b)=(a ==b):=rfl
theorem mJ (a b:List D):gU (.tup a) (.tup b)=rZ a b:=rfl
theorem iR (a b:List D):gU (.lst a) (.lst b)=rZ a b:=rfl
mutual
theorem Hh:∀d:D,gU d d=true
 | .non=>rfl
 | .bl a=>by simp[tY,tZ,uc,ud,uf,mJ,iR]
 | .int a=>by simp[tY,tZ,uc,ud,uf,mJ,iR]
 | .str a=>by simp[tY,tZ,uc,ud,uf,mJ,iR]
 | .tup a=>by rw[mJ];exact rM a
 | .lst a=>by rw[iR];exact rM a
theorem rM:∀d:List D,rZ d d=true
 |[]=>rfl
 |x::xs=>by rw[rZ,Hh x,rM xs];rfl
end
theorem ug:∀{xs ys:List D},xs.length≠ys.length->rZ xs ys=false
 |[],[],h=>absurd rfl h
 |[],_::_,_=>rfl
 |_::_,[],_=>rfl
 | x::xs,y::ys,h=>by
  rw[rZ,ug (xs:=xs) (ys:=ys) (λ e=>h (by simp[e])),Bool.and_false]
theorem uh:∀{xs ys:List D},xs.length=ys.length->rZ xs ys=(List.range xs.length).all λ i=>gU (xs.getD i .non) (ys.getD i .non)
 |[],[],_=>rfl
 |[],_::_,h=>by simp at h
 |_::_,[],h=>by simp at h
 | x::xs,y::ys,h=>by
  rw[rZ,uh (xs:=xs) (ys:=ys) (by simpa using h),List.length_cons,List.range_succ_eq_map,List.all_cons,List.all_map];rfl
end Pu
namespace Pu
open PySem PySem.Spec L2
open PyProof.Rows hiding St
open PySem.SeqAt
inductive LkT (X:Cx) (O:Addr->Prop) (H:Hp) (s:Shared) (ds:List D) (u:Value):Prop
 |mk (a:Addr) (xs:List V) (its:List Value) (e:u=Value.ref a) (q:SqT X.K H a xs) (v:Vals xs its) (p:s.heap.IsTuple a its.toArray) (r:aK X.K O H ds xs):LkT X O H s ds u
inductive LkL (X:Cx) (O:Addr->Prop) (H:Hp) (s:Shared) (ds:List D) (u:Value):Prop
 |mk (a:Addr) (xs:List V) (its:List Value) (e:u=Value.ref a) (q:SqL X.K H a xs) (v:Vals xs its) (p:s.heap.IsList a its.toArray) (r:aK X.K O H ds xs):LkL X O H s ds u
noncomputable def Lk (X:Cx) (O:Addr->Prop) (H:Hp) (s:Shared):D->Value->Prop
 | .non,u=>u=Value.none
 | .bl b,u=>u=Value.bool b
 | .int i,u=>∃t,u=Value.int i t
 | .str x,u=>∃t,u=Value.str x t
 | .tup ds,u=>LkT X O H s ds u
 | .lst ds,u=>LkL X O H s ds u
section
variable {X:Cx} {pins:List (Addr×Obj)} {σ:St} {H:Hp} {s:Shared} {O O':Addr->Prop}
theorem vU (I:Inv X pins σ H s) {d:D} {v:V} {u:Value} (r:Rep X.K O H d v) (q:RelV v u):Lk X O H s d u:=by
 cases d with
 |non=>cases r.non;exact q
 |bl b=>cases r.bl;exact q
 |int i=>cases r.int;exact q
 |str x=>cases r.str;exact q
 | tup ds=>
  obtain⟨a,xs,rfl,hq,rs⟩:=r.tup;cases (show u=Value.ref a from q);obtain⟨its,rv,p,_⟩:=I.tuple hq;exact⟨a,xs,its,rfl,hq,rv,p,rs⟩
 | lst ds=>
  obtain⟨a,xs,rfl,hq,_,rs⟩:=r.lst;cases (show u=Value.ref a from q);obtain⟨its,rv,p,_⟩:=I.list hq;exact⟨a,xs,its,rfl,hq,rv,p.isList,rs⟩
theorem isTuple_list {a:Addr} {p q:Array Value} (h1:s.heap.IsTuple a p) (h2:s.heap.IsList a q):False:=ne_of_list_tuple h2 h1 rfl
mutual
theorem Rep.inj (I:Inv X pins σ H s):∀(d e:D) (v:V),Rep X.K O H d v->Rep X.K O' H e v->d=e
 | .non,e,v,r,q=>by
  cases r.non;cases e with
  |non=>rfl
  |bl _=>cases q.bl
  |int _=>cases q.int
  |str _=>cases q.str
  |tup _=>obtain⟨_,_,z,_⟩:=q.tup;cases z
  |lst _=>obtain⟨_,_,z,_⟩:=q.lst;cases z
 | .bl b,e,v,r,q=>by
  cases r.bl;cases e with
  |non=>cases q.non
  |bl _=>cases q.bl;rfl
  |int _=>cases q.int
  |str _=>cases q.str
  |tup _=>obtain⟨_,_,z,_⟩:=q.tup;cases z
  |lst _=>obtain⟨_,_,z,_⟩:=q.lst;cases z
 | .int b,e,v,r,q=>by
  cases r.int;cases e with
  |non=>cases q.non
  |bl _=>cases q.bl
  |int _=>cases q.int;rfl
  |str _=>cases q.str
  |tup _=>obtain⟨_,_,z,_⟩:=q.tup;cases z
  |lst _=>obtain⟨_,_,z,_⟩:=q.lst;cases z
 | .str b,e,v,r,q=>by
  cases r.str;cases e with
  |non=>cases q.non
  |bl _=>cases q.bl
  |int _=>cases q.int
  |str _=>cases q.str;rfl
  |tup _=>obtain⟨_,_,z,_⟩:=q.tup;cases z
  |lst _=>obtain⟨_,_,z,_⟩:=q.lst;cases z
 | .tup ds,e,v,r,q=>by
  obtain⟨a,xs,rfl,hq,rs⟩:=r.tup;cases e with
  |non=>cases q.non
  |bl _=>cases q.bl
  |int _=>cases q.int
  |str _=>cases q.str
  | tup es=>
   obtain⟨b,ys,z,hq',rs'⟩:=q.tup;cases z;cases I.tuple_inj hq hq';rw[aK.inj I ds es xs rs rs']
  | lst es=>
   obtain⟨b,ys,z,hq',_,rs'⟩:=q.lst;cases z;obtain⟨_,_,p1,_⟩:=I.tuple hq;obtain⟨_,_,p2,_⟩:=I.list hq';exact (isTuple_list p1 p2.isList).elim
 | .lst ds,e,v,r,q=>by
  obtain⟨a,xs,rfl,hq,_,rs⟩:=r.lst;cases e with
  |non=>cases q.non
  |bl _=>cases q.bl
  |int _=>cases q.int
  |str _=>cases q.str
  | tup es=>
   obtain⟨b,ys,z,hq',rs'⟩:=q.tup;cases z;obtain⟨_,_,p1,_⟩:=I.tuple hq';obtain⟨_,_,p2,_⟩:=I.list hq;exact (isTuple_list p1 p2.isList).elim
  | lst es=>
   obtain⟨b,ys,z,hq',_,rs'⟩:=q.lst;cases z;cases I.list_inj hq hq';rw[aK.inj I ds es xs rs rs']
theorem aK.inj (I:Inv X pins σ H s):∀(ds es:List D) (vs:List V),aK X.K O H ds vs->aK X.K O' H es vs->ds=es
 | [],es,vs,r,q=>by
  rw[r.nil_inv] at q;cases es with
  |nil=>rfl
  |cons e es=>obtain⟨_,_,z,_⟩:=q.cons_inv;cases z
 | d ::ds,es,vs,r,q=>by
  obtain⟨x,t,rfl,rx,rt⟩:=r.cons_inv;cases es with
  |nil=>cases q.nil_inv
  | cons e es=>
   obtain⟨_,_,z,qx,qt⟩:=q.cons_inv;cases z;rw[Rep.inj I d e x rx qx,aK.inj I ds es t rt qt]
end
theorem qz {A:Around} {ds es:List D} {xs ys:List V} {its jts:List Value} (r1:aK X.K O H ds xs) (r2:aK X.K O' H es ys) (v1:Vals xs its) (v2:Vals ys jts)
  (ih:∀d∈ds,∀(e:D) (v w:V) (u u':Value),Rep X.K O H d v->Rep X.K O' H e w->RelV v u->RelV w u'->EqAt A s u u' (gU d e)):
  ∀j (h1:j < its.toArray.size) (h2:j < jts.toArray.size),EqAt A s its.toArray[j] jts.toArray[j] (gU (ds.getD j .non) (es.getD j .non)):=by
 intro j h1 h2;have e1:its[j]?=some its.toArray[j]:=by simp
 have e2:jts[j]?=some jts.toArray[j]:=by simp
 have l1:=v1.length;have l2:=v2.length;have k1:=r1.length;have k2:=r2.length;simp only[z1c] at h1 h2;obtain⟨v,ev,rv⟩:∃v,xs[j]?=some v/\RelV v its.toArray[j]:=by
  have hj:j < xs.length:=by exact ac0 h1 l1
  obtain⟨u,eu,ru⟩:=v1.get (i:=j) (x:=xs[j]) (by simp[hj]);rw[e1] at eu;cases eu;exact⟨_,by simp[hj],ru⟩
 obtain⟨w,ew,rw'⟩:∃v,ys[j]?=some v/\RelV v jts.toArray[j]:=by
  have hj:j < ys.length:=by exact ac0 h2 l2
  obtain⟨u,eu,ru⟩:=v2.get (i:=j) (x:=ys[j]) (by simp[hj]);rw[e2] at eu;cases eu;exact⟨_,by simp[hj],ru⟩
 obtain⟨d,ed,rd⟩:=r1.aU ev;obtain⟨e,ee,re⟩:=r2.aU ew;have g1:ds.getD j .non=d:=by simp[List.getD,ed]
 have g2:es.getD j .non=e:=by simp[List.getD,ee]
 rw[g1,g2];exact ih d (List.mem_of_getElem? ed) e v w _ _ rd re rv rw'
theorem Hi {ds es:List D} {n m:Nat} (hn:ds.length=n) (hm:es.length=m):((List.range (min n m)).all (λ j=>gU (ds.getD j .non) (es.getD j .non)) && n ==m)=rZ ds es:=by
 by_cases h:n=m
 ·subst h;rw[Nat.min_self,beq_self_eq_true,Bool.and_true,uh (by rw[hn,hm]),hn]
 ·rw[ug (by rw[hn,hm];exact h),show (n ==m)=false by simpa using h,Bool.and_false]
theorem Qt (I:Inv X pins σ H s) {A:Around} (hu:A.units < cLine) {d e:D} {u u':Value} (h1:Lk X O H s d u) (h2:Lk X O' H s e u')
  (ih:∀c∈(match d with | .tup ds=>ds | .lst ds=>ds |_=>[]),∀(e:D) (v w:V) (u u':Value),Rep X.K O H c v->Rep X.K O' H e w->RelV v u->RelV w u'->EqAt A.in1 s u u' (gU c e)):EqAt A s u u' (gU d e):=by
 cases d with
 | non=>
  cases h1;cases e with
  | non=>
   cases h2;exact EqAt.same _
  | bl b=>
   cases h2;exact EqAt.none_bool _
  | int b=>
   obtain⟨t2,rfl⟩:=h2;exact EqAt.none_int _ _
  | str b=>
   obtain⟨t2,rfl⟩:=h2;exact EqAt.none_str _ _
  | tup es=>
   obtain⟨p2,ys,jts,rfl,hq2,v2,hp2,r2⟩:=h2;exact EqAt.none_tuple hp2 hu
  | lst es=>
   obtain⟨p2,ys,jts,rfl,hq2,v2,hp2,r2⟩:=h2;exact EqAt.none_list hp2 hu
 | bl a=>
  cases h1;cases e with
  | non=>
   cases h2;exact EqAt.bool_none _
  | bl b=>
   cases h2;exact EqAt.bool_bool _ _
  | int b=>
   obtain⟨t2,rfl⟩:=h2;exact EqAt.bool_int _ _ _
  | str b=>
   obtain⟨t2,rfl⟩:=h2;exact EqAt.bool_str _ _ _
  | tup es=>
   obtain⟨p2,ys,jts,rfl,hq2,v2,hp2,r2⟩:=h2;exact EqAt.bool_tuple _ hp2 hu
  | lst es=>
   obtain⟨p2,ys,jts,rfl,hq2,v2,hp2,r2⟩:=h2;exact EqAt.bool_list _ hp2 hu
 | int a=>
  obtain⟨t1,rfl⟩:=h1;cases e with
  | non=>
   cases h2;exact EqAt.int_none _ _
  | bl b=>
   cases h2;exact EqAt.int_bool _ _ _
  | int b=>
   obtain⟨t2,rfl⟩:=h2;exact EqAt.int_int _ _ _ _
  | str b=>
   obtain⟨t2,rfl⟩:=h2;exact EqAt.int_str _ _ _ _
  | tup es=>
   obtain⟨p2,ys,jts,rfl,hq2,v2,hp2,r2⟩:=h2;exact EqAt.int_tuple _ _ hp2 hu
  | lst es=>
   obtain⟨p2,ys,jts,rfl,hq2,v2,hp2,r2⟩:=h2;exact EqAt.int_list _ _ hp2 hu
 | str a=>
  obtain⟨t1,rfl⟩:=h1;cases e with
  | non=>
   cases h2;exact EqAt.str_none _ _
  | bl b=>
   cases h2;exact EqAt.str_bool _ _ _
  | int b=>
   obtain⟨t2,rfl⟩:=h2;exact EqAt.str_int _ _ _ _
  | str b=>
   obtain⟨t2,rfl⟩:=h2;exact EqAt.str_str _ _ _ _
  | tup es=>
   obtain⟨p2,ys,jts,rfl,hq2,v2,hp2,r2⟩:=h2;exact EqAt.str_tuple _ _ hp2 hu
  | lst es=>
   obtain⟨p2,ys,jts,rfl,hq2,v2,hp2,r2⟩:=h2;exact EqAt.str_list _ _ hp2 hu
 | tup ds=>
  obtain⟨p1,xs,its,rfl,hq1,v1,hp1,r1⟩:=h1;cases e with
  | non=>
   cases h2;exact EqAt.tuple_none hp1 hu
  | bl b=>
   cases h2;exact EqAt.tuple_bool _ hp1 hu
  | int b=>
   obtain⟨t2,rfl⟩:=h2;exact EqAt.tuple_int _ _ hp1 hu
  | str b=>
   obtain⟨t2,rfl⟩:=h2;exact EqAt.tuple_str _ _ hp1 hu
  | tup es=>
   obtain⟨p2,ys,jts,rfl,hq2,v2,hp2,r2⟩:=h2;by_cases hne:p1=p2
   ·subst hne;cases I.tuple_inj hq1 hq2;rw[mJ,aK.inj I ds es xs r1 r2,rM];exact EqAt.same _
   ·have q:=EqAt.of_refs hne (RcAt.tuples hp1 hp2 hu (qz r1 r2 v1 v2 ih));simp only[z1c] at q;rw[Hi (r1.length.trans v1.length) (r2.length.trans v2.length)] at q;rw[mJ];exact q
  | lst es=>
   obtain⟨p2,ys,jts,rfl,hq2,v2,hp2,r2⟩:=h2;exact EqAt.tuple_list hp1 hp2 hu
 | lst ds=>
  obtain⟨p1,xs,its,rfl,hq1,v1,hp1,r1⟩:=h1;cases e with
  | non=>
   cases h2;exact EqAt.list_none hp1 hu
  | bl b=>
   cases h2;exact EqAt.list_bool _ hp1 hu
  | int b=>
   obtain⟨t2,rfl⟩:=h2;exact EqAt.list_int _ _ hp1 hu
  | str b=>
   obtain⟨t2,rfl⟩:=h2;exact EqAt.list_str _ _ hp1 hu
  | tup es=>
   obtain⟨p2,ys,jts,rfl,hq2,v2,hp2,r2⟩:=h2;exact EqAt.list_tuple hp1 hp2 hu
  | lst es=>
   obtain⟨p2,ys,jts,rfl,hq2,v2,hp2,r2⟩:=h2;by_cases hne:p1=p2
   ·subst hne;cases I.list_inj hq1 hq2;rw[iR,aK.inj I ds es xs r1 r2,rM];exact EqAt.same _
   ·by_cases hz:ds.length=es.length
    ·have q:=EqAt.of_refs hne (RcAt.lists hp1 hp2 (by simp only[z1c];rw[<-v1.length,<-v2.length,<-r1.length,<-r2.length];exact hz) hu (qz r1 r2 v1 v2 ih));rw[z1c,<-v1.length,<-r1.length,<-uh hz] at q;rw[iR];exact q
    ·rw[iR,ug hz];exact EqAt.of_refs hne (RcAt.lists_lengths hp1 hp2 (by simp only[z1c];rw[<-v1.length,<-v2.length,<-r1.length,<-r2.length];simpa using hz) hu)
theorem ac7 (I:Inv X pins σ H s) {A:Around} (hu:A.units < cLine) {d e:D} {u u':Value} (h1:Lk X O H s d u) (h2:Lk X O' H s e u')
  (ih:∀c∈(match d with | .tup ds=>ds | .lst ds=>ds |_=>[]),∀(e:D) (v w:V) (u u':Value),Rep X.K O H c v->Rep X.K O' H e w->RelV v u->RelV w u'->EqAt A.in1 s u u' (gU c e)):RcAt A s u u' (gU d e):=by
 cases d with
 | non=>
  cases h1;cases e with
  | non=>
   cases h2;exact RcAt.none_none
  | bl b=>
   cases h2;exact RcAt.none_bool _
  | int b=>
   obtain⟨t2,rfl⟩:=h2;exact RcAt.none_int _ _
  | str b=>
   obtain⟨t2,rfl⟩:=h2;exact RcAt.none_str _ _
  | tup es=>
   obtain⟨p2,ys,jts,rfl,hq2,v2,hp2,r2⟩:=h2;exact RcAt.none_tuple hp2 hu
  | lst es=>
   obtain⟨p2,ys,jts,rfl,hq2,v2,hp2,r2⟩:=h2;exact RcAt.none_list hp2 hu
 | bl a=>
  cases h1;cases e with
  | non=>
   cases h2;exact RcAt.bool_none _
  | bl b=>
   cases h2;exact RcAt.bool_bool _ _
  | int b=>
   obtain⟨t2,rfl⟩:=h2;exact RcAt.bool_int _ _ _
  | str b=>
   obtain⟨t2,rfl⟩:=h2;exact RcAt.bool_str _ _ _
  | tup es=>
   obtain⟨p2,ys,jts,rfl,hq2,v2,hp2,r2⟩:=h2;exact RcAt.bool_tuple _ hp2 hu
  | lst es=>
   obtain⟨p2,ys,jts,rfl,hq2,v2,hp2,r2⟩:=h2;exact RcAt.bool_list _ hp2 hu
 | int a=>
  obtain⟨t1,rfl⟩:=h1;cases e with
  | non=>
   cases h2;exact RcAt.int_none _ _
  | bl b=>
   cases h2;exact RcAt.int_bool _ _ _
  | int b=>
   obtain⟨t2,rfl⟩:=h2;exact RcAt.int_int _ _ _ _
  | str b=>
   obtain⟨t2,rfl⟩:=h2;exact RcAt.int_str _ _ _ _
  | tup es=>
   obtain⟨p2,ys,jts,rfl,hq2,v2,hp2,r2⟩:=h2;exact RcAt.int_tuple _ _ hp2 hu
  | lst es=>
   obtain⟨p2,ys,jts,rfl,hq2,v2,hp2,r2⟩:=h2;exact RcAt.int_list _ _ hp2 hu
 | str a=>
  obtain⟨t1,rfl⟩:=h1;cases e with
  | non=>
   cases h2;exact RcAt.str_none _ _
  | bl b=>
   cases h2;exact RcAt.str_bool _ _ _
  | int b=>
   obtain⟨t2,rfl⟩:=h2;exact RcAt.str_int _ _ _ _
  | str b=>
   obtain⟨t2,rfl⟩:=h2;exact RcAt.str_str _ _ _ _
  | tup es=>
   obtain⟨p2,ys,jts,rfl,hq2,v2,hp2,r2⟩:=h2;exact RcAt.str_tuple _ _ hp2 hu
  | lst es=>
   obtain⟨p2,ys,jts,rfl,hq2,v2,hp2,r2⟩:=h2;exact RcAt.str_list _ _ hp2 hu
 | tup ds=>
  obtain⟨p1,xs,its,rfl,hq1,v1,hp1,r1⟩:=h1;cases e with
  | non=>
   cases h2;exact RcAt.tuple_none hp1 hu
  | bl b=>
   cases h2;exact RcAt.tuple_bool _ hp1 hu
  | int b=>
   obtain⟨t2,rfl⟩:=h2;exact RcAt.tuple_int _ _ hp1 hu
  | str b=>
   obtain⟨t2,rfl⟩:=h2;exact RcAt.tuple_str _ _ hp1 hu
  | tup es=>
   obtain⟨p2,ys,jts,rfl,hq2,v2,hp2,r2⟩:=h2;have q:=RcAt.tuples hp1 hp2 hu (qz r1 r2 v1 v2 ih);simp only[z1c] at q;rw[Hi (r1.length.trans v1.length) (r2.length.trans v2.length)] at q;rw[mJ];exact q
  | lst es=>
   obtain⟨p2,ys,jts,rfl,hq2,v2,hp2,r2⟩:=h2;exact RcAt.tuple_list hp1 hp2 hu
 | lst ds=>
  obtain⟨p1,xs,its,rfl,hq1,v1,hp1,r1⟩:=h1;cases e with
  | non=>
   cases h2;exact RcAt.list_none hp1 hu
  | bl b=>
   cases h2;exact RcAt.list_bool _ hp1 hu
  | int b=>
   obtain⟨t2,rfl⟩:=h2;exact RcAt.list_int _ _ hp1 hu
  | str b=>
   obtain⟨t2,rfl⟩:=h2;exact RcAt.list_str _ _ hp1 hu
  | tup es=>
   obtain⟨p2,ys,jts,rfl,hq2,v2,hp2,r2⟩:=h2;exact RcAt.list_tuple hp1 hp2 hu
  | lst es=>
   obtain⟨p2,ys,jts,rfl,hq2,v2,hp2,r2⟩:=h2;by_cases hz:ds.length=es.length
   ·have q:=RcAt.lists hp1 hp2 (by simp only[z1c];rw[<-v1.length,<-v2.length,<-r1.length,<-r2.length];exact hz) hu (qz r1 r2 v1 v2 ih);rw[z1c,<-v1.length,<-r1.length,<-uh hz] at q;rw[iR];exact q
   ·rw[iR,ug hz];exact RcAt.lists_lengths hp1 hp2 (by simp only[z1c];rw[<-v1.length,<-v2.length,<-r1.length,<-r2.length];simpa using hz) hu
theorem ac8 (I:Inv X pins σ H s) {A:Around} (hu:A.units < cLine) {d e:D} {u u':Value} (h1:Lk X O H s d u) (h2:Lk X O' H s e u')
  (ih:∀c∈(match d with | .tup ds=>ds | .lst ds=>ds |_=>[]),∀(e:D) (v w:V) (u u':Value),Rep X.K O H c v->Rep X.K O' H e w->RelV v u->RelV w u'->EqAt A.in1 s u u' (gU c e)):RcNeAt A s u u' (!gU d e):=by
 cases d with
 | non=>
  cases h1;cases e with
  | non=>
   cases h2;exact RcNeAt.none_none
  | bl b=>
   cases h2;exact RcNeAt.none_bool _
  | int b=>
   obtain⟨t2,rfl⟩:=h2;exact RcNeAt.none_int _ _
  | str b=>
   obtain⟨t2,rfl⟩:=h2;exact RcNeAt.none_str _ _
  | tup es=>
   obtain⟨p2,ys,jts,rfl,hq2,v2,hp2,r2⟩:=h2;exact RcNeAt.none_tuple hp2 hu
  | lst es=>
   obtain⟨p2,ys,jts,rfl,hq2,v2,hp2,r2⟩:=h2;exact RcNeAt.none_list hp2 hu
 | bl a=>
  cases h1;cases e with
  | non=>
   cases h2;exact RcNeAt.bool_none _
  | bl b=>
   cases h2;exact RcNeAt.bool_bool _ _
  | int b=>
   obtain⟨t2,rfl⟩:=h2;exact RcNeAt.bool_int _ _ _
  | str b=>
   obtain⟨t2,rfl⟩:=h2;exact RcNeAt.bool_str _ _ _
  | tup es=>
   obtain⟨p2,ys,jts,rfl,hq2,v2,hp2,r2⟩:=h2;exact RcNeAt.bool_tuple _ hp2 hu
  | lst es=>
   obtain⟨p2,ys,jts,rfl,hq2,v2,hp2,r2⟩:=h2;exact RcNeAt.bool_list _ hp2 hu
 | int a=>
  obtain⟨t1,rfl⟩:=h1;cases e with
  | non=>
   cases h2;exact RcNeAt.int_none _ _
  | bl b=>
   cases h2;exact RcNeAt.int_bool _ _ _
  | int b=>
   obtain⟨t2,rfl⟩:=h2;exact RcNeAt.int_int _ _ _ _
  | str b=>
   obtain⟨t2,rfl⟩:=h2;exact RcNeAt.int_str _ _ _ _
  | tup es=>
   obtain⟨p2,ys,jts,rfl,hq2,v2,hp2,r2⟩:=h2;exact RcNeAt.int_tuple _ _ hp2 hu
  | lst es=>
   obtain⟨p2,ys,jts,rfl,hq2,v2,hp2,r2⟩:=h2;exact RcNeAt.int_list _ _ hp2 hu
 | str a=>
  obtain⟨t1,rfl⟩:=h1;cases e with
  | non=>
   cases h2;exact RcNeAt.str_none _ _
  | bl b=>
   cases h2;exact RcNeAt.str_bool _ _ _
  | int b=>
   obtain⟨t2,rfl⟩:=h2;exact RcNeAt.str_int _ _ _ _
  | str b=>
   obtain⟨t2,rfl⟩:=h2;exact RcNeAt.str_str _ _ _ _
  | tup es=>
   obtain⟨p2,ys,jts,rfl,hq2,v2,hp2,r2⟩:=h2;exact RcNeAt.str_tuple _ _ hp2 hu
  | lst es=>
   obtain⟨p2,ys,jts,rfl,hq2,v2,hp2,r2⟩:=h2;exact RcNeAt.str_list _ _ hp2 hu
 | tup ds=>
  obtain⟨p1,xs,its,rfl,hq1,v1,hp1,r1⟩:=h1;cases e with
  | non=>
   cases h2;exact RcNeAt.tuple_none hp1 hu
  | bl b=>
   cases h2;exact RcNeAt.tuple_bool _ hp1 hu
  | int b=>
   obtain⟨t2,rfl⟩:=h2;exact RcNeAt.tuple_int _ _ hp1 hu
  | str b=>
   obtain⟨t2,rfl⟩:=h2;exact RcNeAt.tuple_str _ _ hp1 hu
  | tup es=>
   obtain⟨p2,ys,jts,rfl,hq2,v2,hp2,r2⟩:=h2;have q:=RcNeAt.tuples hp1 hp2 hu (qz r1 r2 v1 v2 ih);simp only[z1c] at q;rw[Hi (r1.length.trans v1.length) (r2.length.trans v2.length)] at q;rw[mJ];exact q
  | lst es=>
   obtain⟨p2,ys,jts,rfl,hq2,v2,hp2,r2⟩:=h2;exact RcNeAt.tuple_list hp1 hp2 hu
 | lst ds=>
  obtain⟨p1,xs,its,rfl,hq1,v1,hp1,r1⟩:=h1;cases e with
  | non=>
   cases h2;exact RcNeAt.list_none hp1 hu
  | bl b=>
   cases h2;exact RcNeAt.list_bool _ hp1 hu
  | int b=>
   obtain⟨t2,rfl⟩:=h2;exact RcNeAt.list_int _ _ hp1 hu
  | str b=>
   obtain⟨t2,rfl⟩:=h2;exact RcNeAt.list_str _ _ hp1 hu
  | tup es=>
   obtain⟨p2,ys,jts,rfl,hq2,v2,hp2,r2⟩:=h2;exact RcNeAt.list_tuple hp1 hp2 hu
  | lst es=>
   obtain⟨p2,ys,jts,rfl,hq2,v2,hp2,r2⟩:=h2;by_cases hz:ds.length=es.length
   ·have q:=RcNeAt.lists hp1 hp2 (by simp only[z1c];rw[<-v1.length,<-v2.length,<-r1.length,<-r2.length];exact hz) hu (qz r1 r2 v1 v2 ih);rw[z1c,<-v1.length,<-r1.length,<-uh hz] at q;rw[iR];exact q
   ·rw[iR,ug hz];exact RcNeAt.lists_lengths hp1 hp2 (by simp only[z1c];rw[<-v1.length,<-v2.length,<-r1.length,<-r2.length];simpa using hz) hu
theorem Qu (I:Inv X pins σ H s):∀(n:Nat) (A:Around) (d:D),dep d<=n->A.units+n < cLine->∀(e:D) (v w:V) (u u':Value),Rep X.K O H d v->Rep X.K O' H e w->RelV v u->RelV w u'->EqAt A s u u' (gU d e):=by
 intro n
 induction n with
 | zero=>
  intro A d hd hu e v w u u' r1 r2 q1 q2;refine Qt I (by assumption) (vU I r1 q1) (vU I r2 q2) λ c hc=>?_;cases d with
  |tup ds=>rw[dep] at hd;exact (agd hd).elim
  |lst ds=>rw[dep] at hd;exact (agd hd).elim
  |_=>simp at hc
 | succ n ihn=>
  intro A d hd hu e v w u u' r1 r2 q1 q2;refine Qt I (by exact aiX hu) (vU I r1 q1) (vU I r2 q2) λ c hc=>?_;have hc':dep c<=n:=by
   cases d with
   |tup ds=>rw[dep] at hd;have:=qy (ds:=ds) hc;exact agf hd this
   |lst ds=>rw[dep] at hd;have:=qy (ds:=ds) hc;exact agf hd this
   |_=>simp at hc
  exact ihn A.in1 c hc' (by show A.units+1+n < cLine;exact aiY hu)
end
noncomputable def qm (d e:D):R D:=if dep d<=40 then .ok (.bl (gU d e)) else .bad
noncomputable def m9 (d e:D):R D:=if dep d<=40 then .ok (.bl (!gU d e)) else .bad
section
variable {X:Cx}
theorem agt (hu:X.A.units+60 < cLine):OpR X (compareOp .Eq) (λ x y H Q=>∃O O' d e,Rep X.K O H d x/\Rep X.K O' H e y/\dep d<=40/\Q (.bl (gU d e)) H):=by
 intro pins s σ H x y v u Q I rx ry h;obtain⟨O,O',d,e,r1,r2,hd,q⟩:=h;refine ac7 I (show X.A.units < cLine by exact agg hu) (vU I r1 rx) (vU I r2 ry) (λ c hc=>?_) X.prog X.w X.xe _ ⟨.bl _,H,I,rfl,q⟩;have hc':dep c<=40:=by
  cases d with
  |tup ds=>rw[dep] at hd;have:=qy (ds:=ds) hc;exact Ys hd this
  |lst ds=>rw[dep] at hd;have:=qy (ds:=ds) hc;exact Ys hd this
  |_=>simp at hc
 exact Qu I 40 X.A.in1 c hc' (by show X.A.units+1+40 < cLine;exact agh hu)
theorem agu (hu:X.A.units+60 < cLine):OpR X (compareOp .NotEq) (λ x y H Q=>∃O O' d e,Rep X.K O H d x/\Rep X.K O' H e y/\dep d<=40/\Q (.bl (!gU d e)) H):=by
 intro pins s σ H x y v u Q I rx ry h;obtain⟨O,O',d,e,r1,r2,hd,q⟩:=h;refine ac8 I (show X.A.units < cLine by exact agg hu) (vU I r1 rx) (vU I r2 ry) (λ c hc=>?_) X.prog X.w X.xe _ ⟨.bl _,H,I,rfl,q⟩;have hc':dep c<=40:=by
  cases d with
  |tup ds=>rw[dep] at hd;have:=qy (ds:=ds) hc;exact Ys hd this
  |lst ds=>rw[dep] at hd;have:=qy (ds:=ds) hc;exact Ys hd this
  |_=>simp at hc
 exact Qu I 40 X.A.in1 c hc' (by show X.A.units+1+40 < cLine;exact agh hu)
theorem Jm (hu:X.A.units+60 < cLine):kZ X (compareOp .Eq) qm:=by
 refine⟨_,agt hu,λ ρ O σ H Q x y dx dy j rx ry h=>?_⟩;unfold qm at h;by_cases hd:dep dx<=40
 ·rw[if_pos hd] at h;exact⟨O,O,dx,dy,rx,ry,hd,fin h (gQ _)⟩
 ·rw[if_neg hd] at h;exact h.elim
theorem vV (hu:X.A.units+60 < cLine):kZ X (compareOp .NotEq) m9:=by
 refine⟨_,agu hu,λ ρ O σ H Q x y dx dy j rx ry h=>?_⟩;unfold m9 at h;by_cases hd:dep dx<=40
 ·rw[if_pos hd] at h;exact⟨O,O,dx,dy,rx,ry,hd,fin h (gQ _)⟩
 ·rw[if_neg hd] at h;exact h.elim
end
end Pu
namespace Pu
open PySem PySem.Spec L2
open PyProof.Rows hiding St
section
variable {prog:Program} {w:World} {A:Around} {E:Value->Shared->Prop} {s:Shared}
end
section
variable {X:Cx} {e:Expr} {te:TE} {pos p2 p3 p4:Pos} {j:Nat} {f:ao->R D}
noncomputable def ajZ:D->R D
 | .tup ds=> .ok (.tup ds.reverse)
 |_=> .bad
noncomputable def fY:D->D->R D
 | .int i,.int j=> .ok (.int (i+j))
 | .tup xs,.tup ys=>if 0 < xs.length/\xs.length+ys.length<=1000000 then .ok (.tup (xs++ys)) else .bad
 |_,_=> .bad
set_option tactic.hygienic true in
theorem mK:kZ X (binaryOp .Add) fY:=by
 refine⟨_,OpR.or op_add op_catT,λ ρ O σ H Q x y dx dy j0 rx ry h=>?_⟩;cases dx <;> cases dy <;> first
  |exact h.elim
  |skip
 ·rename_i i j;exact .inl ⟨i,j,rx.int,ry.int,fin h (bN _)⟩
 ·rename_i xs ys;have h:good X (rD X) O (if 0 < xs.length/\xs.length+ys.length<=1000000 then .ok (.tup (xs++ys)) else .bad) σ H Q:=h;by_cases hc:0 < xs.length/\xs.length+ys.length<=1000000
  ·rw[if_pos hc] at h;obtain⟨a,us,rfl,ha,r1⟩:=rx.tup;obtain⟨b,ws,rfl,hb,r2⟩:=ry.tup;refine .inr ⟨a,b,us,ws,rfl,rfl,ha,hb,λ z=>?_,?_,λ z=>?_,λ z l hl=>?_⟩
   ·have h1:=r1.length;have h2:=hc.1;rw[z] at h1;rw[h1] at h2;exact Nat.lt_irrefl _ h2
   ·rw[<-r1.length,<-r2.length];exact z0b hc.2 dh
   ·subst z;have:ys=[]:=List.eq_nil_of_length_eq_zero r2.length;subst this;rw[List.append_nil] at h;exact fin h rx
   ·exact h _ _ (Same.upd hl) (Rep.sO hl (r1.append r2))
  ·rw[if_neg hc] at h;exact h.elim
end
section
variable {K:PySem.W.Frag} {O:Addr->Prop} {H:Hp}
end
section
variable {X:Cx} {e e1 e2:Expr} {f g:ao->R D} {pos:Pos}
theorem ac9 {α γ δ:Type} {Rm:(Addr->Prop)->Hp->γ->δ->Prop} {O:Addr->Prop} {σ:St} {H:Hp} {Q:δ->Hp->Prop} {r:R α} {k:α->R γ} (h:good X Rm O ((yS r).bind k) σ H Q):good X Rm O (r.bind k) σ H Q:=by
 cases r with
 |ok a=>exact h
 |err c=>exact h.elim
 |bad=>exact h
end
end Pu
namespace Pu
open PySem PySem.W PyProof.Rows
section
variable {n:Nat} {lt:Nat->Nat->Bool}
noncomputable def S (lt:Nat->Nat->Bool) (p:Array Nat) (k:Nat):Prop:=∀i j,i < j->j < k->lt (p.getD i 0) (p.getD j 0)=true
end
end Pu
namespace Pu
open PySem PySem.Spec PySem.W L2
open PyProof.Rows hiding St
section
variable {prog:Program} {w:World} {A:Around} {E:Value->Shared->Prop} {s:Shared}
end
section
variable {prog:Program} {w:World} {A:Around} {E:Value->Shared->Prop} {s:Shared}
end
section
variable {X:Cx} {pins:List (Addr×Obj)} {σ:St} {H:Hp} {s:Shared}
end
section
variable {X:Cx}
end
section
variable {X:Cx}
end
end Pu
namespace Pu
open PySem PySem.Spec L2
open PyProof.Rows hiding St
section
variable {X:Cx} {a b:Expr} {es:List Expr} {f g:ao->R D} {fa:ao->R (List D)} {pos:Pos}
noncomputable def Lp (i k:Nat) (f g:ao->R D):ao->So:=λ ρ=>jA (f ρ) ρ λ d=>jA (g ρ) ρ λ e=> .nx ((ρ.set i (some (.val d))).set k (some (.val e)))
theorem aaZ (i k:Nat) {x y:Str} {px py pt:Pos} {kt k2 pt2} (hc:X.calm=true) (hN:X.N.Nodup) (ha:DE X a f) (hb:DE X b g) (hi:autoParam (X.N[i]?=some x) aN._auto_1) (hk:autoParam (X.N[k]?=some y) aN._auto_1) (hik:autoParam (i≠k) cD._auto_1)
  (hx:autoParam (X.env.scope.names.lookup x=some .local) aN._auto_1) (hy:autoParam (X.env.scope.names.lookup y=some .local) aN._auto_1)
  (h1:autoParam (starEach [a,b] X.env=(false,eval a X.env)::starEach [b] X.env) aN._auto_1) (h2:autoParam (starEach [b] X.env=(false,eval b X.env)::starEach [] X.env) aN._auto_1)
  (hw:autoParam (swappedStores [.Tuple [.Name x px,.Name y py] kt pt] (.Tuple [a,b] k2 pt2) X.env=pure (some [x,y])) aN._auto_1)
  (hs:autoParam (swapsWithSole [.Tuple [.Name x px,.Name y py] kt pt] (.Tuple [a,b] k2 pt2) pos.line X.env=pure false) aN._auto_1):
  DS X (.Assign [.Tuple [.Name x px,.Name y py] kt pt] (.Tuple [a,b] k2 pt2) pos) (Lp i k f g):=by
 refine PS.imp (ps_par hc hN hi hk hik hx hy (pa_cons ha (pa_cons hb pa_nil h2) h1) hw hs) λ σ H E h=>?_;obtain⟨H0,O0,O,ρ,j,h⟩:=h;refine⟨ρ,O,j.inn,?_⟩;unfold Lp jA at h;cases e1:f ρ with
 |bad=>rw[e1] at h;exact h
 |err c=>rw[e1] at h;exact h σ H O j
 | ok d=>
  rw[e1] at h;intro v H1 s1 rv;have j1:=j.grow s1;refine⟨ρ,O,j1.inn,?_⟩;cases e2:g ρ with
  |bad=>simp only[e2] at h;exact h
  |err c=>simp only[e2] at h;exact M4.same (h σ H O j) s1
  | ok e=>
   simp only[e2] at h;intro w H2 s2 rw2;refine⟨v,w,rfl,?_⟩;exact h _ H2 O (((j1.grow s2).set (z1b hi).1 (rv.same s2)).set (z1b hk).1 rw2) ((Same.cZ s1).trans (Same.cZ s2))
noncomputable def Qv (i k:Nat) (f:ao->R D) (fa:ao->R (List D)):ao->So:=λ ρ=>jA (f ρ) ρ λ d=>match fa ρ with
 | .ok ds=>if ds.length<=1000000 then .nx ((ρ.set i (some (.val d))).set k (some (.lst ds))) else .bad
 |_=> .bad
theorem aeQ (i k:Nat) {x y:Str} {px py pt p3:Pos} {kt k2 pt2} (hc:X.calm=true) (hN:X.N.Nodup) (ha:DE X a f) (hb:DA X es fa) (hi:autoParam (X.N[i]?=some x) aN._auto_1) (hk:autoParam (X.N[k]?=some y) aN._auto_1)
  (hx:autoParam (Loc X.env.scope x) lJ._auto_1) (hy:autoParam (Loc X.env.scope y) lJ._auto_1)
  (hfx:autoParam (X.fn x=true\/X.env.scope.names.lookup x=some .local) lK._auto_1) (Qo:autoParam (X.fn y=true\/X.env.scope.names.lookup y=some .local) lK._auto_1)
  (h1:autoParam (starEach [a,.List es p3] X.env=(false,eval a X.env)::starEach [.List es p3] X.env) aN._auto_1) (h2:autoParam (starEach [.List es p3] X.env=(false,eval (.List es p3) X.env)::starEach [] X.env) aN._auto_1)
  (hs:autoParam (swapsWithSole [.Tuple [.Name x px,.Name y py] kt pt] (.Tuple [a,.List es p3] k2 pt2) pos.line X.env=pure false) aN._auto_1) (hw:autoParam (swappedStores [.Tuple [.Name x px,.Name y py] kt pt] (.Tuple [a,.List es p3] k2 pt2) X.env=pure none) aN._auto_1):
  DS X (.Assign [.Tuple [.Name x px,.Name y py] kt pt] (.Tuple [a,.List es p3] k2 pt2) pos) (Qv i k f fa):=by
 refine PS.imp (ps_asg (pe_tup (pa_cons ha (pa_cons (W8 hb) pa_nil h2) h1)) (pg_tup hc (pgs_cons (pg_name hN hi hx hfx) (pgs_cons (pg_name hN hk hy Qo) pgs_nil))) hs hw) λ σ H E h=>?_;obtain⟨H0,O0,O,ρ,j,h⟩:=h;refine⟨ρ,O,j.inn,?_⟩;unfold Qv jA at h;cases e1:f ρ with
 |bad=>rw[e1] at h;exact h
 |err c=>rw[e1] at h;exact h σ H O j
 | ok d=>
  rw[e1] at h;intro v H1 s1 rv;have j1:=j.grow s1;refine⟨ρ,O,j1.inn,?_⟩;cases e2:fa ρ with
  |bad=>simp only[e2] at h;exact h
  |err c=>simp only[e2] at h;exact h.elim
  | ok ds=>
   simp only[e2] at h;by_cases hl:ds.length<=1000000
   ·simp only[if_pos hl] at h;intro vs H2 s2 rvs;refine⟨by rw[<-rvs.length];exact z0b hl dh,λ p hp hpk=>?_⟩;refine⟨by show 2<=sizeLine;decide,λ t ht=>?_⟩;refine⟨t,[v,.ref p],rfl,SqT.of upd_same,rfl,v,[.ref p],rfl,.ref p,[],rfl,rfl,?_⟩;have j2:=(j1.grow s2).set (z1b hi).1 (rv.same s2);obtain⟨j3,r3⟩:=j2.own (z1b hk).1 (o:= .lst vs) (en:= .lst ds) hp hpk rfl ⟨p,vs,rfl,.inr rfl,upd_same,rvs.go ⟨(Same.cZ (K:=X.K) (O:=O) (Same.upd hp)).ext,λ a z=>z.elim .inl λ e=> .inr (by rw[e];exact⟨hp,hpk⟩),(Same.cZ (K:=X.K) (O:=O) (Same.upd hp)).dom⟩⟩;have s4:Same (upd H2 p (.lst vs)) (upd (upd H2 p (.lst vs)) t (.tup [v,.ref p])):=Same.upd ht;exact h _ _ _ (j3.grow s4) ((((Same.cZ s1).trans (Same.cZ s2)).trans r3).trans (Same.cZ s4))
   ·simp only[if_neg hl] at h;exact h.elim
end
noncomputable def Fz (s:String):Bool:=s == "int" || s == "bool"
noncomputable def zO (s:String):Bool:=s == "bool"
noncomputable def vX (s:String):Bool:=s == "tuple"
noncomputable def Qw (s:String):Bool:=s == "list"
noncomputable def aW (P:Program) (w:World) (K:PySem.W.Frag) (mg:Str->Option Value) (base:Heap) (k:Nat) (x:Str) (n:Nat) (F:List D->R D):Prop:=
 ∃f fd ps,FnOk P w K mg base CX0 k f fd ps (M9 K n F)/\mg x=some (.ref f)/\PySem.W.keepIn K (.ref f)=true/\Binds K fd ps []
theorem bQ {X:Cx} {k n m:Nat} {F:List D->R D} {x:Str} {p pos:Pos} {e:Expr} {es:List Expr} {fa:ao->R (List D)} (G:aW X.prog X.w X.K X.mg X.base k x n F) (hr:Room m X.A) (hkm:k<=m) (ha:DA X (e::es) fa) (hg:autoParam (Gl X x) aN._auto_1)
  (hdb:autoParam ((x ==("__debug__" :Str))=false) cD._auto_1) (he:autoParam (starEach (e::es) X.env=(false,eval e X.env)::starEach es X.env) aN._auto_1) (hpl:autoParam ((backTo pos (starEach es X.env)).any (·.1)=false) aN._auto_1):
  DE X (.Call (.Name x p) (e::es) [] pos) (aF (bC F n) fa):=by
 obtain⟨f,fd,ps,ok,hm,hk,hb⟩:=G;exact aeP ok (hr.mono hkm) hg hm hk hb ha hdb he hpl
theorem lq {A:Around} {k:Nat} (hr:Room k A):A.units+60 < cLine:=by have:=hr.un;exact aiZ this
theorem dg {P:Program} {w:World} {K:PySem.W.Frag} {mg:Str->Option Value} {base:Heap} {x qual:Str} {st:Stmt} {f:Addr} {fd:FuncData} {N ps:List Str} {k n m:Nat} {g:ao->So} (Fn:Fun K x qual st f fd) (hmg:mg x=some (.ref f)) (hb:Binds K fd ps []) (S:FnScope N ps (defScope st)) (hn:ps.length=n) (hm:N.length=n+m)
  (hbody:∀(cdv:Value) (A:Around) (outer:List PySem.Env) (s:Shared) (H:Hp) (E:XK),Room k (A.deeper (envOfC qual (defScope st) s.heap.objs.size f cdv))->c7 (cxOf CX0 P w K mg base N qual (defScope st) f cdv A outer s H E).nox (defBody st) g):
  aW P w K mg base (k+1) x n (bY m g):=⟨f,fd,ps,fnD Fn S hn hm hbody λ ds d _u e=>e,hmg,Fn.kp,hb⟩
theorem sp_law {K:PySem.W.Frag} {F:List D->R D} {H:Hp} {a:Addr} {ns:List Int} {E:XK} (hS:SqL K H a (ns.map V.int)) (hF:F [.lst (ns.map D.int)]= .ok (.bl true)):M9 K 1 F [.ref a] H (λ v _u=>v= .bl true) E:=by
 refine⟨λ _u=>False,[.lst (ns.map D.int)],.cons (jN hS (λ z=>z) ?_) .nil,rfl,λ a z=>z.elim,?_⟩
 ·have:∀l:List Int,aK K (λ _u=>False) H (l.map D.int) (l.map V.int):=by
   intro l
   induction l with
   |nil=>exact .nil
   |cons i l ih=>exact .cons (bN i) ih
  exact this ns
 ·rw[hF];exact λ v H' _u r=>r.bl
end Pu
namespace Pu
open PySem PySem.Spec L2
theorem Xb {α:Type} {k:D->R (Option D)} {c h:α->D}:∀{l:List α},(∀a∈l,k (c a)= .ok (some (h a)))->lg k (l.map c)= .ok (l.map h)
 |[],_=>rfl
 | a::l,q=>by
  rw[z1h,lg,q a (by simp),rK,R.aX,Xb λ b hb=>q b (by simp[hb])];rfl
theorem Jo {α:Type} {c:α->Bool}:∀{l:List α},boolsOf (l.map λ a=> .bl (c a))=some (l.map c)
 |[]=>rfl
 | a::l=>by
  rw[z1h,boolsOf,Jo];rfl
theorem Ca {α:Type} {c:α->Int}:∀{l:List α},intsOf (l.map λ a=> .int (c a))=some (l.map c)
 |[]=>rfl
 | a::l=>by
  rw[z1h,intsOf,Ca];rfl
theorem Lq {α:Type} {c:α->D} {n:Nat}:∀{l:List α},(∀a∈l,dep (c a)<=n)->deps (l.map c)<=n
 |[],_=>by rw[List.map_nil,deps];exact Nat.zero_le _
 | a::l,h=>by
  rw[z1h,deps];have:=h a (by simp);have:=Lq (l:=l) λ b hb=>h b (by simp[hb]);exact ai0 (by assumption) this
theorem um {d e:D} (h:d=e) (hd:dep d<=40):m9 d e= .ok (.bl false):=by
 subst h;rw[m9,if_pos hd,Hh];rfl
theorem ada {d e:D} (h:d=e) (hd:dep d<=40):qm d e= .ok (.bl true):=by
 subst h;rw[qm,if_pos hd,Hh]
theorem all_true {l:List α}:(l.map λ _u=>true).all id=true:=by
 induction l with
 |nil=>rfl
 |cons a l ih=>rw[z1h,List.all_cons,ih];rfl
theorem atI_nat {α:Type} {xs:List α} {j:Nat} (h:j < xs.length):atI xs (j:Int)=some xs[j]:=by
 unfold atI ixN;rw[if_pos (by exact z0a _),if_pos (by exact Int.ofNat_lt.mpr h),Int.toNat_natCast,Option.bind_some,List.getElem?_eq_getElem h]
theorem Lr {α:Type} {xs:List α} {i:Int} (h0:0<=i) (h1:i < xs.length):∃x∈xs,atI xs i=some x:=by
 obtain⟨j,rfl⟩:=Int.eq_ofNat_of_zero_le h0;have hj:j < xs.length:=by exact Int.ofNat_lt.mp h1
 exact⟨xs[j],List.getElem_mem hj,atI_nat hj⟩
theorem cu {α:Type} {n:Nat} {caps:List Nat} {fi:ao->R (List D)} {gt:D->ao->R ao} {ft:ao->R Bool} {fe:ao->R D} {ρ:ao} {c h:α->D} {l:List α} (e1:fi ρ= .ok (l.map c)) (hl:l.length<=1000000)
  (e2:∀a∈l,nR gt ft fe (vR n caps ρ) (c a)= .ok (some (h a))):aV n caps fi gt ft fe ρ= .ok (.lst (l.map h)):=by
 rw[aV,e1,R.aX,Xb e2,R.aX,cap,if_pos (by rw[z1g];exact hl)]
noncomputable def look:List (Int×Int)->Int->Int
 |[],_=>0
 |(k,v)::r,c=>if k=c then v else look r c
noncomputable abbrev keys (ps:List (Int×Int)):List Int:=ps.map (·.1)
section
variable {ρ ρ':ao} {f g:ao->R D} {fa:ao->R (List D)} {p q:ao->R Bool} {x y d:D} {xs ds:List D} {r:R D} {k:D->D->R D} {c:List D->R D} {n:Nat} {F:List D->R D} {o:So} {s t:ao->So} {gt:D->ao->R ao} {b:Bool}
theorem aY (e:fa ρ= .ok ds) (h:c ds=r):aF c fa ρ=r:=by rw[aF,e];exact h
theorem bR (e:fa ρ= .ok ds) (h:F ds= .ok d) (hl:autoParam (ds.length=n) aN._auto_1):aF (bC F n) fa ρ= .ok d:=by rw[aF,e,R.aX,bC,if_pos hl,h];rfl
theorem aB (e1:f ρ= .ok x) (e2:fa ρ= .ok xs):ak f fa ρ= .ok (x::xs):=by rw[ak,e1,R.aX,e2];rfl
theorem aA (e:f ρ= .ok x):ak f (λ _u=> .ok []) ρ= .ok [x]:=aB e rfl
theorem aq (e1:f ρ= .ok x) (e2:g ρ= .ok y) (h:k x y=r):bin f g k ρ=r:=by rw[bin,e1,R.aX,e2];exact h
theorem Qx (e1:f ρ= .ok (.bl true)) (e2:g ρ=r):G7 f g ρ=r:=by rw[G7,e1];exact e2
theorem Qy {h:ao->R D} {l:D->D->R D} {z:D} (e1:f ρ= .ok x) (e2:g ρ= .ok y) (e3:k x y= .ok (.bl true)) (e4:h ρ= .ok z) (e5:l y z=r):Jh f g h k l ρ=r:=by
 rw[Jh,e1,R.aX,e2,R.aX,e3,R.aX];show (h ρ).bind _=_;rw[e4];exact e5
theorem f9 (e:fa ρ= .ok ds) (h:autoParam (ds.length<=1000000) ap9._auto_1):iI fa ρ= .ok (.tup ds):=by rw[iI,e,R.aX,cap,if_pos h]
theorem gj (e:fa ρ= .ok ds) (h:autoParam (ds.length<=1000000) ap9._auto_1):jM fa ρ= .ok (.lst ds):=by rw[jM,e,R.aX,cap,if_pos h]
theorem sV (e:f ρ= .ok (.tup ds)):eO f ρ= .ok ds:=by rw[eO,e];rfl
theorem jq (e:f ρ= .ok (.lst ds)):eO f ρ= .ok ds:=by rw[eO,e];rfl
theorem iU {m:Nat} (e:fa ρ= .ok [.int (m:Int)]) (h:m < 2 ^ 62):(λ ρ=>(fa ρ).bind gq) ρ= .ok ((List.range m).map λ (i:Nat)=>D.int (i:Int)):=by
 show (fa ρ).bind gq=_;rw[e,R.aX,gq,if_pos ⟨by have:(0:Int)<=m:=z0a m;exact z0a _,by omega⟩];simp[upto]
theorem cM {ρ1:ao} (e1:gt x ρ= .ok ρ1) (e2:f ρ1= .ok d):nR gt (λ _u=> .ok true) f ρ x= .ok (some d):=by
 rw[nR,e1,R.aX,R.aX,if_pos rfl,e2];rfl
theorem bf (e:f ρ= .ok (.bl b)):bH f ρ= .ok b:=by rw[bH,e];rfl
theorem uo (e:p ρ= .ok b):rW p ρ= .ok (!b):=by rw[rW,e];rfl
theorem Jp (e1:p ρ= .ok false) (e2:q ρ= .ok b):Qi p q ρ= .ok b:=by rw[Qi,e1,R.aX,if_neg (by decide)];exact e2
theorem sW (e1:p ρ= .ok true) (e2:q ρ= .ok b):nQ p q ρ= .ok b:=by rw[nQ,e1,R.aX,if_pos rfl];exact e2
theorem FJ (e1:p ρ= .ok false):nQ p q ρ= .ok false:=by rw[nQ,e1,R.aX,if_neg (by decide)]
theorem vY {i:Nat} (h:xs[i]?=some d):bD (.tup xs) (.int (i:Int))= .ok d:=by
 obtain⟨hi,e⟩:=z1b h;rw[bD,atI_nat hi,e]
theorem aa0 {i:Nat} (h:xs[i]?=some d):bD (.lst xs) (.int (i:Int))= .ok d:=by
 obtain⟨hi,e⟩:=z1b h;rw[bD,atI_nat hi,e]
theorem aL (e1:s ρ= .nx ρ') (e2:t ρ'=o):aP s t ρ=o:=by rw[aP,e1];exact e2
theorem cH (e:f (cG ρ)= .ok d):retS f ρ= .rt d:=by rw[retS,e];rfl
theorem bx (e:f ρ= .ok d) (e2:gt d ρ= .ok ρ'):aZ f gt ρ= .nx ρ':=by rw[aZ,e];show (match gt d ρ with | .ok ρ'=>So.nx ρ' |_=> .bad)=_;rw[e2]
theorem sX (e:f (cG ρ)= .ok d):mW f ρ= .nx ρ:=by rw[mW,e];rfl
theorem jC (e:p (cG ρ)= .ok true) (e2:s ρ=o):jB p s t ρ=o:=by rw[jB,e];exact e2
theorem fD (e:p (cG ρ)= .ok false) (e2:t ρ=o):jB p s t ρ=o:=by rw[jB,e];exact e2
theorem cN {m:Nat} (e:s (ds.map (λ d=>some (.val d))++List.replicate m none)= .rt d):bY m s ds= .ok d:=by rw[bY,e]
theorem aew {m:Nat} (e:s (ds.map (λ d=>some (.val d))++List.replicate m none)= .nx ρ):bY m s ds= .ok .non:=by rw[bY,e]
theorem nZ {i j:Int} (h:(-(2 ^ 64) < i/\i < 2 ^ 64)\/(-(2 ^ 64) < j/\j < 2 ^ 64)):jw (.int i) (.int j)= .ok (.int (i*j)):=by
 show (if _ then _ else _)=_;rw[if_pos h]
theorem ni {i j:Int} (h:0 < j/\j < 2 ^ 64):eN (.int i) (.int j)= .ok (.int (i / j)):=by
 show (if _ then _ else _)=_;rw[if_pos h]
theorem oh {i j:Int} (h:0 < j):gn (.int i) (.int j)= .ok (.int (i % j)):=by
 show (if _ then _ else _)=_;rw[if_pos h]
theorem Ls {α:Type} {l:List α}:Hg [.lst (l.map λ _u=> .bl true)]= .ok (.bl true):=by
 have:=Jo (c:=λ _:α=>true) (l:=l);rw[Hg,this];show R.ok (D.bl _)=_;rw[all_true]
theorem Xc {α:Type} {c:α->Int} {l:List α}:Lj [.lst (l.map λ a=> .int (c a))]= .ok (.int (l.map c).sum):=by rw[Lj,Ca]
end
noncomputable def Lw:ao->So:=(aP (aZ (bin (λ _u=> .ok (.int 7)) (λ ρ=>aU ρ 1) jw) (aG 3)) (aP (jB (bH (bin (λ ρ=>aU ρ 0) (jM (λ _u=> .ok [])) m9)) (aP (aZ (bin (λ ρ=>aU ρ 0) (bin (λ ρ=>aU ρ 1) (aF bW (ak (λ ρ=>aU ρ 0) (λ _u=> .ok []))) gn) bD) (aG 3)) (aP (aZ (bin (λ ρ=>aU ρ 1) (aF bW (ak (λ ρ=>aU ρ 0) (λ _u=> .ok []))) eN) (aG 4)) (aP (jB (nQ (bH (bin (λ ρ=>aU ρ 3) (bin (λ _u=> .ok (.int 10)) (λ _u=> .ok (.int 18)) wG) M5)) (bH (bin (λ ρ=>aU ρ 4) (λ _u=> .ok (.int 60)) ltI))) (aP (aZ (bin (λ ρ=>aU ρ 3) (bin (λ _u=> .ok (.int 10)) (λ _u=> .ok (.int 18)) wG) eN) (aG 5)) (aP (iw (nQ (bH (bin (λ ρ=>aU ρ 5) (λ _u=> .ok (.int 0)) pC)) (bH (bin (λ ρ=>aU ρ 4) (λ _u=> .ok (.int 0)) pC))) (aP (aZ (bin (λ ρ=>aU ρ 5) (λ _u=> .ok (.int 1000000)) eN) (aG 5)) (aZ (bin (λ ρ=>aU ρ 4) (λ _u=> .ok (.int 1)) fX) (aG 4))) 64) (jB (bH (bin (λ ρ=>aU ρ 5) (λ _u=> .ok (.int 0)) pC)) (retS (bin (bin (λ ρ=>aU ρ 5) (λ _u=> .ok (.int 1000000)) gn) (λ ρ=>aU ρ 2) gn)) So.nx))) So.nx) (aZ (bin (λ ρ=>aU ρ 3) (bin (λ _u=> .ok (.int 6553)) (bin (λ ρ=>aU ρ 1) (aF bW (ak (λ ρ=>aU ρ 0) (λ _u=> .ok []))) eN) jw) fY) (aG 3))))) So.nx) (aP (aZ (bin (bin (bin (bin (λ ρ=>aU ρ 3) (λ _u=> .ok (.int 2147483563)) gn) (λ _u=> .ok (.int 69069)) jw) (bin (λ _u=> .ok (.int 104723)) (bin (λ ρ=>aU ρ 1) (λ _u=> .ok (.int 1)) fY) jw) fY) (λ _u=> .ok (.int 2147483563)) gn) (aG 3)) (aP (aZ (bin (bin (bin (λ ρ=>aU ρ 3) (λ ρ=>aU ρ 3) jw) (bin (λ ρ=>aU ρ 3) (λ _u=> .ok (.int 3)) eN) fY) (λ _u=> .ok (.int 2147483399)) gn) (aG 3)) (retS (bin (bin (bin (bin (bin (λ ρ=>aU ρ 3) (λ ρ=>aU ρ 3) jw) (bin (λ ρ=>aU ρ 3) (λ _u=> .ok (.int 7)) eN) fY) (λ _u=> .ok (.int 2147483647)) gn) (λ _u=> .ok (.int 11)) eN) (λ ρ=>aU ρ 2) gn))))))
noncomputable def tailD:ao->So:=(aP (aZ (bin (bin (bin (bin (λ ρ=>aU ρ 3) (λ _u=> .ok (.int 2147483563)) gn) (λ _u=> .ok (.int 69069)) jw) (bin (λ _u=> .ok (.int 104723)) (bin (λ ρ=>aU ρ 1) (λ _u=> .ok (.int 1)) fY) jw) fY) (λ _u=> .ok (.int 2147483563)) gn) (aG 3)) (aP (aZ (bin (bin (bin (λ ρ=>aU ρ 3) (λ ρ=>aU ρ 3) jw) (bin (λ ρ=>aU ρ 3) (λ _u=> .ok (.int 3)) eN) fY) (λ _u=> .ok (.int 2147483399)) gn) (aG 3)) (retS (bin (bin (bin (bin (bin (λ ρ=>aU ρ 3) (λ ρ=>aU ρ 3) jw) (bin (λ ρ=>aU ρ 3) (λ _u=> .ok (.int 7)) eN) fY) (λ _u=> .ok (.int 2147483647)) gn) (λ _u=> .ok (.int 11)) eN) (λ ρ=>aU ρ 2) gn))))
noncomputable def agw:ao->So:=(jB (nQ (bH (bin (λ ρ=>aU ρ 3) (bin (λ _u=> .ok (.int 10)) (λ _u=> .ok (.int 18)) wG) M5)) (bH (bin (λ ρ=>aU ρ 4) (λ _u=> .ok (.int 60)) ltI))) (aP (aZ (bin (λ ρ=>aU ρ 3) (bin (λ _u=> .ok (.int 10)) (λ _u=> .ok (.int 18)) wG) eN) (aG 5)) (aP (iw (nQ (bH (bin (λ ρ=>aU ρ 5) (λ _u=> .ok (.int 0)) pC)) (bH (bin (λ ρ=>aU ρ 4) (λ _u=> .ok (.int 0)) pC))) (aP (aZ (bin (λ ρ=>aU ρ 5) (λ _u=> .ok (.int 1000000)) eN) (aG 5)) (aZ (bin (λ ρ=>aU ρ 4) (λ _u=> .ok (.int 1)) fX) (aG 4))) 64) (jB (bH (bin (λ ρ=>aU ρ 5) (λ _u=> .ok (.int 0)) pC)) (retS (bin (bin (λ ρ=>aU ρ 5) (λ _u=> .ok (.int 1000000)) gn) (λ ρ=>aU ρ 2) gn)) So.nx))) So.nx)
noncomputable def wcD:ao->R Bool:=(nQ (bH (bin (λ ρ=>aU ρ 5) (λ _u=> .ok (.int 0)) pC)) (bH (bin (λ ρ=>aU ρ 4) (λ _u=> .ok (.int 0)) pC)))
noncomputable def wbD:ao->So:=(aP (aZ (bin (λ ρ=>aU ρ 5) (λ _u=> .ok (.int 1000000)) eN) (aG 5)) (aZ (bin (λ ρ=>aU ρ 4) (λ _u=> .ok (.int 1)) fX) (aG 4)))
section
variable {S s0 s1 s2 s3 x y:Option Ent} {k m c:Int}
theorem tail_eq (hm:0 < m):∃v,tailD [S,some (.val (.int k)),some (.val (.int m)),some (.val (.int c)),x,y]= .rt (.int v)/\0<=v/\v < m:=by
 refine⟨_,aL (bx (aq (aq (aq (aq rfl rfl (oh (by exact z0a _))) rfl (nZ (.inr ⟨by exact z0a _,by exact z0a _⟩))) (aq rfl (aq rfl rfl rfl) (nZ (.inl ⟨by exact z0a _,by exact z0a _⟩))) rfl) rfl (oh (by exact z0a _))) rfl)
  (aL (bx (aq (aq (aq rfl rfl (nZ (.inl ?b1))) (aq rfl rfl (ni ⟨by exact z0a _,by exact z0a _⟩)) rfl) rfl (oh (by exact z0a _))) rfl)
  (cH (aq (aq (aq (aq (aq rfl rfl (nZ (.inl ?b2))) (aq rfl rfl (ni ⟨by exact z0a _,by exact z0a _⟩)) rfl) rfl (oh (by exact z0a _))) rfl (ni ⟨by exact z0a _,by exact z0a _⟩)) rfl (oh hm)))),Int.emod_nonneg _ (by exact oq5 hm),Int.emod_lt_of_pos _ hm⟩
 case b1=>
  have h1:=Int.emod_nonneg (c % 2147483563*69069+104723*(k+1)) (b:=2147483563) (by exact ai1);have h2:=Int.emod_lt_of_pos (c % 2147483563*69069+104723*(k+1)) (b:=2147483563) (by exact z0a _);constructor <;> omega
 case b2=>
  generalize (c % 2147483563*69069+104723*(k+1)) % 2147483563=z
  have h1:=Int.emod_nonneg (z*z+z / 3) (b:=2147483399) (by exact ai2);have h2:=Int.emod_lt_of_pos (z*z+z / 3) (b:=2147483399) (by exact z0a _);constructor <;> omega
theorem zP {i j:Int}:pC (.int i) (.int j)= .ok (.bl (decide (j < i))):=rfl
theorem Qz:∀{n:Nat} {t r:Int},0<=t->t < n->∃t' r',iw wcD wbD n [s0,s1,s2,s3,some (.val (.int t)),some (.val (.int r))]= .nx [s0,s1,s2,s3,some (.val (.int t')),some (.val (.int r'))]
 |0,t,r,h0,h1=>by exact (ai3 h0 h1).elim
 | n + 1,t,r,h0,h1=>by
  rw[iw];by_cases hr:0 < r
  ·by_cases ht:0 < t
   ·obtain⟨t',r',e⟩:=Qz (n:=n) (t:=t - 1) (r:=r / 1000000) (by exact ai5 ht) (by exact ai4 h1);refine⟨t',r',?_⟩;have e1:wcD (cG [s0,s1,s2,s3,some (.val (.int t)),some (.val (.int r))])= .ok true:=sW (bf (aq rfl rfl (by rw[zP,decide_eq_true hr]))) (bf (aq rfl rfl (by rw[zP,decide_eq_true ht])));have e2:wbD [s0,s1,s2,s3,some (.val (.int t)),some (.val (.int r))]= .nx [s0,s1,s2,s3,some (.val (.int (t - 1))),some (.val (.int (r / 1000000)))]:=aL (bx (aq rfl rfl (ni ⟨by exact z0a _,by exact z0a _⟩)) rfl) (bx (aq rfl rfl rfl) rfl);simp only[e1,e2];exact e
   ·refine⟨t,r,?_⟩;have e1:wcD (cG [s0,s1,s2,s3,some (.val (.int t)),some (.val (.int r))])= .ok false:=sW (bf (aq rfl rfl (by rw[zP,decide_eq_true hr]))) (bf (aq rfl rfl (by rw[zP,decide_eq_false ht])));simp only[e1]
  ·refine⟨t,r,?_⟩;have e1:wcD (cG [s0,s1,s2,s3,some (.val (.int t)),some (.val (.int r))])= .ok false:=FJ (bf (aq rfl rfl (by rw[zP,decide_eq_false hr])));simp only[e1]
theorem Jq:wG (.int 10) (.int 18)= .ok (.int 1000000000000000000):=by
 unfold wG iD;simp only[];rw[if_pos ⟨by decide,by decide,by decide⟩];rfl
theorem agx {t:Int} (hm:0 < m) (ht:0<=t):(∃t' x',agw [S,some (.val (.int k)),some (.val (.int m)),some (.val (.int c)),some (.val (.int t)),x]= .nx [S,some (.val (.int k)),some (.val (.int m)),some (.val (.int c)),some (.val (.int t')),x'])\/
  ∃v,agw [S,some (.val (.int k)),some (.val (.int m)),some (.val (.int c)),some (.val (.int t)),x]= .rt (.int v)/\0<=v/\v < m:=by
 by_cases h1:1000000000000000000<=c
 ·by_cases h2:t < 60
  ·have e:(nQ (bH (bin (λ ρ=>aU ρ 3) (bin (λ _u=> .ok (.int 10)) (λ _u=> .ok (.int 18)) wG) M5)) (bH (bin (λ ρ=>aU ρ 4) (λ _u=> .ok (.int 60)) ltI))) (cG [S,some (.val (.int k)),some (.val (.int m)),some (.val (.int c)),some (.val (.int t)),x])= .ok true:=
    sW (bf (aq rfl (aq rfl rfl Jq) (by show R.ok (D.bl (decide _))=_;rw[decide_eq_true h1]))) (bf (aq rfl rfl (by show R.ok (D.bl (decide _))=_;rw[decide_eq_true h2])))
   obtain⟨t',r',ew⟩:=Qz (s0:=S) (s1:=some (.val (.int k))) (s2:=some (.val (.int m))) (s3:=some (.val (.int c))) (n:=64) (t:=t) (r:=c / 1000000000000000000) ht (by exact ai6 h2);by_cases h3:0 < r'
   ·exact .inr ⟨_,jC e (aL (bx (aq rfl (aq rfl rfl Jq) (ni ⟨by exact z0a _,by exact z0a _⟩)) rfl) (aL ew (jC (bf (aq rfl rfl (by rw[zP,decide_eq_true h3]))) (cH (aq (aq rfl rfl (oh (by exact z0a _))) rfl (oh hm)))))),Int.emod_nonneg _ (by exact oq5 hm),Int.emod_lt_of_pos _ hm⟩
   ·exact .inl ⟨t',some (.val (.int r')),jC e (aL (bx (aq rfl (aq rfl rfl Jq) (ni ⟨by exact z0a _,by exact z0a _⟩)) rfl) (aL ew (fD (bf (aq rfl rfl (by rw[zP,decide_eq_false h3]))) rfl)))⟩
  ·exact .inl ⟨t,x,fD (sW (bf (aq rfl (aq rfl rfl Jq) (by show R.ok (D.bl (decide _))=_;rw[decide_eq_true h1]))) (bf (aq rfl rfl (by show R.ok (D.bl (decide _))=_;rw[decide_eq_false h2])))) rfl⟩
 ·exact .inl ⟨t,x,fD (FJ (bf (aq rfl (aq rfl rfl Jq) (by show R.ok (D.bl (decide _))=_;rw[decide_eq_false h1])))) rfl⟩
end
theorem sY {ρ:ao} {s t:ao->So} {d:D} (e1:s ρ= .rt d):aP s t ρ= .rt d:=by rw[aP,e1]
theorem Jr {xs:List D} {i:Int} {d:D} (h:atI xs i=some d):bD (.lst xs) (.int i)= .ok d:=by rw[bD,h]
theorem adb {ns:List Int} {k m:Int} (hl:ns.length<=1000000) (hk:0<=k) (hm:0 < m):∃v,bY 3 Lw [.lst (ns.map .int),.int k,.int m]= .ok (.int v)/\0<=v/\v < m:=by
 have hd:dep (.lst (ns.map .int))<=40:=by
  rw[dep];have:=Lq (c:=D.int) (n:=0) (l:=ns) (λ a _u=>by simp[dep]);exact ai7 this
 cases ns with
 | nil=>
  obtain⟨v,e,h⟩:=tail_eq (S:=some (.val (.lst []))) (k:=k) (c:=7*k) (x:=none) (y:=none) hm;exact⟨v,cN (aL (bx (aq rfl rfl (nZ (.inl ⟨by exact z0a _,by exact z0a _⟩))) rfl) (aL (fD (bf (aq rfl (gj rfl) (um rfl hd))) rfl) e)),h⟩
 | cons a ns=>
  have hn:m9 (.lst ((a::ns).map .int)) (.lst [])= .ok (.bl true):=by
   rw[m9,if_pos hd];rfl
  have hlen:(0:Int) < (((a::ns).map D.int).length:Int):=by rw[z1g,List.length_cons];exact ai8
  have hlen2:(((a::ns).map D.int).length:Int) < 2 ^ 64:=by rw[z1g];omega
  obtain⟨d,hd1,hd2⟩:=Lr (xs:=(a::ns).map D.int) (i:=k % (((a::ns).map D.int).length:Int)) (Int.emod_nonneg _ (by omega)) (Int.emod_lt_of_pos _ hlen);obtain⟨c,-,rfl⟩:=List.mem_map.mp hd1;have ht:0<=k / (((a::ns).map D.int).length:Int):=Int.ediv_nonneg hk (by omega)
  generalize hL:(((a::ns).map D.int).length:Int)=L at *
  have Js:∀(S x1 x2 x3 x4 x5:Option Ent),S=some (Ent.val (.lst ((a::ns).map D.int)))->aF bW (ak (λ ρ=>aU ρ 0) (λ _u=> .ok [])) [S,x1,x2,x3,x4,x5]= .ok (.int L):=by
   intro S x1 x2 x3 x4 x5 e;subst e;rw[<-hL];exact aY (aA rfl) rfl
  rcases agx (S:=some (.val (.lst ((a::ns).map .int)))) (k:=k) (m:=m) (c:=c) (x:=none) hm ht with⟨t',x',e⟩ |⟨v,e,h⟩
  ·obtain⟨v,e2,h⟩:=tail_eq (S:=some (.val (.lst ((a::ns).map .int)))) (k:=k) (c:=c+6553*(k / L)) (x:=some (.val (.int t'))) (y:=x') hm;exact⟨v,cN (aL (bx (aq rfl rfl (nZ (.inl ⟨by exact z0a _,by exact z0a _⟩))) rfl) (aL (jC (bf (aq rfl (gj rfl) hn))
    (aL (bx (aq rfl (aq rfl (Js _ _ _ _ _ _ rfl) (oh hlen)) (Jr hd2)) rfl) (aL (bx (aq rfl (Js _ _ _ _ _ _ rfl) (ni ⟨hlen,hlen2⟩)) rfl) (aL e (bx (aq rfl (aq rfl (aq rfl (Js _ _ _ _ _ _ rfl) (ni ⟨hlen,hlen2⟩)) (nZ (.inl ⟨by exact z0a _,by exact z0a _⟩))) rfl) rfl))))) e2)),h⟩
  ·exact⟨v,cN (aL (bx (aq rfl rfl (nZ (.inl ⟨by exact z0a _,by exact z0a _⟩))) rfl) (sY (jC (bf (aq rfl (gj rfl) hn))
    (aL (bx (aq rfl (aq rfl (Js _ _ _ _ _ _ rfl) (oh hlen)) (Jr hd2)) rfl) (aL (bx (aq rfl (Js _ _ _ _ _ _ rfl) (ni ⟨hlen,hlen2⟩)) rfl) (sY e)))))),h⟩
theorem fV {ρ ρ1 ρ2:ao} {gt:D->ao->R ao} {b:ao->So} {x:D} {xs:List D} {o:So} (e1:gt x ρ= .ok ρ1) (e2:b ρ1= .nx ρ2) (e3:forL gt b xs ρ2=o):forL gt b (x::xs) ρ=o:=by
 rw[forL];simp only[e1,e2];exact e3
theorem nj {ρ:ao} {fi:ao->R (List D)} {gt:D->ao->R ao} {b:ao->So} {xs:List D} {o:So} (e1:fi ρ= .ok xs) (e2:forL gt b xs ρ=o):oV fi gt b ρ=o:=by
 rw[oV,e1];exact e2
theorem aeR {ρ:ao} {i k:Nat} {f:ao->R D} {fa:ao->R (List D)} {d:D} {ds:List D} (e1:f ρ= .ok d) (e2:fa ρ= .ok ds) (h:autoParam (ds.length<=1000000) ap9._auto_1):Qv i k f fa ρ= .nx ((ρ.set i (some (.val d))).set k (some (.lst ds))):=by
 unfold Qv;rw[e1];simp only[jA,e2];rw[if_pos h]
theorem Lx {ρ:ao} {i k:Nat} {f g:ao->R D} {d e:D} (e1:f ρ= .ok d) (e2:g ρ= .ok e):Lp i k f g ρ= .nx ((ρ.set i (some (.val d))).set k (some (.val e))):=by
 unfold Lp;rw[e1];simp only[jA,e2]
noncomputable def dr (ns:List Int) (k m:Int):Int:=match bY 3 Lw [.lst (ns.map .int),.int k,.int m] with
 | .ok (.int v)=>v
 |_=>0
theorem zQ {ns:List Int} {k m:Int} (hl:ns.length<=1000000) (hk:0<=k) (hm:0 < m):bY 3 Lw [.lst (ns.map .int),.int k,.int m]= .ok (.int (dr ns k m))/\0<=dr ns k m/\dr ns k m < m:=by
 obtain⟨v,e,h⟩:=adb hl hk hm;have:dr ns k m=v:=by rw[dr,e]
 rw[this];exact⟨e,h⟩
end Pu
namespace Pu
open PySem PySem.Spec L2
open PyProof.Rows hiding St
section
variable {X:Cx}
noncomputable def Hj:List D->R D
 |[.int i]=> .ok (.int (if i < 0 then -i else i))
 |_=> .bad
set_option tactic.hygienic true in
theorem Jt:CallD X (.builtin "abs") Hj:=by
 refine⟨_,call_abs,λ ρ O σ H Q xs ds j r h=>?_⟩;unfold Hj at h;split at h
 ·rename_i i;obtain⟨x,rfl,rx⟩:=r.one;exact⟨i,by rw[rx.int],fin h (bN _)⟩
 ·exact h.elim
noncomputable def maxD:List D->R D
 |[.int i,.int j]=> .ok (.int (if j > i then j else i))
 |_=> .bad
set_option tactic.hygienic true in
theorem Cd (hc:X.calm=true):CallD X (.builtin "max") maxD:=by
 refine⟨_,call_max2 hc,λ ρ O σ H Q xs ds j r h=>?_⟩;unfold maxD at h;split at h
 ·rename_i i k;obtain⟨x,y,rfl,rx,ry⟩:=r.two;exact⟨i,k,by rw[rx.int,ry.int],fin h (bN _)⟩
 ·exact h.elim
noncomputable def minD:List D->R D
 |[.int i,.int j]=> .ok (.int (if j < i then j else i))
 |_=> .bad
set_option tactic.hygienic true in
theorem Ce (hc:X.calm=true):CallD X (.builtin "min") minD:=by
 refine⟨_,call_min2 hc,λ ρ O σ H Q xs ds j r h=>?_⟩;unfold minD at h;split at h
 ·rename_i i k;obtain⟨x,y,rfl,rx,ry⟩:=r.two;exact⟨i,k,by rw[rx.int,ry.int],fin h (bN _)⟩
 ·exact h.elim
noncomputable def Ju:D->Bool
 | .non=>true
 |_=>false
theorem Xd {K:PySem.W.Frag} {O:Addr->Prop} {H:Hp} {d:D} {v:V} (r:Rep K O H d v):decide (v= .non)=Ju d:=by
 cases d with
 |non=>rw[r.non];rfl
 |bl b=>rw[r.bl];rfl
 |int i=>rw[r.int];rfl
 |str x=>rw[r.str];rfl
 |tup ds=>obtain⟨a,xs,rfl,_⟩:=r.tup;rfl
 |lst ds=>obtain⟨a,xs,rfl,_⟩:=r.lst;rfl
noncomputable def isD:D->D->R D
 |d,.non=> .ok (.bl (Ju d))
 |_,_=> .bad
noncomputable def QB:D->D->R D
 |d,.non=> .ok (.bl (!Ju d))
 |_,_=> .bad
theorem Qa:kZ X (compareOp .Is) isD:=by
 refine⟨_,op_isN,λ ρ O σ H Q x y dx dy j0 rx ry h=>?_⟩;cases dy with
 |non=>exact⟨ry.non,by rw[Xd rx];exact fin (a:=D.bl (Ju dx)) h (gQ _)⟩
 |_=>cases dx <;> exact h.elim
theorem QC:kZ X (compareOp .IsNot) QB:=by
 refine⟨_,op_notN,λ ρ O σ H Q x y dx dy j0 rx ry h=>?_⟩;cases dy with
 |non=>exact⟨ry.non,by rw[Xd rx];exact fin (a:=D.bl (!Ju dx)) h (gQ _)⟩
 |_=>cases dx <;> exact h.elim
theorem aeS:OpR X (binaryOp .Add) (λ x y H Q=>∃a b ys,x= .ref a/\y= .ref b/\SqT X.K H a []/\SqT X.K H b ys/\Q (.ref b) H):=by
 intro pins s σ H x y v u Q I rx ry h;obtain⟨a,b,ys,rfl,rfl,ha,hb,q⟩:=h;cases rx;cases ry;obtain⟨its,r1,p1,_⟩:=I.tuple ha;obtain⟨its2,r2,p2,_⟩:=I.tuple hb;cases r1;obtain⟨⟨cls,dd,data,sl⟩,ho,hc,n,hd⟩:=id p1;obtain⟨⟨cls2,dd2,data2,sl2⟩,ho2,hc2,n2,hd2⟩:=id p2;simp only at hc hd hc2 hd2;subst hc hd hc2 hd2;exact concat_meets ⟨_,ho,rfl⟩ ⟨_,ho2,rfl⟩ noFill_tuple_add seq_tuple_add PySem.F.slot_tuple_add PySem.F.entry_tuple_add (PySem.F.args_tuple_add_2 _ _)
   (tuple_addW0 a b _ _ n n2 dd dd2 sl sl2 rfl) ⟨ho,ho2,⟨.ref b,H,I,rfl,q⟩⟩
noncomputable def ajq:D->R D
 | .int i=> .ok (.int (-i))
 |_=> .bad
noncomputable def zR (f:ao->R D):ao->R D:=λ ρ=>(f ρ).bind ajq
theorem Cg {e:Expr} {f:ao->R D} {pos:Pos} (he:DE X e f):DE X (.UnaryOp .USub e pos) (zR f):=by
 refine PE.imp (pe_un un_neg he) λ σ H Q h=>?_;obtain⟨ρ,O,j,h⟩:=h;refine go j h λ d v H1 e1 s1 r1 j1 h1=>?_;cases d with
 |int i=>exact⟨i,r1.int,fin h1 (bN _)⟩
 |_=>exact h1.elim
theorem aeT:OpR X (binaryOp .Add) (λ x y H Q=>∃a b xs ys,x= .ref a/\y= .ref b/\SqL X.K H a xs/\SqL X.K H b ys/\xs.length+ys.length<=sizeLine/\∀p,H p=none->Q (.ref p) (upd H p (.lst (xs++ys)))):=by
 intro pins s σ H x y v u Q I rx ry h;obtain⟨a,b,xs,ys,rfl,rfl,ha,hb,hz,q⟩:=h;cases rx;cases ry;obtain⟨its,r1,p1,_⟩:=I.list ha;obtain⟨its2,r2,p2,_⟩:=I.list hb;obtain⟨⟨cls,dd,data,sl⟩,n,ho,hc,hdd,hd⟩:=id p1;obtain⟨⟨cls2,dd2,data2,sl2⟩,n2,ho2,hc2,ajr,hd2⟩:=id p2;simp only at hc hd hc2 hd2;subst hc hd hc2 hd2;refine concat_meets ⟨_,ho,rfl⟩ ⟨_,ho2,rfl⟩ noFill_list_add seq_list_add PySem.F.slot_list_add PySem.F.entry_list_add (PySem.F.args_list_add_2 _ _)
   (list_addW a b _ _ n n2 dd dd2 sl sl2 (by rw[z1c,z1c,<-r1.length,<-r2.length];exact hz)) ⟨ho,ho2,?_⟩
 have ea:its.toArray++its2.toArray=(its++its2).toArray:=by simp
 rw[ea];exact⟨.ref _,_,I.lnew (t':=s.toks) (r1.append r2) (by rw[z1d];assumption),rfl,q _ I.fresh⟩
noncomputable def cR:D->D->R D
 | .int i,.int j=> .ok (.int (i+j))
 | .tup xs,.tup ys=>if xs.length+ys.length<=1000000 then .ok (.tup (xs++ys)) else .bad
 | .lst xs,.lst ys=>if xs.length+ys.length<=1000000 then .ok (.lst (xs++ys)) else .bad
 |_,_=> .bad
set_option tactic.hygienic true in
theorem bU:kZ X (binaryOp .Add) cR:=by
 refine⟨_,OpR.or op_add (OpR.or op_catT (OpR.or aeS aeT)),λ ρ O σ H Q x y dx dy j0 rx ry h=>?_⟩;cases dx <;> cases dy <;> first
  |exact h.elim
  |skip
 ·rename_i i j;exact .inl ⟨i,j,rx.int,ry.int,fin h (bN _)⟩
 ·rename_i xs ys;have h:good X (rD X) O (if xs.length+ys.length<=1000000 then .ok (.tup (xs++ys)) else .bad) σ H Q:=h;by_cases hc:xs.length+ys.length<=1000000
  ·rw [if_pos hc] at h;obtain⟨a,us,rfl,ha,r1⟩:=rx.tup;obtain⟨b,ws,rfl,hb,r2⟩:=ry.tup;by_cases hx:us=[]
   ·subst hx;have:xs=[]:=List.eq_nil_of_length_eq_zero r1.length;subst this;exact .inr (.inr (.inl ⟨a,b,ws,rfl,rfl,ha,hb,fin h ry⟩))
   ·refine .inr (.inl ⟨a,b,us,ws,rfl,rfl,ha,hb,hx,?_,λ z=>?_,λ z l hl=>?_⟩)
    ·rw[<-r1.length,<-r2.length];exact z0b hc dh
    ·subst z;have:ys=[]:=List.eq_nil_of_length_eq_zero r2.length;subst this;rw[List.append_nil] at h;exact fin h rx
    ·exact h _ _ (Same.upd hl) (Rep.sO hl (r1.append r2))
  ·rw[if_neg hc] at h;exact h.elim
 ·rename_i xs ys;have h:good X (rD X) O (if xs.length+ys.length<=1000000 then .ok (.lst (xs++ys)) else .bad) σ H Q:=h;by_cases hc:xs.length+ys.length<=1000000
  ·rw[if_pos hc] at h;obtain⟨a,us,rfl,ha,_,r1⟩:=rx.lst;obtain⟨b,ws,rfl,hb,_,r2⟩:=ry.lst;refine .inr (.inr (.inr ⟨a,b,us,ws,rfl,rfl,ha,hb,?_,λ l hl=>?_⟩))
   ·rw[<-r1.length,<-r2.length];exact z0b hc dh
   ·exact h _ _ (Same.upd hl) (Rep.Fo hl (j0.BW hl) (r1.append r2))
  ·rw[if_neg hc] at h;exact h.elim
end
section
variable {prog:Program} {w:World} {A:Around} {E:Value->Shared->Prop} {s:Shared}
open HT in
theorem BR {t sl:Addr} {items:Array Value} {vl vu:Value} {lo hi:Option Int} {Q:Value->Shared->Prop} (ht:IsTup s.heap t items) (hs:s.heap.IsSliceOf sl vl vu .none) (pl:IsPart vl lo) (pu:IsPart vu hi)
  (hw:sIx items.size 0 lo=0/\sIx items.size items.size hi=items.size) (h:Q (.ref t) s):wpAny (model prog w) A (getItem (.ref t) (.ref sl)) Q E s:=by
 obtain⟨os,hos,hcs,hds⟩:=id hs;have hTs:s.TypeIs (.ref sl) "slice" :=⟨os,hos,hcs⟩;unfold getItem
 try with_reducible refine wpAny_holding ?_
 first |refine wpAny_bind (wpAny_pure ?_) |skip
 refine wpAny_bind (wpAny_sequenceKey ht.typeIs (by decide) ?_);refine wpAny_bind (wpAny_callSpecial?_slot (name:=Str.ofString "__getitem__") ht.typeIs PyProof.Rows.slot_tuple_getitem
  (wpAny_call_entry PyProof.Rows.slot_tuple_getitem ht.typeIs entry_tuple_getitem ?_ (args_tuple_getitem _ _)))
 show wpAny _ _ (Builtin.Tuple.tupleItemsOf (.ref t) >>=_) _ _ s;refine wpAny_bind (tupleItemsOf_ ht ?_);refine wpAny_bind (wpAny_typeOf hTs ?_);rw[if_pos (by decide)];refine wpAny_bind (sliceApplied_gen hs pl pu ?_);show wpAny _ _ (if (((sIx items.size 0 lo:Nat):Int) ==0 && (1:Int) ==1 && (sIx items.size items.size hi - sIx items.size 0 lo) ==items.size)=true then _ else _) _ _ s;rw[if_pos (by rw[hw.1,hw.2];simp)];refine wpAny_bind (m:=Builtin.Tuple.tupleIsExact _) (wpAny_bind (wpAny_typeOf ht.typeIs (wpAny_pure ?_)));rw[if_pos (beq_self_eq_true _)]
 first
  |exact wpAny_bind (wpAny_pure (wpAny_pure ⟨_,rfl,wpAny_pure h⟩))
  |exact wpAny_bind (wpAny_rule (wpAny_pure ⟨_,rfl,wpAny_pure h⟩))
end
section
variable {X:Cx} {e e1:Expr} {lo hi:Option Expr} {f f1:ao->R D} {fl fu:ao->R (Option Int)} {pos p2:Pos}
noncomputable def ajs (K:PySem.W.Frag):V->Option Int->Option Int->Hp->VK->Prop:=λ x lo hi H Q=>∃a xs,x= .ref a/\SqT K H a xs/\
 (HT.sIx xs.length 0 lo=0/\HT.sIx xs.length xs.length hi=xs.length)/\Q (.ref a) H
theorem aeU:SlR X (ajs X.K):=by
 intro pins s σ H x v vl vu lo hi sl Q I rx hs pl pu h;obtain⟨a,xs,rfl,hx,hw,q⟩:=h;cases rx;obtain⟨its,r,ht,hz⟩:=I.tuple hx;have hlen:its.toArray.size=xs.length:=by rw[z1c];exact r.length.symm
 exact⟨"tuple",_,PyProof.Rows.slot_tuple_getitem.lookup,ht.typeIs,BR ht hs pl pu (by rw[hlen];exact hw) ⟨.ref a,H,I,rfl,q⟩⟩
noncomputable abbrev ajt:(Addr->Prop)->Hp->Option Int->Option Int->Prop:=λ _u _u a b=>a=b
noncomputable def DPo (X:Cx) (lo:Option Expr) (fo:ao->R (Option Int)):Prop:=PO X lo (tG X ajt fo)
theorem PO.imp {t t':TO} (h:PO X lo t) (w:∀σ H Q,t' σ H Q->t σ H Q):PO X lo t':=λ pins s σ H Q I q=>h pins s σ H Q I (w σ H Q q)
theorem ade:DPo X none (λ _u=> .ok none):=by
 refine PO.imp po_none λ σ H Q h=>?_;obtain⟨ρ,O,j,h⟩:=h;exact fin h rfl
noncomputable def asI:D->R (Option Int)
 | .int i=> .ok (some i)
 |_=> .bad
theorem adf (h:DE X e1 f1):DPo X (some e1) (λ ρ=>(f1 ρ).bind asI):=by
 refine PO.imp (po_some h) λ σ H Q h=>?_;obtain⟨ρ,O,j,h⟩:=h;refine go j h λ d v H1 e1 s1 r1 j1 h1=>?_;cases d with
 |int i=>exact⟨i,r1.int,fin h1 rfl⟩
 |_=>exact h1.elim
noncomputable def Ci (ds:List D) (lo hi:Option Int):List D:=(ds.drop (HT.sIx ds.length 0 lo)).take (HT.sIx ds.length ds.length hi - HT.sIx ds.length 0 lo)
noncomputable def agy (d:D) (lo hi:Option Int):R D:=match d with
 | .tup ds=> .ok (.tup (Ci ds lo hi))
 |_=> .bad
noncomputable def Jv (f:ao->R D) (fl fu:ao->R (Option Int)):ao->R D:=λ ρ=>(f ρ).bind λ d=>(fl ρ).bind λ l=>(fu ρ).bind λ u=>agy d l u
theorem adg (he:DE X e f) (hl:DPo X lo fl) (hu:DPo X hi fu):DE X (.Subscript e (.Slice lo hi none p2) pos) (Jv f fl fu):=by
 refine PE.imp (pe_slice (SlR.or sl_tup aeU) he hl hu) λ σ H Q h=>?_;obtain⟨ρ,O,j,h⟩:=h;refine go j h λ d v H1 e1 s1 r1 j1 h1=>?_;refine go j1 h1 λ l l' H2 e2 s2 r2 j2 h2=>?_;refine go j2 h2 λ u u' H3 e3 s3 r3 j3 h3=>?_;have r2:l=l':=r2;have r3:u=u':=r3;subst r2 r3;cases d with
 | tup ds=>
  have r1':=(r1.same s2).same s3;obtain⟨a,xs,rfl,hq,rs⟩:=r1'.tup;have hlen:=rs.length;by_cases hw:HT.sIx xs.length 0 l=0/\HT.sIx xs.length xs.length u=xs.length
  ·refine .inr ⟨a,xs,rfl,hq,hw,?_⟩;have e:Ci ds l u=ds:=by
    unfold Ci;rw[hlen,hw.1,hw.2,List.drop_zero,Nat.sub_zero,<-hlen,List.take_length]
   have h3:good X (rD X) O (.ok (.tup (Ci ds l u))) σ H3 Q:=h3;rw[e] at h3;exact fin h3 r1'
  ·refine .inl ⟨a,xs,rfl,hq,hw,λ p hp=>?_⟩;refine h3 _ _ (Same.upd hp) (Rep.sO hp ?_);unfold Ci cutV;rw[hlen];exact (rs.drop _).take _
 |_=>exact h3.elim
end
noncomputable def pickK {α:Type} (z:α) (sel:List (Sum Nat α)) (ws:List α):List α:=sel.map λ
 | .inl i=>ws.getD i z
 | .inr c=>c
section
variable {K:PySem.W.Frag} {O:Addr->Prop} {H:Hp}
end
section
variable {X:Cx} {k n:Nat} {f:Addr} {fd:FuncData} {ps ks:List Str} {F:List D->R D} {x:Str} {p pos kpos:Pos} {e:Expr} {es:List Expr} {kws:List Keyword} {fa fk:ao->R (List D)} {fe:ao->R D} {nm:Option Str}
noncomputable def KB (K:PySem.W.Frag) (fd:FuncData) (ps ks:List Str) (sel:List (Sum Nat Value)):Prop:=∀(s:Shared) (us ws:List Value),K.In s.heap->us.length+sel.length=ps.length->ws.length=ks.length->BindsTo s fd ⟨us,ks.zip ws⟩ (ps.zip (us++pickK .none sel ws))
end
section
variable {X:Cx} {k n:Nat} {f:Addr} {fd:FuncData} {ps:List Str} {F:List D->R D} {x:Str} {p pos:Pos} {e:Expr} {es:List Expr} {fa:ao->R (List D)}
end
theorem len0 {α:Type} {l:List α} (h:l.length=0):l=[]:=List.eq_nil_of_length_eq_zero h
theorem adh {α:Type} {l:List α} {n:Nat} (h:l.length=n+1):∃a m,l=a::m/\m.length=n:=by
 cases l with
 |nil=>simp at h
 |cons a m=>exact⟨a,m,rfl,by simpa using h⟩
section
variable {X:Cx} {k m n:Nat} {fd:FuncData} {ps ks:List Str} {F:List D->R D} {x:Str} {p pos:Pos} {e:Expr} {es:List Expr} {kws:List Keyword} {fa fk:ao->R (List D)}
end
section
variable {K:PySem.W.Frag} {kV doc pm cdv ct:Value} {an:Option Addr} {body:List Stmt} {scope:Scope} {d:Addr} {t:Tok} {q:Pos}
noncomputable def aa1 (q:Pos):Arguments:={posonlyargs:=[],args:=[⟨"p",none,q⟩],vararg:=none,kwonlyargs:=[⟨"manner",none,q⟩,⟨"marks",none,q⟩],kw_defaults:=[some (.Constant (.str "worth") 0 q),some (.Constant .none 0 q)],kwarg:=none,defaults:=[]}
example:KB K (PySem.W.fnOf "f" "f" (aa1 q) body scope .none kV doc pm an cdv ct) ["p","manner","marks"] ["marks","manner"] [.inl 1,.inl 0]:=by
 intro s us ws i hl hw;have hl1:us.length=1:=by simpa using hl
 clear hl
 obtain⟨u,us',rfl,hl2⟩:=adh hl1
 clear hl1
 cases len0 hl2;obtain⟨w1,ws1,rfl,hw1⟩:=adh hw
 clear hw
 obtain⟨w2,ws2,rfl,hw2⟩:=adh hw1
 clear hw1
 cases len0 hw2;exact .of_eq rfl
end
noncomputable def bestOf (lt:Int->Int->Bool):List Int->Int
 |[]=>0
 |a::r=>r.foldl (λ m x=>if lt x m then x else m) a
theorem numAt_eq {zs:Array (Int×Tok)} {ns:List Int} (e:ns=zs.toList.map (·.1)) (i:Nat):numAt zs i=ns.getD i 0:=by
 subst e;simp[numAt,List.getD]
theorem Nb (lt:Int->Int->Bool) (a:Int) (r:List Int):∀k:Nat,k<=r.length->(a::r).getD (argBest (λ i j=>lt ((a::r).getD i 0) ((a::r).getD j 0)) k) 0=bestOf lt (a::r.take k)/\argBest (λ i j=>lt ((a::r).getD i 0) ((a::r).getD j 0)) k<=k
 |0,_=>by simp[argBest,bestOf]
 | k +1,h=>by
  obtain⟨ih,hb⟩:=Nb lt a r k (by exact z0e h);have e1:r.take (k+1)=r.take k++[r.getD k 0]:=by
   rw[List.take_add_one,List.getD];rw[List.getElem?_eq_getElem (by assumption)];rfl
  have e2:bestOf lt (a::r.take (k+1))=if lt (r.getD k 0) (bestOf lt (a::r.take k)) then r.getD k 0 else bestOf lt (a::r.take k):=by
   rw[bestOf,e1,List.foldl_append];rfl
  rw[e2,<-ih];have e3:(a::r).getD (k+1) 0=r.getD k 0:=by simp[List.getD]
  have eA:argBest (λ i j=>lt ((a::r).getD i 0) ((a::r).getD j 0)) (k+1)=if lt (r.getD k 0) ((a::r).getD (argBest (λ i j=>lt ((a::r).getD i 0) ((a::r).getD j 0)) k) 0) then k+1 else argBest (λ i j=>lt ((a::r).getD i 0) ((a::r).getD j 0)) k:=by rw[<-e3];rfl
  rw[eA];by_cases q:lt (r.getD k 0) ((a::r).getD (argBest (λ i j=>lt ((a::r).getD i 0) ((a::r).getD j 0)) k) 0)=true
  ·rw[if_pos q,if_pos q];exact⟨e3,z0g _⟩
  ·rw[if_neg q,if_neg q];exact⟨rfl,by exact Nat.le_succ_of_le hb⟩
theorem adi (lt:Int->Int->Bool) {ns:List Int} (h:0 < ns.length):ns.getD (argBest (λ i j=>lt (ns.getD i 0) (ns.getD j 0)) (ns.length - 1)) 0=bestOf lt ns:=by
 cases ns with
 |nil=>simp at h
 | cons a r=>
  have:=(Nb lt a r r.length (z0g _)).1;rw[List.take_length] at this;exact this
section
variable {X:Cx}
theorem YD {ns:List Int} {its:List Value} (r':Vals (ns.map V.int) its):∃zs:Array (Int×Tok),its.toArray=intItems zs/\ns=zs.toList.map (·.1):=by
 have hi:=intsAre_of r';obtain⟨zs,hx⟩:=hi.allInts.items;refine⟨zs,hx,?_⟩;rw[<-nums_intItems,<-hx];exact (show numsOf its.toArray.toList=ns from hi.numsOf).symm
noncomputable abbrev ltB (a b:Int):Bool:=decide (a < b)
end
section
variable {K:PySem.W.Frag} {O O':Addr->Prop} {H:Hp}
end
section
variable {X:Cx} {e:Expr} {f:ao->R D} {pos:Pos}
end
section
variable {prog:Program} {w:World} {A:Around} {E:Value->Shared->Prop} {s:Shared} {t:Addr}
end
section
variable {X:Cx}
end
theorem Hl:fillsNumberSlot (.type "tuple") "mul" =pure false:=
 PySem.fillsNumberSlot_seq (id:= "tuple.__mul__") (r:=some (.builtin "tuple.__rmul__")) F.slot_tuple_mul.lookup (by decide +kernel) F.slot_tuple_rmul.lookup (by decide +kernel)
theorem QD:seqRepeat? (.type "tuple")=pure (some (.builtin "tuple.__mul__")):=by
 unfold seqRepeat?;rw[PySem.seqSlot_of (T:= "tuple") (name:= "__mul__") (id:= "tuple.__mul__") F.slot_tuple_mul.lookup (by decide +kernel),PySem.seqSlot_of (T:= "tuple") (name:= "__rmul__") (id:= "tuple.__rmul__") F.slot_tuple_rmul.lookup (by decide +kernel)];rfl
theorem Ly (a:Int) (t:Tok) (l:Addr) (items:Array Value) (n:Nat) (dd:Option Addr) (sl:Array (Option Value)):
  Meets (Builtin.«int.__rmul__» ⟨[.int a t,.ref l],[]⟩) (λ _u R s=>s.heap.get? l=some {cls:= .type "tuple",dict:=dd,data:= .seq items n,slots:=sl}/\R (.ok (.ret Value.notImplemented)) s):=
 .of_wp λ prog w A R s h=>by obtain⟨hp,g,d,tk,os⟩:=s;obtain⟨hl,h⟩:=h;wp_walk;exact⟨_,rfl,h⟩
theorem YF (l:Addr) (items:Array Value) (n:Nat) (dd:Option Addr) (sl:Array (Option Value)) (t:Tok):
  Meets (Builtin.«tuple.__mul__» ⟨[.ref l,.int 1 t],[]⟩) (λ _u R s=>s.heap.get? l=some {cls:= .type "tuple",dict:=dd,data:= .seq items n,slots:=sl}/\R (.ok (.ret (.ref l))) {s with heap:=s.heap,toks:=s.toks}):=
 .of_wp λ prog w A R s h=>by obtain⟨hp,g,d,tk,os⟩:=s;obtain⟨hl,h⟩:=h;have f1:=AutoSeq1.idx_int;have hc0:(items.isEmpty || (1:Int) ==1)=true:=(by simp);unfold Builtin.«tuple.__mul__»;wp_walk using wpAny_loadPart' hl;exact⟨_,rfl,h⟩
theorem YG (l:Addr) (items:Array Value) (n:Nat) (dd:Option Addr) (sl:Array (Option Value)) (k:Int) (t:Tok) (hf:¬(decide (k < -(2 ^ 63)) || decide (k>=2 ^ 63))=true) (hc0:¬(items.isEmpty || k ==1)=true) (hc1:¬(decide (k<=0) || items.isEmpty)=true)
  (hc2:¬(items.size:Int)*k > (2 ^ 63 - 1) / 8) (hc3:¬Builtin.Tuple.tupleTooMany ((items.size:Int)*k)=true) (hsz:sizeOk (.seq (List.foldl (λ x1 x2=>x1++x2) #[] (List.replicate k.toNat items)))):
  Meets (Builtin.«tuple.__mul__» ⟨[.ref l,.int k t],[]⟩) (λ _u R s=>s.heap.get? l=some {cls:= .type "tuple",dict:=dd,data:= .seq items n,slots:=sl}/\R (.ok (.ret (.ref s.heap.objs.size))) {s with heap:=s.heap.push {cls:=Value.type "tuple",data:=Data.seq (List.foldl (λ x1 x2=>x1++x2) #[] (List.replicate k.toNat items))},toks:=s.toks}):=
 .of_wp λ prog w A R s h=>by
  obtain⟨hp,g,d,tk,os⟩:=s;obtain⟨hl,h⟩:=h;have f1:=AutoSeq1.idx_int;unfold Builtin.«tuple.__mul__»
  wp_walk using wpAny_loadPart' hl
  refine wpAny_ite_false (by simpa using hf) ?_
  wp_walk using wpAny_loadPart' hl
  refine wpAny_ite_false (by simpa using hc2) ?_
  wp_walk using wpAny_loadPart' hl
  refine wpAny_ite_false (by simpa[sizeOk] using hsz) ?_
  wp_walk using wpAny_loadPart' hl
  exact⟨_,rfl,h⟩
section
variable {X:Cx}
theorem aeV:OpR X (binaryOp .Mult) (λ x y H Q=>∃a k xs,x= .ref a/\y= .int k/\SqT X.K H a xs/\xs≠[]/\1<=k/\k < 2 ^ 63/\xs.length*k.toNat<=sizeLine/\(k=1->Q (.ref a) H)/\
  (k≠1->∀p,H p=none->Q (.ref p) (upd H p (.tup (List.replicate k.toNat xs).flatten)))):=by
 intro pins s σ H x y v u Q I rx ry h;obtain⟨a,k,xs,rfl,rfl,hq,hx,h1,h2,hz,q1,q2⟩:=h;cases rx;obtain⟨t,rfl⟩:=ry;obtain⟨its,r,p1,_⟩:=I.tuple hq;obtain⟨⟨cls,dd,data,sl⟩,ho,hc,n,hd⟩:=id p1;simp only at hc hd;subst hc hd;have hlen:=r.length;have hne:its≠[]:=λ z=>hx (by rw[z] at r;cases r;rfl);have hpos:0 < its.length:=by cases its with |nil=>exact absurd rfl hne |cons _ _=>simp
 have hemp:its.toArray.isEmpty=false:=by cases its with |nil=>exact absurd rfl hne |cons _ _=>simp
 refine wpAny_binaryOp_repeat_ref (T:= "tuple") (U:= "int") (by decide) ⟨_,ho,rfl⟩ (λ s'=>typeIs_int s' k t) Hl F.fills_int_mul F.slot_int_rmul QD F.slot_int_index.lookup
  (call_meets F.slot_int_rmul (typeIs_int s k t) F.entry_int_rmul (F.args_int_rmul_2 _ _) (Ly k t a its.toArray n dd sl) ⟨ho,rfl,⟨_,ho,rfl⟩,?_⟩)
 by_cases hk:k=1
 ·subst hk;exact call_meets F.slot_tuple_mul ⟨_,ho,rfl⟩ F.entry_tuple_mul (F.args_tuple_mul_2 _ _) (YF a its.toArray n dd sl t) ⟨ho,⟨.ref a,H,I,rfl,q1 rfl⟩⟩
 ·have hmul:(its.toArray.size:Int)*k=((xs.length*k.toNat:Nat):Int):=by
   rw[z1c,<-hlen,Int.natCast_mul,Int.toNat_of_nonneg (by exact Int.le_of_lt h1)]
  have hnew:List.foldl (λ x1 x2=>x1++x2) #[] (List.replicate k.toNat its.toArray)=(List.replicate k.toNat its).flatten.toArray:=by
   have:=foldl_rep its k.toNat [];rw[List.nil_append] at this;exact this
  have hs:sizeOk (.seq (List.foldl (λ x1 x2=>x1++x2) #[] (List.replicate k.toNat its.toArray))):=by
   rw[hnew];show (List.replicate k.toNat its).flatten.toArray.size<=sizeLine;rw[z1c,len_rep,<-hlen,Nat.mul_comm];exact hz
  have hbig:(sizeLine:Nat)<=(2 ^ 63 - 1) / 8:=by decide
  refine call_meets F.slot_tuple_mul ⟨_,ho,rfl⟩ F.entry_tuple_mul (F.args_tuple_mul_2 _ _) (YG a its.toArray n dd sl k t (by simp;exact ac1 h1 h2) (by rw[hemp];simp[hk]) (by rw[hemp];simp;assumption) (by rw[hmul];exact aja hz hbig) (by rw[hmul];unfold Builtin.Tuple.tupleTooMany;intro z;have z:=of_decide_eq_true z;exact ai9 z hz) hs) ⟨ho,?_⟩;rw[hnew];refine⟨.ref s.heap.objs.size,_,I.laid (t':=s.toks) (o:= .tup (List.replicate k.toNat xs).flatten) (λ b ob q=>z1a _ q) (z0g _) ?_,rfl,q2 hk _ (I.hok.fresh (z0g _))⟩;exact⟨by rw[len_rep,Nat.mul_comm];exact hz,_,r.rep k.toNat,IsTup.new _ _⟩
theorem zT {K:PySem.W.Frag} {O:Addr->Prop} {H:Hp} {ds:List D} {xs:List V} (r:aK K O H ds xs):∀k:Nat,aK K O H (List.replicate k ds).flatten (List.replicate k xs).flatten
 |0=> .nil
 |k+1=>by rw[List.replicate_succ,List.replicate_succ,List.flatten_cons,List.flatten_cons];exact r.append (zT r k)
noncomputable def Ho:D->D->R D
 | .int i,.int j=>jw (.int i) (.int j)
 | .tup ds,.int k=>if ds≠[]/\1<=k/\k < 2 ^ 63/\ds.length*k.toNat<=1000000 then .ok (.tup (List.replicate k.toNat ds).flatten) else .bad
 |_,_=> .bad
set_option tactic.hygienic true in
theorem yU:kZ X (binaryOp .Mult) Ho:=by
 obtain⟨r0,o0,c0⟩:=rJ (X:=X);refine⟨_,OpR.or o0 aeV,λ ρ O σ H Q x y dx dy j0 rx ry h=>?_⟩;cases dx <;> cases dy <;> first
  |exact h.elim
  |skip
 ·exact .inl (c0 ρ O σ H Q x y _ _ j0 rx ry h)
 ·rename_i ds k;have h:good X (rD X) O (if ds≠[]/\1<=k/\k < 2 ^ 63/\ds.length*k.toNat<=1000000 then .ok (.tup (List.replicate k.toNat ds).flatten) else .bad) σ H Q:=h;by_cases hc:ds≠[]/\1<=k/\k < 2 ^ 63/\ds.length*k.toNat<=1000000
  ·rw[if_pos hc] at h;obtain⟨a,us,rfl,ha,r1⟩:=rx.tup;obtain⟨h0,h1,h2,h3⟩:=hc;refine .inr ⟨a,k,us,rfl,ry.int,ha,λ z=>h0 (by have:=r1.length;rw[z] at this;exact List.eq_nil_of_length_eq_zero this),h1,h2,by rw[<-r1.length];exact z0b h3 dh,λ z=>?_,λ z l hl=>?_⟩
   ·subst z;have e:(List.replicate (1:Int).toNat ds).flatten=ds:=by simp
    rw[e] at h;exact fin h rx
   ·exact h _ _ (Same.upd hl) (Rep.sO hl (zT r1 _))
  ·rw[if_neg hc] at h;exact h.elim
end
noncomputable def jK:D->Bool
 | .tup _=>false
 | .lst _=>false
 |_=>true
noncomputable def vD:D->V
 | .non=> .non
 | .bl b=> .bl b
 | .int i=> .int i
 | .str x=> .str x
 |_=> .non
section
variable {K:PySem.W.Frag} {O:Addr->Prop} {H:Hp}
theorem Xe {d:D} {v:V} (f:jK d=true) (r:Rep K O H d v):v=vD d:=by
 cases d with
 |non=>exact r.non
 |bl b=>exact r.bl
 |int i=>exact r.int
 |str x=>exact r.str
 |tup _=>cases f
 |lst _=>cases f
theorem QF:∀{ds:List D} {vs:List V},ds.all jK=true->aK K O H ds vs->vs=ds.map vD
 |[],vs,_,r=>r.nil_inv
 | d::ds,vs,f,r=>by
  obtain⟨x,t,rfl,h1,h2⟩:=r.cons_inv;rw[List.all_cons,Bool.and_eq_true] at f;rw[Xe f.1 h1,QF f.2 h2];rfl
theorem aa2 {d:D} (f:jK d=true):flatV (vD d)=true:=by cases d <;> first |rfl |cases f
theorem aib {a b:D} (fa:jK a=true) (fb:jK b=true):eqV (vD a) (vD b)=gU a b:=by
 cases a <;> cases b <;> first |rfl |(simp[jK] at fa;done) |(simp[jK] at fb;done) |(rw[iR];rfl) |(simp[vD,eqV,tY,tZ,uc,ud,uf,mJ,iR])
theorem aex {d:D} (fd:jK d=true):∀{ds:List D},ds.all jK=true->inV (vD d) (ds.map vD)=ds.any λ y=>gU y d
 |[],_=>rfl
 | y::ds,f=>by
  rw[List.all_cons,Bool.and_eq_true] at f;have ih:=aex fd f.2;unfold inV at ih |-;rw[z1h,List.any_cons,List.any_cons,aib f.1 fd,ih]
theorem Xf:∀{ds:List D},ds.all jK=true->(ds.map vD).all flatV=true
 |[],_=>rfl
 | y::ds,f=>by
  rw[List.all_cons,Bool.and_eq_true] at f;rw[z1h,List.all_cons,aa2 f.1,Xf f.2];rfl
end
noncomputable def agz:D->Option (List D)
 | .tup ds=>some ds
 | .lst ds=>some ds
 |_=>none
noncomputable def Xg (neg:Bool) (d s:D):R D:=match agz s with
 |some ds=>if jK d=true/\ds.all jK=true then .ok (.bl (if neg then !(ds.any λ y=>gU y d) else ds.any λ y=>gU y d)) else .bad
 |none=> .bad
section
variable {X:Cx}
theorem in_of {neg:Bool} {ρ:ao} {O:Addr->Prop} {σ:St} {H:Hp} {Q:VK} {x y:V} {dx dy:D} (rx:Rep X.K O H dx x) (ry:Rep X.K O H dy y) (h:good X (rD X) O (Xg neg dx dy) σ H Q):rIn X.K neg x y H Q:=by
 unfold Xg at h;cases e:agz dy with
 |none=>rw[e] at h;exact h.elim
 | some ds=>
  rw[e] at h;have h:good X (rD X) O (if jK dx=true/\ds.all jK=true then .ok (.bl (if neg then !(ds.any λ y=>gU y dx) else ds.any λ y=>gU y dx)) else .bad) σ H Q:=h;by_cases hc:jK dx=true/\ds.all jK=true
  ·rw [if_pos hc] at h;have key:∃p xs,y= .ref p/\(SqL X.K H p xs\/SqT X.K H p xs)/\aK X.K O H ds xs:=by
    cases dy with
    | tup ds'=>
     cases e;obtain⟨a,xs,rfl,hq,rs⟩:=ry.tup;exact⟨a,xs,rfl,.inr hq,rs⟩
    | lst ds'=>
     cases e;obtain⟨a,xs,rfl,hq,_,rs⟩:=ry.lst;exact⟨a,xs,rfl,.inl hq,rs⟩
    |_=>cases e
   obtain⟨p,xs,rfl,hq,rs⟩:=key;have e1:=Xe hc.1 rx;have e2:=QF hc.2 rs;subst e1 e2;refine⟨p,_,rfl,hq,aa2 hc.1,Xf hc.2,?_⟩;rw[aex hc.1 hc.2];exact fin h (gQ _)
  ·rw[if_neg hc] at h;exact h.elim
theorem aic:kZ X (compareOp .In) (Xg false):=⟨_,op_in_seq,λ ρ O σ H Q x y dx dy j0 rx ry h=>in_of (ρ:=ρ) rx ry h⟩
end
noncomputable def pF:Bool->Heap->Addr->Addr->Nat->Prop
 |true,h,it,l,k=>h.IsTupleIter it l k
 |false,h,it,l,k=>h.IsListIter it l k
noncomputable def sy:Bool->Heap->Addr->Array Value->Prop
 |true,h,l,xs=>h.IsTuple l xs
 |false,h,l,xs=>h.IsList l xs
noncomputable def itC (t:Bool):String:=if t then "tuple_iterator" else "list_iterator"
noncomputable def Sq:Bool->PySem.W.Frag->Hp->Addr->List V->Prop
 |true,K,H,a,xs=>SqT K H a xs
 |false,K,H,a,xs=>SqL K H a xs
theorem pF.of {t:Bool} {h h':Heap} {it l:Addr} {k:Nat} (x:pF t h it l k) (q:∀o,h.get? it=some o->h'.get? it=some o):pF t h' it l k:=by
 cases t <;> (obtain⟨o,e,r⟩:=x;exact⟨o,q o e,r⟩)
theorem pF.obj {t:Bool} {h:Heap} {it l:Addr} {k:Nat} (x:pF t h it l k):∃o,h.get? it=some o/\∀v,o.data≠.cell v:=by
 cases t <;> (obtain⟨o,e,c,d⟩:=x;exact⟨o,e,λ v z=>by rw[d] at z;cases z⟩)
theorem pF.new {t:Bool} {h:Heap} {l:Addr} {it:Addr} (e:h.get? it=some {cls:= .type (itC t),data:= .fields #[.ref l,.int 0 0]}):pF t h it l 0:=by
 cases t <;> exact⟨_,e,rfl,rfl⟩
theorem sy.of {t:Bool} {h h':Heap} {l:Addr} {xs:Array Value} (x:sy t h l xs) (q:∀o,h.get? l=some o->h'.get? l=some o):sy t h' l xs:=by
 cases t <;> (obtain⟨o,e,r⟩:=x;exact⟨o,q o e,r⟩)
section
variable {prog:Program} {w:World} {A:Around} {E:Value->Shared->Prop} {s:Shared}
theorem nextT {it l:Addr} {i:Nat} {xs:Array Value} {v:Value} {Q:Value->Shared->Prop} (hit:s.heap.IsTupleIter it l i) (hl:s.heap.IsTuple l xs) (hv:xs[i]?=some v)
  (hQ:∀h',h'.IsTupleIter it l (i+1)->Heap.SameBut it s.heap h'->Q v {s with heap:=h'}):wpAny (model prog w) A (Builtin.SmallTypes.nextOf (.ref it)) Q E s:=by
 have ty:=hit.typeIs;obtain⟨o,g,c,dt⟩:=hit;obtain⟨p,gp,_,m,dp⟩:=hl;unfold Builtin.SmallTypes.nextOf;refine wpAny_bind (wpAny_callSpecial?_slot (name:=Str.ofString "__next__") ty F.slot_tuple_iterator_next (wpAny_call_entry F.slot_tuple_iterator_next ty F.entry_tuple_iterator_next ?_ (F.args_tuple_iterator_next_1 _)));show wpAny _ _ (field (.ref it) 0 >>=_) _ _ s;refine wpAny_bind (wpAny_field g dt (x:= .ref l) rfl ?_);show wpAny _ _ (if (Value.ref l ==Value.none)=true then _ else _) _ _ s;rw[if_neg (show ¬((Value.ref l ==Value.none)=true) from Bool.false_ne_true)];show wpAny _ _ (field (.ref it) 1 >>=_) _ _ s;refine wpAny_bind (wpAny_field g dt (x:= .int i 0) rfl ?_);show wpAny _ _ (seqItems? (.ref l) >>=_) _ _ s;refine wpAny_bind (wpAny_seqItems gp dp ?_);simp only[Int.toNat_natCast,hv];refine wpAny_bind (wpAny_setField g dt (by simp) (wpAny_pure ⟨v,rfl,wpAny_pure (hQ _ ⟨_,Heap.get?_update_self _ g (Obj.isFreed_of_fields (Obj.data_mapFields dt _)),(Obj.cls_mapFields ..).trans c,?_⟩ (Heap.SameBut.update ..))⟩));rw[Obj.data_mapFields dt];simp[rawInt]
theorem adk {it l:Addr} {i:Nat} {xs:Array Value} {Q:Value->Shared->Prop} (hh:A.handled=none) (hit:s.heap.IsTupleIter it l i) (hl:s.heap.IsTuple l xs) (hv:xs[i]?=none)
  (hE:∀h' e,Heap.ExtBut it s.heap h'->(∃o,h'.get? e=some o/\o.cls= .type "StopIteration")->E (.ref e) {s with heap:=h'}):wpAny (model prog w) A (Builtin.SmallTypes.nextOf (.ref it)) Q E s:=by
 have ty:=hit.typeIs;obtain⟨o,g,c,dt⟩:=hit;obtain⟨p,gp,_,m,dp⟩:=hl;unfold Builtin.SmallTypes.nextOf;refine wpAny_bind (wpAny_callSpecial?_slot (name:=Str.ofString "__next__") ty F.slot_tuple_iterator_next (wpAny_call_entry F.slot_tuple_iterator_next ty F.entry_tuple_iterator_next ?_ (F.args_tuple_iterator_next_1 _)));show wpAny _ _ (field (.ref it) 0 >>=_) _ _ s;refine wpAny_bind (wpAny_field g dt (x:= .ref l) rfl ?_);show wpAny _ _ (if (Value.ref l ==Value.none)=true then _ else _) _ _ s;rw[if_neg (show ¬((Value.ref l ==Value.none)=true) from Bool.false_ne_true)];show wpAny _ _ (field (.ref it) 1 >>=_) _ _ s;refine wpAny_bind (wpAny_field g dt (x:= .int i 0) rfl ?_);show wpAny _ _ (seqItems? (.ref l) >>=_) _ _ s;refine wpAny_bind (wpAny_seqItems gp dp ?_);simp only[Int.toNat_natCast,hv];refine wpAny_bind (wpAny_rule (wpAny_bind (wpAny_setField g dt (by simp) ?_)));show wpAny _ _ (newExc (.type "StopIteration") [] >>=_) _ _ _;refine wpAny_bind ?_;simp only[newExc,newTuple];refine wpAny_bind (wpAny_newObj_type ?_ (by size_fits));refine wpAny_bind (m:=firstArgMember _ _) (wpAny_of_eq (a:=Value.none) (by first |(simp only[firstArgMember];rfl) |rfl) ?_);refine wpAny_newObj_type ?_ (by size_fits);simp only[raiseNew];refine wpAny_bind (wpAny_handled ?_);first |rw [show A.in1.handled=none from hh] |rw [hh]
 exact wpAny_bind (wpAny_pure (wpAny_throw (hE _ _ (((Heap.SameBut.update ..).extBut.push _).push _) ⟨_,z1f _ rfl,rfl⟩)))
theorem Qc {t:Bool} {it l:Addr} {i:Nat} {xs:Array Value} {v:Value} {Q:Value->Shared->Prop} (hit:pF t s.heap it l i) (hl:sy t s.heap l xs) (hv:xs[i]?=some v)
  (hQ:∀h',pF t h' it l (i+1)->Heap.SameBut it s.heap h'->Q v {s with heap:=h'}):wpAny (model prog w) A (Builtin.SmallTypes.nextOf (.ref it)) Q E s:=by
 cases t with
 |true=>exact nextT hit hl hv hQ
 |false=>exact wpAny_nextOf_list_item hit hl hv hQ
theorem Hq {t:Bool} {it l:Addr} {i:Nat} {xs:Array Value} {Q:Value->Shared->Prop} (hh:A.handled=none) (hit:pF t s.heap it l i) (hl:sy t s.heap l xs) (hv:xs[i]?=none)
  (hE:∀h' e,Heap.ExtBut it s.heap h'->(∃o,h'.get? e=some o/\o.cls= .type "StopIteration")->E (.ref e) {s with heap:=h'}):wpAny (model prog w) A (Builtin.SmallTypes.nextOf (.ref it)) Q E s:=by
 cases t with
 |true=>exact adk hh hit hl hv hE
 |false=>exact wpAny_nextOf_list_end hh hit hl hv hE
theorem Jw {t:Bool} {l:Addr} {xs:Array Value} {Q:Value->Shared->Prop} (hl:sy t s.heap l xs) (hQ:Q (.ref s.heap.objs.size) {s with heap:=s.heap.push {cls:= .type (itC t),data:= .fields #[.ref l,.int 0 0]}}):
  wpAny (model prog w) A (pyIter (.ref l)) Q E s:=by
 cases t with
 |true=>exact wpAny_pyIter_tuple hl hQ
 |false=>exact wpAny_pyIter_list hl hQ
theorem QG {T:Addr} {arr:Array Value} {x:Value} {k:Nat} {Q:Unit->Shared->Prop} (hT:s.heap.get? T=some {cls:= .type "tuple",data:= .seq arr})
  (h:∀h',h'.get? T=some {cls:= .type "tuple",data:= .seq (arr.setIfInBounds k x)}->Heap.SameBut T s.heap h'->Q () {s with heap:=h'}) (hs:arr.size<=sizeLine:=by size_fits):wpAny (model prog w) A (updateSeq T (·.setIfInBounds k x)) Q E s:=by
 refine wpAny_updateSeq (hz:=hs) (_hz':=by simpa using Nat.le_succ_of_le hs) hT rfl (h _ (by rw[Heap.get?_update_self _ hT rfl];simp[Obj.mapSeq]) (Heap.SameBut.update ..))
end
section
variable {X:Cx} {pins:List (Addr×Obj)} {σ:St} {H:Hp} {s:Shared}
theorem _root_.L2.Inv.fp {b:Addr} {h':Heap} (I:Inv X pins σ H s) (f:FpOk X pins H b) (sb:Heap.SameBut b s.heap h'):Inv X pins σ H {s with heap:=h'}:=
 I.turned (t':=s.toks) (λ c o hc e=>(sb.2 c hc).trans e) f.1 f.2.1 f.2.2.2.1 f.2.2.2.2.1 f.2.2.2.2.2
theorem _root_.L2.Inv.fpE {b:Addr} {h':Heap} (I:Inv X pins σ H s) (f:FpOk X pins H b) (sb:Heap.ExtBut b s.heap h'):Inv X pins σ H {s with heap:=h'}:=
 I.turned (t':=s.toks) (λ c o hc e=>sb c o hc e) f.1 f.2.1 f.2.2.2.1 f.2.2.2.2.1 f.2.2.2.2.2
theorem _root_.L2.FpOk.upd {b p:Addr} {o:HO} (f:FpOk X pins H b) (n:b≠p):FpOk X pins (L2.upd H p o) b:=⟨by rw[upd_ne n];exact f.1,f.2⟩
theorem _root_.L2.Inv.sq {t:Bool} {l:Addr} {xs:List V} (I:Inv X pins σ H s) (q:Sq t X.K H l xs):∃its:List Value,Vals xs its/\sy t s.heap l its.toArray:=by
 cases t with
 |true=>obtain⟨its,r,p,_⟩:=I.tuple q;exact⟨its,r,p⟩
 |false=>obtain⟨its,r,p,_⟩:=I.list q;exact⟨its,r,p.isList⟩
theorem _root_.L2.Inv.QH {t:Bool} {l:Addr} {xs ys:List V} (I:Inv X pins σ H s) (q:Sq t X.K H l xs) (r:Sq t X.K H l ys):xs=ys:=by
 cases t with
 |true=>exact I.tuple_inj q r
 |false=>exact I.list_inj q r
end
noncomputable abbrev zU (h:Heap) (T:Addr) (arr:Array Value):Prop:=h.get? T=some {cls:= .type "tuple",data:= .seq arr}
structure Z2 (h:Heap) (z TI TO i1 i2:Addr) (t1 t2:Bool) (l1 l2:Addr) (k:Nat):Prop where
 z:IsZip h z TI TO .none
 ti:zU h TI #[.ref i1,.ref i2]
 to:∃a b,zU h TO #[a,b]
 s1:pF t1 h i1 l1 k
 s2:pF t2 h i2 l2 k
noncomputable def adl (K:PySem.W.Frag) (t1:Bool) (l1:Addr) (t2:Bool) (l2:Addr):It:=
 ⟨λ i H=>∃xs ys x y,Sq t1 K H l1 xs/\xs[i]?=some x/\Sq t2 K H l2 ys/\ys[i]?=some y,
  λ i H v H'=>∃p x y,H p=none/\v= .ref p/\H'=upd H p (.tup [x,y])/\(∀xs,Sq t1 K H l1 xs->xs[i]?=some x)/\∀ys,Sq t2 K H l2 ys->ys[i]?=some y,
  λ i H=>∃xs ys,Sq t1 K H l1 xs/\Sq t2 K H l2 ys/\(xs.length<=i\/ys.length<=i)⟩
section
variable {X:Cx} {pins:List (Addr×Obj)} {σ:St} {H:Hp} {s:Shared} {A':Around} {E:Value->Shared->Prop}
theorem aa3:2<=sizeLine:=z0b (by decide) (z0e mL)
theorem aa4 {z TI TO i1 i2 l1 l2:Addr} {t1 t2:Bool} {k:Nat} {xs ys:List V} {x y:V} {Q:Value->Shared->Prop} (I:Inv X pins σ H s)
  (fz:FpOk X pins H z) (fO:FpOk X pins H TO) (f1:FpOk X pins H i1) (f2:FpOk X pins H i2)
  (n1:TI≠z) (n2:TO≠z) (n3:i1≠z) (n4:i2≠z) (n5:TI≠TO) (n6:TI≠i1) (n7:TI≠i2) (n8:TO≠i1) (n9:TO≠i2) (n10:i1≠i2)
  (st:Z2 s.heap z TI TO i1 i2 t1 t2 l1 l2 k) (q1:Sq t1 X.K H l1 xs) (e1:xs[k]?=some x) (q2:Sq t2 X.K H l2 ys) (e2:ys[k]?=some y)
  (hQ:∀h',Inv X pins σ (upd H s.heap.objs.size (.tup [x,y])) {s with heap:=h'}->IsZip h' z TI TO (rawInt s.heap.objs.size)->zU h' TI #[.ref i1,.ref i2]->(∃a b,zU h' TO #[a,b])->
   pF t1 h' i1 l1 (k+1)->pF t2 h' i2 l2 (k+1)->Q (.ref s.heap.objs.size) {s with heap:=h'}):
  wpAny (model X.prog X.w) A' (Builtin.«zip.__next__» ⟨[.ref z],[]⟩) (λ fin s'=>∃v,fin= .done (.ret v)/\Q v s') E s:=by
 obtain⟨hz,hTI,⟨a,b,hTO⟩,h1,h2⟩:=st;show wpAny _ _ (field (.ref z) 2 >>=_) _ _ _;refine wpAny_bind (wpAny_field hz rfl (x:= .bool false) rfl ?_);show wpAny _ _ (field (.ref z) 3 >>=_) _ _ _;refine wpAny_bind (wpAny_field hz rfl (x:= .ref TI) rfl ?_);refine wpAny_bind (wpAny_seqItems hTI rfl ?_);show wpAny _ _ (Builtin.SmallTypes.ownedTupleIsFree (.ref z) >>=_) _ _ _;refine wpAny_bind ?_;unfold Builtin.SmallTypes.ownedTupleIsFree;refine wpAny_bind (wpAny_field hz rfl (x:= .none) rfl (wpAny_pure ?_));simp only[if_true];refine wpAny_bind (wpAny_rule (wpAny_bind (wpAny_field hz rfl (x:= .ref TO) rfl ?_)));refine wpAny_bind (wpAny_setField_rec hz (by simp) λ g1 z1 b1=>?_)
 replace z1:IsZip g1 z TI TO .ellipsis:=z1
 have I1:=I.fp fz b1;refine wpAny_bind ?_;simp only[List.zipIdx_cons,List.zipIdx_nil,List.forIn_cons,List.forIn_nil];obtain⟨us,r1,p1⟩:=I1.sq q1;obtain⟨u,hu,ru⟩:=r1.get e1;refine wpAny_bind (wpAny_bind (wpAny_onRaise ?_));show wpAny _ _ (Builtin.SmallTypes.nextOf (.ref i1) >>=_) _ _ _;refine wpAny_bind (Qc (h1.of λ o e=>b1.extBut _ _ n3 e) p1 (v:=u) (by simpa using hu) λ g2 s12 b2=>wpAny_pure ?_);have I2:=I1.fp f1 b2;have o2:zU g2 TO #[a,b]:=b2.extBut _ _ n8 (b1.extBut _ _ n2 hTO);refine wpAny_bind (wpAny_seqItems o2 rfl (wpAny_bind (QG o2 λ g3 o3 b3=>wpAny_bind (wpAny_letGo (wpAny_pure ?_)))))
 replace o3:zU g3 TO #[u,b]:=o3
 have I3:=I2.fp fO b3;obtain⟨vs,r2,p2⟩:=I3.sq q2;obtain⟨v,hv,rv⟩:=r2.get e2;refine wpAny_bind (wpAny_bind (wpAny_onRaise ?_));show wpAny _ _ (Builtin.SmallTypes.nextOf (.ref i2) >>=_) _ _ _;refine wpAny_bind (Qc (h2.of λ o e=>b3.extBut _ _ (Ne.symm n9) (b2.extBut _ _ (Ne.symm n10) (b1.extBut _ _ n4 e))) p2 (v:=v) (by simpa using hv) λ g4 s24 b4=>wpAny_pure ?_);have I4:=I3.fp f2 b4;have o4:zU g4 TO #[u,b]:=b4.extBut _ _ n9 o3;refine wpAny_bind (wpAny_seqItems o4 rfl (wpAny_bind (QG o4 λ g5 o5 b5=>wpAny_bind (wpAny_letGo (wpAny_pure (wpAny_pure ?_))))))
 replace o5:zU g5 TO #[u,v]:=o5
 have I5:=I4.fp fO b5;refine wpAny_bind (wpAny_seqItems o5 rfl (wpAny_bind (wpAny_newTuple ?_)));have sz:g5.objs.size=s.heap.objs.size:=by rw[b5.1,b4.1,b3.1,b2.1,b1.1]
 have I6:Inv X pins σ (upd H g5.objs.size (.tup [x,y])) {s with heap:=g5.push {cls:= .type "tuple",data:= .seq #[u,v]}}:=
  I5.laid (t':=s.toks) (λ b u e=>z1a _ e) (z0g _) ⟨aa3,[u,v],.cons ru (.cons rv .nil),⟨_,z1f _ rfl,rfl,_,rfl⟩⟩
 have z5:IsZip g5 z TI TO .ellipsis:=b5.extBut _ _ (Ne.symm n2) (b4.extBut _ _ (Ne.symm n4) (b3.extBut _ _ (Ne.symm n2) (b2.extBut _ _ (Ne.symm n3) z1)));have lt:∀{c o},g5.get? c=some o->c≠g5.objs.size:=λ e=>Nat.ne_of_lt (z2c e);show wpAny _ _ (Builtin.SmallTypes.ownedTupleHandOut (.ref z) (.ref g5.objs.size) >>=_) _ _ _;refine wpAny_bind ?_;unfold Builtin.SmallTypes.ownedTupleHandOut;refine wpAny_bind (wpAny_setField_rec (z1a _ z5) (by simp) λ g7 z7 b7=>?_)
 replace z7:IsZip g7 z TI TO (rawInt g5.objs.size):=z7
 have I7:=I6.fp (fz.upd (lt z5)) b7;refine wpAny_setField_rec z7 (by simp) λ g8 z8 b8=>?_
 replace z8:IsZip g8 z TI TO (rawInt g5.objs.size):=z8
 have I8:=I7.fp (fz.upd (lt z5)) b8;have up:∀c o,c≠z->g5.get? c=some o->g8.get? c=some o:=λ c o c1 e=>b8.extBut _ _ c1 (b7.extBut _ _ c1 (z1a _ e));refine wpAny_pure ⟨_,rfl,?_⟩;rw[sz] at I8 z8;show Q (.ref g5.objs.size) _;rw[sz];refine hQ g8 I8 z8 (up _ _ n1 (b5.extBut _ _ n5 (b4.extBut _ _ n7 (b3.extBut _ _ n5 (b2.extBut _ _ n6 (b1.extBut _ _ n1 hTI)))))) ⟨u,v,up _ _ n2 o5⟩ ?_ ?_
 ·exact s12.of λ o e=>up _ _ n3 (b5.extBut _ _ (Ne.symm n8) (b4.extBut _ _ n10 (b3.extBut _ _ (Ne.symm n8) e)))
 ·exact s24.of λ o e=>up _ _ n4 (b5.extBut _ _ (Ne.symm n9) e)
theorem adn {z TI TO i1 i2 l1 l2:Addr} {t1 t2:Bool} {k:Nat} {xs ys:List V} {Q:Fin->Shared->Prop} (hh:A'.handled=none) (I:Inv X pins σ H s)
  (fz:FpOk X pins H z) (fO:FpOk X pins H TO) (f1:FpOk X pins H i1) (f2:FpOk X pins H i2)
  (n1:TI≠z) (n2:TO≠z) (n3:i1≠z) (n4:i2≠z) (n5:TI≠TO) (n6:TI≠i1) (n7:TI≠i2) (n8:TO≠i1) (n9:TO≠i2) (n10:i1≠i2)
  (st:Z2 s.heap z TI TO i1 i2 t1 t2 l1 l2 k) (q1:Sq t1 X.K H l1 xs) (q2:Sq t2 X.K H l2 ys) (en:xs.length<=k\/ys.length<=k)
  (hE:∀h' e,Inv X pins σ H {s with heap:=h'}->(∃o,h'.get? e=some o/\o.cls= .type "StopIteration")->E (.ref e) {s with heap:=h'}):
  wpAny (model X.prog X.w) A' (Builtin.«zip.__next__» ⟨[.ref z],[]⟩) Q E s:=by
 obtain⟨hz,hTI,⟨a,b,hTO⟩,h1,h2⟩:=st;show wpAny _ _ (field (.ref z) 2 >>=_) _ _ _;refine wpAny_bind (wpAny_field hz rfl (x:= .bool false) rfl ?_);show wpAny _ _ (field (.ref z) 3 >>=_) _ _ _;refine wpAny_bind (wpAny_field hz rfl (x:= .ref TI) rfl ?_);refine wpAny_bind (wpAny_seqItems hTI rfl ?_);show wpAny _ _ (Builtin.SmallTypes.ownedTupleIsFree (.ref z) >>=_) _ _ _;refine wpAny_bind ?_;unfold Builtin.SmallTypes.ownedTupleIsFree;refine wpAny_bind (wpAny_field hz rfl (x:= .none) rfl (wpAny_pure ?_));simp only[if_true];refine wpAny_bind (wpAny_rule (wpAny_bind (wpAny_field hz rfl (x:= .ref TO) rfl ?_)));refine wpAny_bind (wpAny_setField_rec hz (by simp) λ g1 z1 b1=>?_)
 replace z1:IsZip g1 z TI TO .ellipsis:=z1
 have I1:=I.fp fz b1;refine wpAny_bind ?_;simp only[List.zipIdx_cons,List.zipIdx_nil,List.forIn_cons,List.forIn_nil];obtain⟨us,r1,p1⟩:=I1.sq q1;have leave:∀{g g':Heap} {e:Addr} {c:Addr},Inv X pins σ H {s with heap:=g}->IsZip g z TI TO .ellipsis->FpOk X pins H c->c≠z->Heap.ExtBut c g g'->(∃o,g'.get? e=some o/\o.cls= .type "StopIteration")->
   wpAny (model X.prog X.w) A' (setField (.ref z) 0 .none) (λ _u s'=>E (.ref e) s') E {s with heap:=g'}:=λ {g g' e c} Ig zg fc nc eb ⟨oe,hoe,hce⟩=>by
  have zg':IsZip g' z TI TO .ellipsis:=eb _ _ (Ne.symm nc) zg;have hez:e≠z:=λ q=>by subst q;rw[zg'] at hoe;cases hoe;simp at hce
  have Ig':Inv X pins σ H {s with heap:=g'}:=Ig.fpE fc eb;exact wpAny_setField_rec zg' (by simp) λ g'' _u b''=>hE g'' e (Ig'.fp fz b'') ⟨oe,b''.extBut _ _ hez hoe,hce⟩
 refine wpAny_bind (wpAny_bind (wpAny_onRaise ?_));show wpAny _ _ (Builtin.SmallTypes.nextOf (.ref i1) >>=_) _ _ _;have h1':=h1.of (h':=g1) λ o e=>b1.extBut _ _ n3 e;by_cases hx:xs.length<=k
 ·exact wpAny_bind (Hq hh h1' p1 (by have:=r1.length;simp;exact Qg this hx) λ g2 e eb ex=>leave I1 z1 f1 n3 eb ex)
 ·have hy:ys.length<=k:=by rcases en with h |h;exact absurd h hx;exact h
  obtain⟨u,hu,ru⟩:=r1.get (i:=k) (x:=xs[k]'(by exact agi hx)) (List.getElem?_eq_getElem (by exact agi hx));refine wpAny_bind (Qc h1' p1 (v:=u) (by simpa using hu) λ g2 s12 b2=>wpAny_pure ?_);have I2:=I1.fp f1 b2;have o2:zU g2 TO #[a,b]:=b2.extBut _ _ n8 (b1.extBut _ _ n2 hTO);refine wpAny_bind (wpAny_seqItems o2 rfl (wpAny_bind (QG o2 λ g3 o3 b3=>wpAny_bind (wpAny_letGo (wpAny_pure ?_)))));have I3:=I2.fp fO b3;obtain⟨vs,r2,p2⟩:=I3.sq q2;have z3:IsZip g3 z TI TO .ellipsis:=b3.extBut _ _ (Ne.symm n2) (b2.extBut _ _ (Ne.symm n3) z1);refine wpAny_bind (wpAny_bind (wpAny_onRaise ?_));show wpAny _ _ (Builtin.SmallTypes.nextOf (.ref i2) >>=_) _ _ _;exact wpAny_bind (Hq hh (h2.of λ o e=>b3.extBut _ _ (Ne.symm n9) (b2.extBut _ _ (Ne.symm n10) (b1.extBut _ _ n4 e))) p2 (by have:=r2.length;simp;exact ajb en this hx) λ g4 e eb ex=>leave I3 z3 f2 n4 eb ex)
end
theorem aa5 {P:Program} {w:World} {K:PySem.W.Frag} {Bv:List Expr} {kk} {pp:Pos} {z TI TO i1 i2 l1 l2:Addr} {t1 t2:Bool}
  (n1:TI≠z) (n2:TO≠z) (n3:i1≠z) (n4:i2≠z) (n5:TI≠TO) (n6:TI≠i1) (n7:TI≠i2) (n8:TO≠i1) (n9:TO≠i2) (n10:i1≠i2):
  Turn P w K (.Tuple Bv kk pp) (adl K t1 l1 t2 l2) [z,TI,TO,i1,i2] z (λ i h=>Z2 h z TI TO i1 i2 t1 t2 l1 l2 i) where
 mem:=by simp
 obj:=λ i h st b hb=>by
  obtain⟨hz,hTI,⟨x,y,hTO⟩,h1,h2⟩:=st;simp only[List.mem_cons,List.not_mem_nil,or_false] at hb;rcases hb with rfl |rfl |rfl |rfl |rfl
  ·exact⟨_,hz,λ v q=>by have q':Data.fields _=Data.cell v:=q;cases q'⟩
  ·exact⟨_,hTI,λ v q=>by have q':Data.seq _=Data.cell v:=q;cases q'⟩
  ·exact⟨_,hTO,λ v q=>by have q':Data.seq _=Data.cell v:=q;cases q'⟩
  ·exact h1.obj
  ·exact h2.obj
 keep:=λ i h h' st k=>by
  obtain⟨hz,hTI,⟨x,y,hTO⟩,h1,h2⟩:=st;exact⟨k _ (by simp) _ hz,k _ (by simp) _ hTI,⟨x,y,k _ (by simp) _ hTO⟩,h1.of λ o e=>k _ (by simp) o e,h2.of λ o e=>k _ (by simp) o e⟩
 item :=by
  intro X hP hw hK hc i pins s σ H E I hf st hg;subst hP hw hK;obtain⟨xs,ys,x,y,q1,e1,q2,e2⟩:=hg;have hT:s.TypeIs (.ref z) "zip" :=⟨_,st.z,rfl⟩;unfold pyNext;refine wpAny_bind (wpAny_attempt (wpAny_callSpecial?_slot (name:=Str.ofString "__next__") hT F.slot_zip_next (wpAny_call_entry F.slot_zip_next hT F.entry_zip_next
   (aa4 I (hf z (by simp)) (hf TO (by simp)) (hf i1 (by simp)) (hf i2 (by simp)) n1 n2 n3 n4 n5 n6 n7 n8 n9 n10 st q1 e1 q2 e2 λ h' I' z' ti' to' s1' s2'=>wpAny_pure ⟨_,rfl,?_⟩) (F.args_zip_next_1 _))))
  have hp:H s.heap.objs.size=none:=I.hok.fresh (z0g _);have nz:∀b,b∈[z,TI,TO,i1,i2]->b≠s.heap.objs.size:=λ b hb q=>by
   obtain⟨o,e,_⟩:∃o,s.heap.get? b=some o/\True:=by
    obtain⟨hz,hTI,⟨x,y,hTO⟩,h1,h2⟩:=st;simp only[List.mem_cons,List.not_mem_nil,or_false] at hb;rcases hb with rfl |rfl |rfl |rfl |rfl
    ·exact⟨_,hz,trivial⟩
    ·exact⟨_,hTI,trivial⟩
    ·exact⟨_,hTO,trivial⟩
    ·obtain⟨o,e,_⟩:=h1.obj;exact⟨o,e,trivial⟩
    ·obtain⟨o,e,_⟩:=h2.obj;exact⟨o,e,trivial⟩
   exact absurd (z2c e) (by rw[q];exact Nat.lt_irrefl _)
  refine wpAny_letOwnedTupleGo_zip z' λ h'' z'' b''=>⟨.ref s.heap.objs.size,upd H s.heap.objs.size (.tup [x,y]),I'.fp ((hf z (by simp)).upd (nz z (by simp))) b'',rfl,⟨_,x,y,hp,rfl,rfl,λ xs' q=>by rw[I.QH q q1];exact e1,λ ys' q=>by rw[I.QH q q2];exact e2⟩,?_,λ b hb=>?_⟩
  ·obtain⟨a,b,to'⟩:=to';exact⟨z'',b''.extBut _ _ n1 ti',⟨a,b,b''.extBut _ _ n2 to'⟩,s1'.of λ o e=>b''.extBut _ _ n3 e,s2'.of λ o e=>b''.extBut _ _ n4 e⟩
  ·rw[upd_ne (nz b hb)];exact (hf b hb).1
 done:=by
  intro X hP hw hK hc i pins s σ H E I hf st hg;subst hP hw hK;obtain⟨xs,ys,q1,q2,en⟩:=hg;have hT:s.TypeIs (.ref z) "zip" :=⟨_,st.z,rfl⟩;unfold pyNext;refine wpAny_bind (wpAny_attempt (wpAny_callSpecial?_slot (name:=Str.ofString "__next__") hT F.slot_zip_next (wpAny_call_entry F.slot_zip_next hT F.entry_zip_next
   (adn (I.ok.hd hc) I (hf z (by simp)) (hf TO (by simp)) (hf i1 (by simp)) (hf i2 (by simp)) n1 n2 n3 n4 n5 n6 n7 n8 n9 n10 st q1 q2 en λ h' e I' ex=>?_) (F.args_zip_next_1 _))))
  obtain⟨o,ho,ec⟩:=ex;exact wpAny_bind (wpAny_isInstance (T:= "StopIteration") (b:=true) ⟨o,ho,ec⟩ isSubtype_stop (wpAny_pure ⟨rfl,I'⟩))
 self:=λ _u _u _u _u _u st h=>wpAny_pyIter_zip st.z h
noncomputable abbrev itR (t:Bool) (l:Addr):Obj:={cls:= .type (itC t),data:= .fields #[.ref l,.int 0 0]}
noncomputable abbrev zA1 (h:Heap) (t1:Bool) (l1:Addr):Heap:=h.push (itR t1 l1)
noncomputable abbrev zA2 (h:Heap) (t1:Bool) (l1:Addr) (t2:Bool) (l2:Addr):Heap:=(zA1 h t1 l1).push (itR t2 l2)
noncomputable abbrev zA3 (h:Heap) (t1:Bool) (l1:Addr) (t2:Bool) (l2:Addr):Heap:=(zA2 h t1 l1 t2 l2).push {cls:= .type "tuple",data:= .seq #[.ref h.objs.size,.ref (zA1 h t1 l1).objs.size]}
noncomputable abbrev zA4 (h:Heap) (t1:Bool) (l1:Addr) (t2:Bool) (l2:Addr):Heap:=(zA3 h t1 l1 t2 l2).push {cls:= .type "tuple",data:= .seq #[.none,.none]}
noncomputable abbrev Xh (h:Heap) (t1:Bool) (l1:Addr) (t2:Bool) (l2:Addr):Heap:=(zA4 h t1 l1 t2 l2).push {cls:= .type "zip",data:= .fields #[.none,.bool false,.bool false,.ref (zA2 h t1 l1 t2 l2).objs.size,.ref (zA3 h t1 l1 t2 l2).objs.size]}
theorem YH (t1:Bool) (l1:Addr) (t2:Bool) (l2:Addr) (xs ys:Array Value):Meets (Builtin.«zip.__new__» ⟨[.type "zip",.ref l1,.ref l2],[]⟩)
  (λ _u R s=>sy t1 s.heap l1 xs/\sy t2 s.heap l2 ys/\R (.ok (.ret (.ref (zA4 s.heap t1 l1 t2 l2).objs.size))) {s with heap:=Xh s.heap t1 l1 t2 l2}):=
 .of_wp λ prog w A R s h=>by
  obtain⟨hp,g,d,tk,os⟩:=s;obtain⟨k1,k2,h⟩:=h;have hsub:=sub_zip;have L1:sy t1 (Shared.heap ⟨hp,g,d,tk,os⟩) l1 xs:=k1;have L2:sy t2 (Shared.heap ⟨zA1 hp t1 l1,g,d,tk,os⟩) l2 ys:=k2.of λ o e=>z1a _ e
  wp_walk using Jw L1,Jw L2
  exact⟨_,rfl,h⟩
section
variable {prog:Program} {w:World} {A:Around} {E:Value->Shared->Prop} {s:Shared}
theorem aa6 {t1 t2:Bool} {l1 l2:Addr} {xs ys:Array Value} {Q:Value->Shared->Prop} (k1:sy t1 s.heap l1 xs) (k2:sy t2 s.heap l2 ys)
  (h:∀h',Z2 h' (s.heap.objs.size+4) (s.heap.objs.size+2) (s.heap.objs.size+3) s.heap.objs.size (s.heap.objs.size+1) t1 t2 l1 l2 0->(∀c o,s.heap.get? c=some o->h'.get? c=some o)->Q (.ref (s.heap.objs.size+4)) {s with heap:=h'}):
  wpAny (model prog w) A (call (.type "zip") [.ref l1,.ref l2]) Q E s:=by
 refine callType_new F.called_zip (by decide) (F.typeCall_zip_2 _ _) (F.newCall_zip_2 _ _) (λ obj=>F.args_object_init_3 obj _ _) F.entry_zip_new (YH t1 l1 t2 l2 xs ys) ⟨k1,k2,?_⟩;have z1:(zA1 s.heap t1 l1).objs.size=s.heap.objs.size+1:=Heap.size_push ..;have z2:(zA2 s.heap t1 l1 t2 l2).objs.size=s.heap.objs.size+2:=by rw[Heap.size_push,z1]
 have z3:(zA3 s.heap t1 l1 t2 l2).objs.size=s.heap.objs.size+3:=by rw[Heap.size_push,z2]
 have z4:(zA4 s.heap t1 l1 t2 l2).objs.size=s.heap.objs.size+4:=by rw[Heap.size_push,z3]
 have a5:(Xh s.heap t1 l1 t2 l2).get? (zA4 s.heap t1 l1 t2 l2).objs.size=some _:=z1f _ rfl;have a4:(Xh s.heap t1 l1 t2 l2).get? (zA3 s.heap t1 l1 t2 l2).objs.size=some _:=z1a _ (z1f _ rfl);have a3:(Xh s.heap t1 l1 t2 l2).get? (zA2 s.heap t1 l1 t2 l2).objs.size=some _:=z1a _ (z1a _ (z1f _ rfl));have a2:(Xh s.heap t1 l1 t2 l2).get? (zA1 s.heap t1 l1).objs.size=some (itR t2 l2):=z1a _ (z1a _ (z1a _ (z1f _ rfl)));have a1:(Xh s.heap t1 l1 t2 l2).get? s.heap.objs.size=some (itR t1 l1):=z1a _ (z1a _ (z1a _ (z1a _ (z1f _ rfl))));show _/\_;rw[z2,z3,z4] at a5;rw[z1,z2] at a3;rw[z3] at a4;rw[z1] at a2;rw[z4];exact⟨⟨_,a5,rfl⟩,h _ ⟨a5,a3,⟨_,_,a4⟩,.new a1,.new a2⟩ λ c o e=>z1a _ (z1a _ (z1a _ (z1a _ (z1a _ e))))⟩
end
theorem agA:bootBuiltins "zip" =some (.type "zip"):=by decide +kernel
section
variable {X:Cx} {Bv:List Expr} {kk:Nat} {pp:Pos} {a b:Expr} {p pos:Pos}
noncomputable def aie (K:PySem.W.Frag) (ta:TA):TI:=λ σ H R=>ta σ H λ vs H1=>∃t1 l1 t2 l2,vs=[.ref l1,.ref l2]/\(∃xs,Sq t1 K H1 l1 xs)/\(∃ys,Sq t2 K H1 l2 ys)/\R (adl K t1 l1 t2 l2) H1
theorem aeW {ta:TA} (hg:Gl X "zip") (hm:X.mg "zip" =none) (ha:PA X [a,b] ta) (he:autoParam (starEach [a,b] X.env=(false,eval a X.env)::starEach [b] X.env) aN._auto_1) (hpl:autoParam ((backTo pos (starEach [b] X.env)).any (·.1)=false) aN._auto_1):
  PI X (.Tuple Bv kk pp) (.Call (.Name "zip" p) [a,b] [] pos) (aie X.K ta):=by
 intro pins s σ H R I h;refine Call_ (ld_blt I hg hm agA (PyProof.Rows.callWith_type1 (thn (ha pos pins s σ H _ I h) λ us s1 ⟨vs,H1,I1,r1,q1⟩=>?_) he hpl));obtain⟨t1,l1,t2,l2,e,⟨xs,w1⟩,⟨ys,w2⟩,q⟩:=q1;subst e;cases r1 with
 | cons r rr=>
  cases rr with
  | cons r' rr=>
   cases rr;cases r;cases r';obtain⟨vs1,_,p1⟩:=I1.sq w1;obtain⟨vs2,_,p2⟩:=I1.sq w2;refine aa6 p1 p2 λ h' st k=>wpAny_pyIter_zip st.z ⟨s1.heap.objs.size+4,[s1.heap.objs.size+4,s1.heap.objs.size+2,s1.heap.objs.size+3,s1.heap.objs.size,s1.heap.objs.size+1],_,_,H1,rfl,I1.kept (t':=s1.toks) k,aa5 ?_ ?_ ?_ ?_ ?_ ?_ ?_ ?_ ?_ ?_,st,λ c hc=>(by
    have hle:s1.heap.objs.size<=c:=by
     simp only[List.mem_cons,List.not_mem_nil,or_false] at hc;rcases hc with rfl |rfl |rfl |rfl |rfl <;> first |exact z0g _ |exact Nat.le_add_right _ _
    exact I1.fpOk hle (I1.hok.fresh hle)),q⟩
   all_goals (show @Ne Nat _ _;omega)
end
noncomputable def Lz (xs ys:List D):List D:=(xs.zip ys).map λ p=> .tup [p.1,p.2]
noncomputable def zip2:List D->R (List D)
 |[x,y]=>(mH x).bind λ xs=>(mH y).bind λ ys=> .ok (Lz xs ys)
 |_=> .bad
section
variable {K:PySem.W.Frag} {O:Addr->Prop} {H:Hp}
structure Src (K:PySem.W.Frag) (O:Addr->Prop) (H:Hp) (t:Bool) (a:Addr) (ds:List D):Prop where
 ex:∃vs,Sq t K H a vs/\aK K O H ds vs
 no:t=false->¬O a
theorem QJ {d:D} {v:V} {ds:List D} (r:Rep K O H d v) (h:mH d= .ok ds):∃t a,v= .ref a/\Src K O H t a ds:=by
 cases d with
 |tup es=>cases h;obtain⟨a,xs,rfl,q,rs⟩:=r.tup;exact⟨true,a,rfl,⟨xs,q,rs⟩,λ z=>by cases z⟩
 |lst es=>cases h;obtain⟨a,xs,rfl,q,n,rs⟩:=r.lst;exact⟨false,a,rfl,⟨xs,q,rs⟩,λ _u=>n⟩
 |_=>cases h
theorem Src.go {O':Addr->Prop} {H':Hp} {t:Bool} {a:Addr} {ds:List D} (s:Src K O H t a ds) (q:d7 K O H O' H'):∃vs,Sq t K H' a vs/\aK K O' H' ds vs:=by
 obtain⟨vs,h,r⟩:=s.ex;cases t with
 |true=>exact⟨vs,SqT.ext q.ext h,r.go q⟩
 |false=>exact⟨vs,SqL.ext q.ext (s.no rfl) h,r.go q⟩
theorem ado {xs ys:List D} {i:Nat} {d:D} (h:(Lz xs ys)[i]?=some d):∃x y,xs[i]?=some x/\ys[i]?=some y/\d= .tup [x,y]:=by
 unfold Lz at h;rw[z2b] at h;cases e:(xs.zip ys)[i]? with
 |none=>rw[e] at h;cases h
 |some p=>rw[e] at h;cases h;obtain⟨h1,h2⟩:=List.getElem?_zip_eq_some.mp e;exact⟨_,_,h1,h2,rfl⟩
theorem YR.zip2 {t1 t2:Bool} {a1 a2:Addr} {xs ys:List D} (s1:Src K O H t1 a1 xs) (s2:Src K O H t2 a2 ys):YR K O H (adl K t1 a1 t2 a2) (Lz xs ys):=by
 intro O' H' q i;obtain⟨v1,q1,r1⟩:=s1.go q;obtain⟨v2,q2,r2⟩:=s2.go q;refine⟨λ d e=>?_,λ e=>⟨v1,v2,q1,q2,?_⟩⟩
 ·obtain⟨x,y,e1,e2,rfl⟩:=ado e;obtain⟨u1,g1,w1⟩:=r1.get e1;obtain⟨u2,g2,w2⟩:=r2.get e2;refine⟨⟨v1,v2,u1,u2,q1,g1,q2,g2⟩,λ x H2 y=>?_⟩;obtain⟨p,x1,x2,hp,rfl,rfl,k1,k2⟩:=y;have k1:=k1 _ q1;have k2:=k2 _ q2;rw[g1] at k1;cases k1;rw[g2] at k2;cases k2;exact⟨Same.upd hp,Fj upd_same ((aK.cons w1 (.cons w2 .nil)).same (Same.upd hp))⟩
 ·rw[<-r1.length,<-r2.length];simp only[Lz,z1g,List.length_zip] at e;exact ajc e
end
section
variable {X:Cx} {Bv:List Expr} {kk:Nat} {pp:Pos} {a b:Expr} {p pos:Pos} {fa:ao->R (List D)}
set_option tactic.hygienic true in
theorem aeX (hg:Gl X "zip") (hm:X.mg "zip" =none) (ha:DA X [a,b] fa) (he:autoParam (starEach [a,b] X.env=(false,eval a X.env)::starEach [b] X.env) aN._auto_1) (hpl:autoParam ((backTo pos (starEach [b] X.env)).any (·.1)=false) aN._auto_1):
  DI X (.Tuple Bv kk pp) (.Call (.Name "zip" p) [a,b] [] pos) (λ ρ=>(fa ρ).bind zip2):=by
 refine PI.imp (aeW hg hm ha he hpl) λ σ H Q q=>?_;obtain⟨ρ,O,j,q⟩:=q;refine go j q λ ds vs H1 e1 s1 r1 j1 h1=>?_;unfold zip2 at h1;split at h1
 ·rename_i x y;obtain⟨v1,v2,rfl,w1,w2⟩:=r1.two;cases ex:mH x with
  |bad=>rw[ex] at h1;exact h1.elim
  |err c=>rw[ex] at h1;cases x <;> cases ex
  | ok xs=>
   cases ey:mH y with
   |bad=>rw[ex,R.aX,ey] at h1;exact h1.elim
   |err c=>cases y <;> cases ey
   | ok ys=>
    rw[ex,R.aX,ey,R.aX] at h1;obtain⟨t1,a1,rfl,c1⟩:=QJ w1 ex;obtain⟨t2,a2,rfl,c2⟩:=QJ w2 ey;obtain⟨vs1,k1,_⟩:=c1.ex;obtain⟨vs2,k2,_⟩:=c2.ex;exact⟨t1,a1,t2,a2,rfl,⟨vs1,k1⟩,⟨vs2,k2⟩,fin h1 (YR.zip2 c1 c2)⟩
 ·exact h1.elim
end
section
variable {X:Cx} {pins:List (Addr×Obj)} {σ:St} {H:Hp} {s:Shared} {A':Around} {E:Value->Shared->Prop}
end
section
variable {prog:Program} {w:World} {A:Around} {E:Value->Shared->Prop} {s:Shared}
end
section
variable {X:Cx} {Bv:List Expr} {kk:Nat} {pp:Pos} {a b c:Expr} {p pos:Pos}
end
section
variable {K:PySem.W.Frag} {O:Addr->Prop} {H:Hp}
theorem aK.three {d e f:D} {xs:List V} (r:aK K O H [d,e,f] xs):∃x y z,xs=[x,y,z]/\Rep K O H d x/\Rep K O H e y/\Rep K O H f z:=by
 obtain⟨x,t,rfl,h1,h2⟩:=r.cons_inv;obtain⟨y,z,rfl,h3,h4⟩:=h2.two;exact⟨x,y,z,rfl,h1,h3,h4⟩
end
section
variable {X:Cx} {Bv:List Expr} {kk:Nat} {pp:Pos} {a b c:Expr} {p pos:Pos} {fa:ao->R (List D)}
theorem Vk {x:D} {c:Str} (h:mH x= .err c):False:=by cases x <;> cases h
end
noncomputable def srt (ns:List Int):List Int:=ns.mergeSort λ a b=>decide (a<=b)
section
variable {X:Cx}
theorem Cj {K:PySem.W.Frag} {O:Addr->Prop} {H:Hp}:∀{ds:List D} {ns:List Int} {vs:List V},intsOf ds=some ns->aK K O H ds vs->vs=ns.map V.int
 |[],ns,vs,e,r=>by cases e;exact r.nil_inv
 | d ::ds,ns,vs,e,r=>by
  obtain⟨x,t,rfl,h1,h2⟩:=r.cons_inv;cases d with
  | int i=>
   have e:(intsOf ds).map (i:: ·)=some ns:=e;cases q:intsOf ds with
   |none=>rw[q] at e;cases e
   |some l=>rw[q] at e;cases e;rw[h1.int,Cj q h2];rfl
  |_=>cases e
variable {pos:Pos}
theorem aa7 (i k m:Nat) {x y z:Str} {px py pz:Pos} {kt} (hc:X.calm=true) (hN:X.N.Nodup) (hi:autoParam (X.N[i]?=some x) aN._auto_1) (hk:autoParam (X.N[k]?=some y) aN._auto_1) (hm:autoParam (X.N[m]?=some z) aN._auto_1)
  (hx:autoParam (Loc X.env.scope x) lJ._auto_1) (hy:autoParam (Loc X.env.scope y) lJ._auto_1) (hz:autoParam (Loc X.env.scope z) lJ._auto_1)
  (hfx:autoParam (X.fn x=true\/X.env.scope.names.lookup x=some .local) lK._auto_1) (Qo:autoParam (X.fn y=true\/X.env.scope.names.lookup y=some .local) lK._auto_1) (hfz:autoParam (X.fn z=true\/X.env.scope.names.lookup z=some .local) lK._auto_1):
  DGA X (.Tuple [.Name x px,.Name y py,.Name z pz] kt pos) (eU (eV 3 (bB (aG i) (bB (aG k) (bB (aG m) nilG))))):=by
 intro pins s σ H v u Q I r h;obtain⟨H0,O0,O,ρ,d,ρ',j,rd,e,q⟩:=h;cases d with
 | tup ds=>
  match ds,e,rd with
  |[],e,_=>cases e
  |[_],e,_=>cases e
  |[_,_],e,_=>cases e
  |_::_::_::_::_,e,_=>simp[eU,eV] at e
  | [d1,d2,d3],e,rd=>
   obtain⟨a,xs,rfl,hq,rs⟩:=rd.tup;obtain⟨v1,v2,v3,rfl,r1,r2,r3⟩:=rs.three;cases e;refine pg_tup hc (pgs_cons (pg_name hN hi hx hfx) (pgs_cons (pg_name hN hk hy Qo) (pgs_cons (pg_name hN hm hz hfz) pgs_nil))) rfl rfl pins s σ H _ u Q I r ⟨a,[v1,v2,v3],rfl,hq,rfl,v1,[v2,v3],rfl,v2,[v3],rfl,v3,[],rfl,rfl,?_⟩;exact q _ (((j.set (z1b hi).1 r1).set (z1b hk).1 r2).set (z1b hm).1 r3)
 |_=>cases e
end
noncomputable def Ite (K:PySem.W.Frag) (t:Bool) (l:Addr):It:=
 ⟨λ i H=>∃xs x,Sq t K H l xs/\xs[i]?=some x,
  λ i H v H'=>∃p x,H p=none/\v= .ref p/\H'=upd H p (.tup [.int (i:Int),x])/\∀xs,Sq t K H l xs->xs[i]?=some x,
  λ i H=>∃xs,Sq t K H l xs/\xs.length<=i⟩
section
variable {X:Cx} {pins:List (Addr×Obj)} {σ:St} {H:Hp} {s:Shared} {A':Around} {E:Value->Shared->Prop}
theorem aa8 {e it l:Addr} {t:Bool} {k:Nat} {xs:List V} {x:V} {old:Value} {Q:Value->Shared->Prop} (I:Inv X pins σ H s) (fe:FpOk X pins H e) (fi:FpOk X pins H it) (ne:e≠it)
  (he:IsEnum s.heap e it k old) (hs:pF t s.heap it l k) (q:Sq t X.K H l xs) (ex:xs[k]?=some x)
  (hQ:∀h' u,Inv X pins σ (upd H s.heap.objs.size (.tup [.int (k:Int),x])) {s with heap:=h',toks:=s.toks+1}->IsEnumOut h' e it ((k:Int)+1) u s.heap.objs.size->pF t h' it l (k+1)->Q (.ref s.heap.objs.size) {s with heap:=h',toks:=s.toks+1}):
  wpAny (model X.prog X.w) A' (Builtin.«enumerate.__next__» ⟨[.ref e],[]⟩) (λ fin s'=>∃v,fin= .done (.ret v)/\Q v s') E s:=by
 obtain⟨us,r1,p1⟩:=I.sq q;obtain⟨u,hu,ru⟩:=r1.get ex;obtain⟨hp,g,d,tk,os⟩:=s;show wpAny _ _ (field (.ref e) 2 >>=_) _ _ _;refine wpAny_bind (wpAny_field he rfl (x:= .ref it) rfl ?_);refine wpAny_bind (Qc hs p1 (v:=u) (by simpa using hu) λ g1 s1 b1=>?_);have I1:=I.fp fi b1
 replace b1:Heap.SameBut it hp g1:=b1
 have e1:IsEnum g1 e it k old:=(b1.2 e ne).trans he;show wpAny _ _ (field (.ref e) 3 >>=_) _ _ ⟨g1,g,d,tk,os⟩;refine wpAny_bind (wpAny_field e1 rfl (x:=rawInt k) rfl ?_);show wpAny _ _ (field (.ref e) 4 >>=_) _ _ ⟨g1,g,d,tk,os⟩;refine wpAny_bind (wpAny_field e1 rfl (x:= .none) rfl ?_);show wpAny _ _ (mkInt k >>=_) _ _ ⟨g1,g,d,tk,os⟩;refine wpAny_bind (wpAny_mkInt ?_);have I1':Inv X pins σ H ⟨g1,g,d,tk+1,os⟩:=Inv.tok (s:=⟨g1,g,d,tk,os⟩) I1 (tk+1);show wpAny _ _ (setField (.ref e) 3 (rawInt ((k:Int)+1)) >>=_) _ _ ⟨g1,g,d,tk+1,os⟩;refine wpAny_bind (wpAny_setField_rec e1 (by simp) λ g2 e2 b2=>?_);have I2:=I1'.fp fe b2
 replace b2:Heap.SameBut e g1 g2:=b2
 replace e2:IsEnum g2 e it ((k:Int)+1) old:=e2
 show wpAny _ _ (setField (.ref e) 4 .none >>=_) _ _ ⟨g2,g,d,tk+1,os⟩;refine wpAny_bind (wpAny_setField_rec e2 (by simp) λ g3 e3 b3=>?_);have I3:=I2.fp fe b3
 replace b3:Heap.SameBut e g2 g3:=b3
 replace e3:IsEnum g3 e it ((k:Int)+1) old:=e3
 show wpAny _ _ (newTuple [.int k tk,u] >>=_) _ _ ⟨g3,g,d,tk+1,os⟩;refine wpAny_bind (wpAny_newTuple ?_);have sz:g3.objs.size=hp.objs.size:=by rw[b3.1,b2.1,b1.1]
 have lt:e≠g3.objs.size:=Nat.ne_of_lt (z2c e3);have I4:Inv X pins σ (upd H g3.objs.size (.tup [.int (k:Int),x])) ⟨g3.push {cls:= .type "tuple",data:= .seq #[.int k tk,u]},g,d,tk+1,os⟩:=
  Inv.laid (s:=⟨g3,g,d,tk+1,os⟩) (t':=tk+1) I3 (λ b u e=>z1a _ e) (z0g _) ⟨aa3,[.int k tk,u],.cons ⟨tk,rfl⟩ (.cons ru .nil),⟨_,z1f _ rfl,rfl,_,rfl⟩⟩
 have e4:IsEnum (g3.push {cls:= .type "tuple",data:= .seq #[.int k tk,u]}) e it ((k:Int)+1) old:=z1a _ e3;have s4:pF t (g3.push {cls:= .type "tuple",data:= .seq #[.int k tk,u]}) it l (k+1):=s1.of λ o z=>z1a _ (b3.extBut _ _ (Ne.symm ne) (b2.extBut _ _ (Ne.symm ne) z));show wpAny _ _ (Builtin.SmallTypes.ownedTupleIsFree (.ref e) >>=_) _ _ ⟨g3.push {cls:= .type "tuple",data:= .seq #[.int k tk,u]},g,d,tk+1,os⟩
 generalize g3.push {cls:= .type "tuple",data:= .seq #[.int k tk,u]}=g4 at *
 refine wpAny_bind ?_;unfold Builtin.SmallTypes.ownedTupleIsFree;refine wpAny_bind (wpAny_field e4 rfl (x:= .none) rfl (wpAny_pure ?_));simp only[if_true];refine wpAny_bind (wpAny_rule (wpAny_bind (wpAny_field e4 rfl (x:=old) rfl ?_)));refine wpAny_bind (wpAny_setField_rec e4 (by simp) λ g5 e5 b5=>?_);have I5:=I4.fp (fe.upd lt) b5
 replace b5:Heap.SameBut e g4 g5:=b5
 replace e5:IsEnum g5 e it ((k:Int)+1) u:=e5
 show wpAny _ _ (Builtin.SmallTypes.ownedTupleHandOut (.ref e) (.ref g3.objs.size) >>=_) _ _ ⟨g5,g,d,tk+1,os⟩;refine wpAny_bind ?_;unfold Builtin.SmallTypes.ownedTupleHandOut;refine wpAny_bind (wpAny_setField_rec e5 (by simp) λ g6 e6 b6=>?_);have I6:=I5.fp (fe.upd lt) b6
 replace b6:Heap.SameBut e g5 g6:=b6
 replace e6:IsEnumOut g6 e it ((k:Int)+1) u g3.objs.size:=e6
 refine wpAny_setField_rec e6 (by simp) λ g7 e7 b7=>?_;have I7:=I6.fp (fe.upd lt) b7
 replace b7:Heap.SameBut e g6 g7:=b7
 replace e7:IsEnumOut g7 e it ((k:Int)+1) u g3.objs.size:=e7
 refine wpAny_bind (wpAny_letGo (wpAny_pure ⟨_,rfl,?_⟩));rw[sz] at I7 e7;show Q (.ref g3.objs.size) _;rw[sz];exact hQ g7 u I7 e7 (s4.of λ o z=>b7.extBut _ _ (Ne.symm ne) (b6.extBut _ _ (Ne.symm ne) (b5.extBut _ _ (Ne.symm ne) z)))
end
theorem aa9 {P:Program} {w:World} {K:PySem.W.Frag} {Bv:List Expr} {kk} {pp:Pos} {e it l:Addr} {t:Bool} (ne:e≠it):
  Turn P w K (.Tuple Bv kk pp) (Ite K t l) [e,it] e (λ i h=>(∃old,IsEnum h e it i old)/\pF t h it l i) where
 mem:=by simp
 obj:=λ i h st b hb=>by
  obtain⟨⟨old,he⟩,hs⟩:=st;simp only[List.mem_cons,List.not_mem_nil,or_false] at hb;rcases hb with rfl |rfl
  ·exact⟨_,he,λ v q=>by have q':Data.fields _=Data.cell v:=q;cases q'⟩
  ·exact hs.obj
 keep:=λ i h h' st k=>by
  obtain⟨⟨old,he⟩,hs⟩:=st;exact⟨⟨old,k _ (by simp) _ he⟩,hs.of λ o z=>k _ (by simp) o z⟩
 item :=by
  intro X hP hw hK hc i pins s σ H E I hf st hg;subst hP hw hK;obtain⟨⟨old,he⟩,hs⟩:=st;obtain⟨xs,x,q,ex⟩:=hg;have hT:s.TypeIs (.ref e) "enumerate" :=⟨_,he,rfl⟩;have hp:H s.heap.objs.size=none:=I.hok.fresh (z0g _);have nz:∀b,b∈[e,it]->b≠s.heap.objs.size:=λ b hb z=>by
   obtain⟨o,eo⟩:∃o,s.heap.get? b=some o:=by
    simp only[List.mem_cons,List.not_mem_nil,or_false] at hb;rcases hb with rfl |rfl
    ·exact⟨_,he⟩
    ·obtain⟨o,eo,_⟩:=hs.obj;exact⟨o,eo⟩
   exact absurd (z2c eo) (by rw[z];exact Nat.lt_irrefl _)
  unfold pyNext;refine wpAny_bind (wpAny_attempt (wpAny_callSpecial?_slot (name:=Str.ofString "__next__") hT F.slot_enumerate_next (wpAny_call_entry F.slot_enumerate_next hT F.entry_enumerate_next
   (aa8 I (hf e (by simp)) (hf it (by simp)) ne he hs q ex λ h' u I' e' s'=>wpAny_pure ⟨_,rfl,?_⟩) (F.args_enumerate_next_1 _))))
  refine wpAny_letOwnedTupleGo_enum e' λ h'' e'' b''=>⟨.ref s.heap.objs.size,upd H s.heap.objs.size (.tup [.int (i:Int),x]),I'.fp ((hf e (by simp)).upd (nz e (by simp))) b'',rfl,⟨_,x,hp,rfl,rfl,λ xs' q'=>by rw[I.QH q' q];exact ex⟩,⟨⟨u,by simpa using e''⟩,s'.of λ o z=>b''.extBut _ _ (Ne.symm ne) z⟩,λ b hb=>?_⟩;rw[upd_ne (nz b hb)];exact (hf b hb).1
 done:=by
  intro X hP hw hK hc i pins s σ H E I hf st hg;subst hP hw hK;obtain⟨⟨old,he⟩,hs⟩:=st;obtain⟨xs,q,en⟩:=hg;obtain⟨us,r1,p1⟩:=I.sq q;have hT:s.TypeIs (.ref e) "enumerate" :=⟨_,he,rfl⟩;unfold pyNext;refine wpAny_bind (wpAny_attempt (wpAny_callSpecial?_slot (name:=Str.ofString "__next__") hT F.slot_enumerate_next (wpAny_call_entry F.slot_enumerate_next hT F.entry_enumerate_next ?_ (F.args_enumerate_next_1 _))));show wpAny _ _ (field (.ref e) 2 >>=_) _ _ _;refine wpAny_bind (wpAny_field he rfl (x:= .ref it) rfl ?_);refine wpAny_bind (Hq (I.ok.hd hc) hs p1 (by have:=r1.length;simp;exact Qg this en) λ g1 x eb bh=>?_);obtain⟨o,ho,ec⟩:=bh;exact wpAny_bind (wpAny_isInstance (T:= "StopIteration") (b:=true) ⟨o,ho,ec⟩ isSubtype_stop (wpAny_pure ⟨rfl,I.fpE (hf it (by simp)) eb⟩))
 self:=λ _u _u _u _u _u st h=>by
  obtain⟨⟨old,he⟩,_⟩:=st;exact wpAny_pyIter_enum he h
set_option tactic.hygienic true in
theorem Vl (t:Bool) (l:Addr) (xs:Array Value):Meets (Builtin.«enumerate.__new__» ⟨[.type "enumerate",.ref l],[]⟩)
  (λ _u R s=>sy t s.heap l xs/\R (.ok (.ret (.ref (s.heap.push (itR t l)).objs.size))) {s with heap:=(s.heap.push (itR t l)).push {cls:= .type "enumerate",data:= .fields #[.none,.bool false,.ref s.heap.objs.size,rawInt 0,.none,.none]}}):=
 .of_wp λ prog w A R s h=>by
  obtain⟨hp,g,d,tk,os⟩:=s;obtain⟨k1,h⟩:=h;have hsub:=sub_enumerate;have L1:sy t (Shared.heap ⟨hp,g,d,tk,os⟩) l xs:=k1
  wp_walk using Jw L1
  refine wpAny_stack_any λ st=>wpAny_pure ?_;split
  ·rename_i c _ _ _ _ _;cases (c ==Value.type "enumerate") <;> (wp_walk using Jw L1;exact⟨_,rfl,h⟩)
  ·wp_walk using Jw L1
   exact⟨_,rfl,h⟩
section
variable {prog:Program} {w:World} {A:Around} {E:Value->Shared->Prop} {s:Shared}
theorem YJ {t:Bool} {l:Addr} {xs:Array Value} {Q:Value->Shared->Prop} (k1:sy t s.heap l xs)
  (h:∀h',IsEnum h' (s.heap.objs.size+1) s.heap.objs.size 0 .none->pF t h' s.heap.objs.size l 0->(∀c o,s.heap.get? c=some o->h'.get? c=some o)->Q (.ref (s.heap.objs.size+1)) {s with heap:=h'}):
  wpAny (model prog w) A (call (.type "enumerate") [.ref l]) Q E s:=by
 refine callType_new F.called_enumerate (by decide) (F.typeCall_enumerate_1 _) (F.newCall_enumerate_1 _) (λ obj=>F.args_object_init_2 obj _) F.entry_enumerate_new (Vl t l xs) ⟨k1,?_⟩;have z1:(s.heap.push (itR t l)).objs.size=s.heap.objs.size+1:=Heap.size_push ..;have a2:((s.heap.push (itR t l)).push {cls:= .type "enumerate",data:= .fields #[.none,.bool false,.ref s.heap.objs.size,rawInt 0,.none,.none]}).get? (s.heap.push (itR t l)).objs.size=some _:=z1f _ rfl;show _/\_;rw[z1] at a2 |-;exact⟨⟨_,a2,rfl⟩,h _ a2 (.new (z1a _ (z1f _ rfl))) λ c o e=>z1a _ (z1a _ e)⟩
end
section
variable {X:Cx} {Bv:List Expr} {kk:Nat} {pp:Pos} {a:Expr} {p pos:Pos} {fa:ao->R (List D)}
noncomputable def aif (K:PySem.W.Frag) (ta:TA):TI:=λ σ H R=>ta σ H λ vs H1=>∃t l,vs=[.ref l]/\(∃xs,Sq t K H1 l xs)/\R (Ite K t l) H1
theorem aeY {ta:TA} (hg:Gl X "enumerate") (hm:X.mg "enumerate" =none) (ha:PA X [a] ta) (he:autoParam (starEach [a] X.env=(false,eval a X.env)::starEach [] X.env) aN._auto_1) (hpl:autoParam ((backTo pos (starEach [] X.env)).any (·.1)=false) aN._auto_1):
  PI X (.Tuple Bv kk pp) (.Call (.Name "enumerate" p) [a] [] pos) (aif X.K ta):=by
 intro pins s σ H R I h;refine Call_ (ld_blt I hg hm boot_enumerate (PyProof.Rows.callWith_type1 (thn (ha pos pins s σ H _ I h) λ us s1 ⟨vs,H1,I1,r1,q1⟩=>?_) he hpl));obtain⟨t,l,e,⟨xs,w1⟩,q⟩:=q1;subst e;cases r1 with
 | cons r rr=>
  cases rr;cases r;obtain⟨vs1,_,p1⟩:=I1.sq w1;refine YJ p1 λ h' e' s' k=>wpAny_pyIter_enum e' ⟨s1.heap.objs.size+1,[s1.heap.objs.size+1,s1.heap.objs.size],_,_,H1,rfl,I1.kept (t':=s1.toks) k,aa9 ?_,⟨⟨_,e'⟩,s'⟩,λ c hc=>(by
    have hle:s1.heap.objs.size<=c:=by
     simp only[List.mem_cons,List.not_mem_nil,or_false] at hc;rcases hc with rfl |rfl <;> first |exact z0g _ |exact Nat.le_add_right _ _
    exact I1.fpOk hle (I1.hok.fresh hle)),q⟩
  all_goals (show @Ne Nat _ _;exact ajd)
noncomputable def pG:Nat->List D->List D
 |_,[]=>[]
 |n,d::ds=> .tup [.int (n:Int),d]::pG (n+1) ds
theorem Nf:∀{ds:List D} {n i:Nat} {d:D},(pG n ds)[i]?=some d->∃x,ds[i]?=some x/\d= .tup [.int ((n+i:Nat):Int),x]
 |[],_,_,_,h=>by simp[pG] at h
 |x::ds,n,0,d,h=>by simp[pG] at h;exact⟨x,rfl,by rw[<-h];rfl⟩
 | x::ds,n,i+1,d,h=>by
  rw[pG,List.getElem?_cons_succ] at h;obtain⟨y,e1,e2⟩:=Nf h;exact⟨y,by rw[List.getElem?_cons_succ];exact e1,by rw[e2,show n+1+i=n+(i+1) by exact Nat.add_right_comm _ _ _]⟩
theorem Ng:∀{ds:List D} {n:Nat},(pG n ds).length=ds.length
 |[],_=>rfl
 |_::ds,n=>by rw[pG,List.length_cons,Ng,List.length_cons]
noncomputable def pH:List D->R (List D)
 |[x]=>(mH x).bind λ xs=> .ok (pG 0 xs)
 |_=> .bad
theorem YR.enum {K:PySem.W.Frag} {O:Addr->Prop} {H:Hp} {t:Bool} {a:Addr} {xs:List D} (s1:Src K O H t a xs):YR K O H (Ite K t a) (pG 0 xs):=by
 intro O' H' q i;obtain⟨v1,q1,r1⟩:=s1.go q;refine⟨λ d e=>?_,λ e=>⟨v1,q1,?_⟩⟩
 ·obtain⟨x,e1,rfl⟩:=Nf e;obtain⟨u1,g1,w1⟩:=r1.get e1;refine⟨⟨v1,u1,q1,g1⟩,λ x H2 y=>?_⟩;obtain⟨p,x1,hp,rfl,rfl,k1⟩:=y;have k1:=k1 _ q1;rw[g1] at k1;cases k1;rw[Nat.zero_add];exact⟨Same.upd hp,Fj upd_same ((aK.cons (bN _) (.cons w1 .nil)).same (Same.upd hp))⟩
 ·rw[<-r1.length,<-Ng (n:=0)];exact e
set_option tactic.hygienic true in
theorem sZ (hg:Gl X "enumerate") (hm:X.mg "enumerate" =none) (ha:DA X [a] fa) (he:autoParam (starEach [a] X.env=(false,eval a X.env)::starEach [] X.env) aN._auto_1) (hpl:autoParam ((backTo pos (starEach [] X.env)).any (·.1)=false) aN._auto_1):
  DI X (.Tuple Bv kk pp) (.Call (.Name "enumerate" p) [a] [] pos) (λ ρ=>(fa ρ).bind pH):=by
 refine PI.imp (aeY hg hm ha he hpl) λ σ H Q q=>?_;obtain⟨ρ,O,j,q⟩:=q;refine go j q λ ds vs H1 e1 s1 r1 j1 h1=>?_;unfold pH at h1;split at h1
 ·rename_i x;obtain⟨v1,rfl,w1⟩:=r1.one;cases ex:mH x with
  |bad=>rw[ex] at h1;exact h1.elim
  |err c=>exact (Vk ex).elim
  | ok xs=>
   rw[ex,R.aX] at h1;obtain⟨t1,a1,rfl,c1⟩:=QJ w1 ex;obtain⟨vs1,k1,_⟩:=c1.ex;exact⟨t1,a1,rfl,⟨vs1,k1⟩,fin h1 (YR.enum c1)⟩
 ·exact h1.elim
end
section
variable {prog:Program} {w:World} {A:Around} {E:Value->Shared->Prop} {s:Shared}
end
section
variable {X:Cx} {a:Expr} {p pos p2 pos2:Pos} {fa:ao->R (List D)}
noncomputable def agB (K:PySem.W.Frag) (ta:TA):TE:=λ σ H Q=>ta σ H λ vs H1=>∃j:Int,vs=[.int j]/\0<=j/\j<=1000/\∀q,H1 q=none->Q (.ref q) (upd H1 q (.rng 0 j))
theorem agC {ta:TA} (hg:Gl X "range") (hm:X.mg "range" =none) (ha:PA X [a] ta) (hs:autoParam (starEach [a] X.env=[(false,eval a X.env)]) aN._auto_1):PE X (.Call (.Name "range" p) [a] [] pos) (agB X.K ta):=by
 intro pins s σ H Q I h;refine Call_ (ld_blt I hg hm boot_range (PyProof.Rows.callWith_type1 (thn (ha pos pins s σ H _ I h) λ us s1 ⟨vs,H1,I1,r1,q1⟩=>?_) hs rfl));obtain⟨j,e,h0,h1,q⟩:=q1;subst e;cases r1 with
 | cons r rr=>
  cases rr;obtain⟨t,rfl⟩:=r;refine call_range_1 ?_;exact⟨.ref s1.heap.objs.size,upd H1 s1.heap.objs.size (.rng 0 j),I1.laid (λ b o e=>z1a _ e) (z0g _) ⟨_,_,_,z1f _ rfl⟩,rfl,q _ (I1.hok.fresh (z0g _))⟩
end
section
variable {X:Cx} {e:Expr} {f:ao->R D} {pos:Pos}
end
section
variable {X:Cx}
end
section
variable {X:Cx}
noncomputable def tGr (X:Cx) (Re:Hp->(Addr->Prop)->Hp->D->V->Prop) (f:ao->R D):TE:=λ σ H Q=>∃ρ O,In X O H ρ σ/\good X (Re H) O (f ρ) σ H Q
noncomputable def DEr (X:Cx) (Re:Hp->(Addr->Prop)->Hp->D->V->Prop) (e:Expr) (f:ao->R D):Prop:=PE X e (tGr X Re f)
noncomputable def Xi (X:Cx) (H:Hp) (Ac:Hp->Addr->(Addr->Prop)->Hp->List D->List V->Prop):(Addr->Prop)->Hp->D->V->Prop:=λ O H' d v=>
 ∃Hs a ys ds,d= .lst ds/\v= .ref a/\Same H Hs/\Hs a=none/\X.K.lookup a=none/\Same Hs H'/\H' a=some (.lst ys)/\Ac Hs a O H' ds ys
structure AcR (K:PySem.W.Frag) (Re:Hp->(Addr->Prop)->Hp->D->V->Prop) (Ac:Hp->Addr->(Addr->Prop)->Hp->List D->List V->Prop):Prop where
 nil:∀{H2 a O H'},Ac H2 a O H' [] []
 same:∀{H2 a O H' yV ds ys},Ac H2 a O H' ds ys->H' a=some (.lst ys)->Same H' yV->Ac H2 a O yV ds ys
 len:∀{H2 a O H' ds ys},Ac H2 a O H' ds ys->ds.length=ys.length
 app:∀{H2 a O H7 H8 ds ys d v},Ac H2 a O H7 ds ys->H2 a=none->H7 a=some (.lst ys)->Same H2 H7->Same H7 H8->Re H7 (λ b=>O b\/b=a) H8 d v->
  d7 K (λ b=>O b\/b=a) H8 (λ b=>O b\/b=a) (upd H8 a (.lst (ys++[v])))->Ac H2 a O (upd H8 a (.lst (ys++[v]))) (ds++[d]) (ys++[v])
inductive adp (XB:Cx) (Ac:Hp->Addr->(Addr->Prop)->Hp->List D->List V->Prop) (O1 O:Addr->Prop) (H2:Hp) (Dd:Addr) (fp:List Addr) (tn:Nat->Heap->Prop) (ρ0:ao) (xs:List D) (F:D->R (Option D)) (all:List D) (n:Nat) (s':Shared):Prop
 |mk (i:Nat) (σ':St) (H':Hp) (ys:List V) (ds rest:List D) (en:n=xs.length+1 - i) (hil:i<=xs.length) (I:Inv XB [] σ' H' s') (st:tn i s'.heap) (fr:∀b∈fp,H' b=none) (j:In XB O H' ρ0 σ') (sm:Same H2 H') (hD:H' Dd=some (.lst ys)) (rp:Ac H2 Dd O1 H' ds ys) (hm:lg F (xs.drop i)= .ok rest) (hr:ds++rest=all):adp XB Ac O1 O H2 Dd fp tn ρ0 xs F all n s'
theorem Ck {Re:Hp->(Addr->Prop)->Hp->D->V->Prop} {Ac:Hp->Addr->(Addr->Prop)->Hp->List D->List V->Prop} (AC:AcR X.K Re Ac) {tg iter elt:Expr} {ifs:List Expr} {scope:Scope} {pos pos2:Pos} {fi:ao->R (List D)} {gt:D->ao->R ao} {ft:ao->R Bool} {fe:ao->R D} (ts:List Str) (caps:List Nat)
  (hc:X.calm=true) (hb:wH X.env.scope scope ts X.N=true) (hcap:(dF scope).map (λ x=>mU x X.N)=caps)
  (hi:DI X tg iter fi) (hk:m5 ts.length gt) (hg:∀C s H ex,(bJ X scope ts C s H ex).N.Nodup->DG (bJ X scope ts C s H ex) tg gt) (ht:∀C s H ex,Gj (bJ X scope ts C s H ex) ifs ft) (he:∀C s H ex,DEr (bJ X scope ts C s H ex) Re elt fe)
  (hs:∀x,foldedSetIterable iter X.env x=pure x) {use:Option (Value->Sem Unit)} {Qr:Value->Shared->Prop} {pins:List (Addr×Obj)} {s:Shared} {σ:St} {H:Hp} {ρ:ao} {O:Addr->Prop} {Q:VK} (I:Inv X pins σ H s) (j:In X O H ρ σ)
  (hQ:∀(v:V) (H':Hp) (s5:Shared) (C:Addr) (m:Str->Option Value) (f:Flow) (acc:Value),Q v H'->Inv X pins σ H' s5->s5.heap.Ns C m->FpOk X pins H' C->RelV v acc->compPost (model X.prog X.w) X.A X.xe use Qr acc C (.ok f) s5)
  (h:good X (Xi X H Ac) O (aV ts.length caps fi gt ft fe ρ) σ H Q):
  wpAny (model X.prog X.w) X.A (comprehension (.ListComp elt [⟨tg,iter,ifs,0⟩] scope pos) scope X.env pos2 (newList []) false (eval iter X.env) use) Qr X.xe s:=by
 have B:=ah9 hb;refine wpAny_comprehension_free (cl:=jz X.env.cells scope.names []) (use:=use) rfl hs (Yx λ x hx e=>?_) B.kind B.loc ?_
 ·obtain⟨n,k⟩:=x;have e:k= .free:=e;subst e;exact I.ok.has n (B.out n (tV hx))
 refine thn (hi pins s σ H (λ J H1=>∃xs,YR X.K O H1 J xs/\In X O H1 ρ σ/\Same H H1/\good X (Xi X H Ac) O ((lg (nR gt ft fe (vR ts.length caps ρ)) xs).bind (cap .lst)) σ H1 Q) I (Pu.go j h λ xs J H1 e1 s1 y1 j1 h1=>⟨xs,y1,j1,s1,h1⟩)) λ xv s1 h1=>thn h1 λ itv s2 h2=>?_;obtain⟨it,fp,tn,J,H2,e,I2,T,st2,f2,xs,yr,j2,smH,g2⟩:=h2;subst e;rw[<-Yz hcap] at g2
 generalize eρ:pull X.N (dF scope) ts.length (ρ.map vQ)=ρ0 at g2
 obtain⟨all,hall,hlen,g3⟩:∃all,lg (nR gt ft fe ρ0) xs= .ok all/\all.length<=1000000/\good X (Xi X H Ac) O (.ok (.lst all)) σ H2 Q:=by
  cases e:lg (nR gt ft fe ρ0) xs with
  |bad=>rw[e] at g2;exact g2.elim
  |err c=>exact absurd e Jk
  | ok all=>
   rw[e] at g2;have g2:good X (Xi X H Ac) O (if all.length<=1000000 then .ok (.lst all) else .bad) σ H2 Q:=g2;by_cases hl:all.length<=1000000
   ·rw[if_pos hl] at g2;exact⟨all,rfl,hl,g2⟩
   ·rw[if_neg hl] at g2;exact g2.elim
 have hlt:∀b∈fp,b < s2.heap.objs.size:=λ b hb=>by
  obtain⟨o,e,_⟩:=T.obj 0 _ st2 b hb;exact z2c e
 refine wpAny_newObj_type (aaS ?_)
 generalize hC:(s2.heap.push {cls:= .type "list",dict:=none,data:= .seq ([]:List Value).toArray}).objs.size=C
 have hC':C=s2.heap.objs.size+1:=by rw[<-hC];exact Heap.size_push ..
 generalize e4:pushCells ((s2.heap.push {cls:= .type "list",dict:=none,data:= .seq ([]:List Value).toArray}).push {cls:= .type "dict",data:= .dict #[]}) scope.names=h4
 show codeAny (model X.prog X.w) X.A (.compStart (.ListComp elt [⟨tg,iter,ifs,0⟩] scope pos) 0 (.ref it) (.ref s2.heap.objs.size) (iQ scope X.env C)) (compPost (model X.prog X.w) X.A X.xe use Qr (.ref s2.heap.objs.size) C) {s2 with heap:=h4};have Xj:H2 s2.heap.objs.size=none:=I2.hok.fresh (z0g _);have hOn:¬O s2.heap.objs.size:=j2.BW Xj;have hDk:X.K.lookup s2.heap.objs.size=none:=by
  cases q:X.K.lookup s2.heap.objs.size with
  |none=>rfl
  |some o=>exact absurd (z2c (I2.kIn _ _ q)) (Nat.lt_irrefl _)
 have I4:=aeN (ts:=ts) I2 B f2 hlt hC' e4.symm;have sD:Same H2 (upd H2 s2.heap.objs.size (.lst [])):=Same.upd Xj;have lρ0:ρ0.length=(ts++dF scope).length:=by rw[<-eρ,zM,z1d]
 generalize eD:s2.heap.objs.size=Dd at *
 have agD:∀{H':Hp},Same H2 H'->d7 X.K O H2 (λ a=>O a\/a=Dd) H':=λ sm=>⟨(Same.cZ (K:=X.K) (O:=O) sm).ext,λ a z=>z.elim .inl λ e=> .inr (by rw[e];exact⟨Xj,hDk⟩),(Same.cZ (K:=X.K) (O:=O) sm).dom⟩;have alO:∀{H':Hp} {ys:List V},Same H2 H'->H' Dd=some (.lst ys)->∀a,(O a\/a=Dd)->∃o,H' a=some o:=λ sm e a z=>z.elim (λ q=>let ⟨o,h⟩:=j2.al a q;⟨o,sm _ _ h⟩) λ q=>by rw[q];exact⟨_,e⟩
 have j4:In (bJ X scope ts C s2 H2 fp) (λ a=>O a\/a=Dd) (upd H2 Dd (.lst [])) ρ0 (pull X.N (dF scope) ts.length σ):=by
  rw[<-eρ];exact In.go (agq B j2.vals) M7 (agD sD) (alO sD upd_same)
 have hv0:∀(i:Nat) e,ρ0[i]?=some (some e)->e.W6=true:=by rw[<-eρ];exact M7
 have hn0:∀i,i < ts.length->ρ0[i]?=some none:=by rw[<-eρ];exact λ i h=>aaU h
 have aii:∀b o,s2.heap.get? b=some o->h4.get? b=some o:=λ b o e=>by
  rw[<-e4];exact pushCells_keeps _ _ b o (z1a _ (z1a _ e))
 have st4:tn 0 h4:=T.keep _ _ _ st2 λ b _u o e=>aii b o e;have stat:∀{H':Hp},(∀b∈fp,H' b=none)->∀b∈fp,FpOk (bJ X scope ts C s2 H2 fp) [] H' b:=λ {H'} hn b hb=>by
  have hl: @LT.lt Nat _ b Dd:=hlt b hb;obtain⟨_,a1,a2,a3,a4,_⟩:=f2 b hb;refine⟨hn b hb,by show @Ne Nat b C;exact af9 hl hC',λ z=>?_,.inl hb,λ x c h=>?_,λ p hp=>absurd (show p∈([]:List (Addr×Obj)) from hp) (by simp)⟩
  ·rcases List.mem_cons.mp (I2.stkSub b z) with z |z
   ·exact a1 z
   ·exact a2 z
  ·rcases mZ B I2.ok.has h with⟨_,q⟩ |⟨_,q⟩
   ·show @Ne Nat c b;exact aga q hl hC'
   ·exact a4 x c q
 have fr4:∀b∈fp,(upd H2 Dd (.lst [])) b=none:=λ b hb=>by
  have hl: @LT.lt Nat _ b Dd:=hlt b hb;rw[upd_ne (show @Ne Nat b Dd by exact Nat.ne_of_lt hl)];exact (f2 b hb).1
 have loop : ∀ s0:Shared,s0={s2 with heap:=h4}->codeAny (model X.prog X.w) X.A (.compLoop (.ListComp elt [⟨tg,iter,ifs,0⟩] scope pos) 0 (.ref it) (.ref Dd) (iQ scope X.env C)) (compPost (model X.prog X.w) X.A X.xe use Qr (.ref Dd) C) s0:=by
  intro s0 e0;refine codeAny_loop rfl (λ n s'=>adp (bJ X scope ts C s2 H2 fp) Ac O (λ a=>O a\/a=Dd) H2 Dd fp tn ρ0 xs (nR gt ft fe ρ0) all n s') (λ n s' hI=>?_) (xs.length+1)
   ⟨0,_,_,[],[],all,rfl,Nat.zero_le _,e0▸I4,e0▸st4,fr4,j4,sD,upd_same,AC.nil,by simpa using hall,rfl⟩
  obtain⟨i,σ',H',ys,ds,rest,rfl,hil,I',st',fr',j',sm',hD',rp',hm',hr'⟩:=hI;show wpAny (model X.prog X.w) X.A ((compTurn (.ListComp elt [⟨tg,iter,ifs,0⟩] scope pos) 0 (.ref it) (.ref Dd) (iQ scope X.env C)).onRaise (λ x=>do noteFrame x (iQ scope X.env C);theTreesLotGoes x)) _ _ s';refine wpAny_noted ?_;rw[compTurn_list];have yat:=yr _ H' (agD sm') i;refine wpAny_bind (wpAny_standAt (wpAny_bind ?_));by_cases hlt':i < xs.length
  ·-- a turn
   have ex:xs[i]?=some xs[i]:=by simp[hlt']
   have ed:xs.drop i=xs[i]::xs.drop (i+1):=List.drop_eq_getElem_cons hlt';rw[ed] at hm';obtain⟨o,rest',k1,k2,k3⟩:=aaT hm';obtain⟨jgo,jy⟩:=yat.1 _ ex;refine wpAny_mono (T.item (bJ X scope ts C s2 H2 fp) rfl rfl rfl hc i [] s' σ' H' (λ _u _u=>False) I' (stat fr') st' jgo) (λ r s4 ⟨u,hr,h4'⟩=>?_) λ _u _u z=>z.elim;subst hr;refine wpAny_bind (wpAny_mono h4' (λ _ s5 ⟨x,H5,I5,r5,y5,st5,fr5⟩=>?_) λ _u _u z=>z.elim);obtain⟨Jx,aju⟩:=jy x H5 y5;have I5':=I5.pinned (stat fr5) (T.obj _ _ st5);have k1:(gt xs[i] ρ0).bind (λ ρ1=>(ft ρ1).bind λ b=>if b=true then (fe ρ1).bind λ d=> .ok (some d) else .ok none)= .ok o:=k1;cases q1:gt xs[i] ρ0 with
   |bad=>rw[q1] at k1;cases k1
   |err c=>rw[q1] at k1;cases k1
   | ok ρ1 =>
    rw[q1] at k1;have k1:(ft ρ1).bind (λ b=>if b=true then (fe ρ1).bind λ d=> .ok (some d) else .ok none)= .ok o:=k1;refine wpAny_bind (wpAny_mono (hg C s2 H2 fp B.nd _ s5 σ' H5 x u (λ σ6 H6=>H6=H5/\In (bJ X scope ts C s2 H2 fp) (λ a=>O a\/a=Dd) H5 ρ1 σ6) I5' r5 ⟨ρ0,_,xs[i],ρ1,j'.same Jx,aju,q1,λ σ6 j6=>⟨rfl,j6⟩⟩) (λ _ s6 ⟨σ6,H6,I6,eH,j6⟩=>?_) λ _u _u z=>(show False from z).elim);subst eH;cases q2:ft ρ1 with
    |bad=>rw[q2] at k1;cases k1
    |err c=>rw[q2] at k1;cases k1
    | ok bb =>
     rw[q2] at k1;have k1:(if bb=true then (fe ρ1).bind λ d=>R.ok (some d) else .ok none)= .ok o:=k1;have gtest:tG (bJ X scope ts C s2 H2 fp) rB ft σ6 H6 (λ b H7=>b=bb/\Same H6 H7):=⟨ρ1,_,j6,by rw[q2];exact λ b H7 s7 e7=>⟨e7.symm,s7⟩⟩;refine wpAny_bind (wpAny_mono (ht C s2 H2 fp _ s6 σ6 H6 _ I6 gtest) (λ ok s7 ⟨H7,I7,ok7,Cm⟩=>?_) λ _u _u z=>(show False from z).elim);subst ok7;have back:∀{H8:Hp} {s8:Shared} {ys':List V} {ds':List D},Inv (bJ X scope ts C s2 H2 fp) ([]++pinsAt fp s5.heap) σ6 H8 s8->Same H2 H8->In (bJ X scope ts C s2 H2 fp) (λ a=>O a\/a=Dd) H8 ρ0 σ6->H8 Dd=some (.lst ys')->Ac H2 Dd O H8 ds' ys'->ds'++rest'=all->
       ∃m,m < xs.length+1 - i/\adp (bJ X scope ts C s2 H2 fp) Ac O (λ a=>O a\/a=Dd) H2 Dd fp tn ρ0 xs (nR gt ft fe ρ0) all m s8:=by
      intro H8 s8 ys' ds' I8 Xk j8 Xl rp8 hr8;refine⟨xs.length+1 - (i+1),by exact aje hil,i+1,σ6,H8,ys',ds',rest',rfl,by exact agj hlt',I8.unpinned,T.keep _ _ _ st5 λ b hb o e=>(I8.pin (b,o) (List.mem_append_right _ (List.mem_append_right _ (mem_pinsAt hb e)))).1,λ b hb=>?_,j8,Xk,Xl,rp8,k2,hr8⟩;obtain⟨o,e,d⟩:=T.obj _ _ st5 b hb;exact (I8.pin (b,o) (List.mem_append_right _ (List.mem_append_right _ (mem_pinsAt hb e)))).2.1
     have j60:In (bJ X scope ts C s2 H2 fp) (λ a=>O a\/a=Dd) H6 ρ0 σ6:=In.back (n:=ts.length) j6 hn0 (λ k hk'=>hk _ _ _ q1 k hk') lρ0;cases ok with
     | false=>
      have k1:R.ok none=R.ok o:=k1;cases k1;refine wpAny_pure ⟨rfl,?_⟩;refine back I7 (sm'.trans (Jx.trans Cm)) (j60.same Cm) (Cm _ _ (Jx _ _ hD')) (AC.same rp' hD' (Jx.trans Cm)) ?_;rw[<-hr',k3];rfl
     | true =>
      have k1:(fe ρ1).bind (λ d=>R.ok (some d))= .ok o:=k1;cases q3:fe ρ1 with
      |bad=>rw[q3] at k1;cases k1
      |err c=>rw[q3] at k1;cases k1
      | ok d =>
       rw[q3] at k1;have k1:R.ok (some d)=R.ok o:=k1;cases k1;have ajv:tGr (bJ X scope ts C s2 H2 fp) Re fe σ6 H7 (λ v H8=>Same H7 H8/\Re H7 (λ a=>O a\/a=Dd) H8 d v):=⟨ρ1,_,j6.same Cm,by rw[q3];exact λ v H8 s8 r8=>⟨s8,r8⟩⟩;refine wpAny_bind (wpAny_bind (wpAny_mono (he C s2 H2 fp _ s7 σ6 H7 _ I7 ajv) (λ xv s8 ⟨v8,H8,I8,r8,Xk,ajw⟩=>?_) λ _u _u z=>(show False from z).elim));have Xl:H8 Dd=some (.lst ys):=Xk _ _ (Cm _ _ (Jx _ _ hD'));have rp7:Ac H2 Dd O H7 ds ys:=AC.same rp' hD' (Jx.trans Cm);have hD7:H7 Dd=some (.lst ys):=Cm _ _ (Jx _ _ hD');have hds:ds++d::rest'=all:=by rw[<-hr',k3];rfl
       have hyl:ys.length < sizeLine:=by
        have:=mL;have e1:=AC.len rp7;have e2:=congrArg List.length hds;rw[z1d,List.length_cons] at e2;exact ajf this e2 e1 hlen
       refine wpAny_bind (wpAny_mono (mt_append (X:=bJ X scope ts C s2 H2 fp) _ s8 σ6 H8 (.ref Dd) [v8] (.ref Dd) [xv] (λ _u H9=>H9=upd H8 Dd (.lst (ys++[v8]))) I8 rfl (.cons r8 .nil) ⟨_,ys,v8,rfl,rfl,Xl,hyl,rfl⟩) (λ _ s9 ⟨_,H9,I9,_,eH9⟩=>?_) λ _u _u z=>(show False from z).elim);subst eH9;have ajx:Same H2 H8:=sm'.trans (Jx.trans (Cm.trans Xk));have agE:d7 X.K (λ a=>O a\/a=Dd) H8 (λ a=>O a\/a=Dd) (upd H8 Dd (.lst (ys++[v8]))):=by
        refine⟨⟨λ b zs h=>?_,λ b zs n h=>?_,λ b zs h=>by rw[upd_ne (λ e=>by rw[e,Xl] at h;cases h)];exact h,λ b o k h=>by rw[upd_ne (λ e=>by rw[e,Xl] at h;cases h)];exact h⟩,λ a z=> .inl z,λ a z=>?_⟩
        ·have nb:b≠Dd:=λ e=>by
          rw[e] at h;rcases h with h |⟨o,h⟩ <;> rw[Xl] at h <;> cases h
         rcases h with h |⟨o,h⟩
         ·exact .inl (by rw[upd_ne nb];exact h)
         ·exact .inr ⟨o,by rw[upd_ne nb];exact h⟩
        ·have nb:b≠Dd:=λ e=>n (.inr e);rcases h with h |⟨o,h⟩
         ·exact .inl (by rw[upd_ne nb];exact h)
         ·exact .inr ⟨o,by rw[upd_ne nb];exact h⟩
        ·by_cases ea:a=Dd
         ·rw[ea,upd_same] at z;cases z
         ·rw[upd_ne ea] at z;exact z
       have sm9:Same H2 (upd H8 Dd (.lst (ys++[v8]))):=λ b o e=>by
        rw[upd_ne (ne_of_none e Xj)];exact ajx _ _ e
       refine wpAny_pure (wpAny_pure ⟨rfl,?_⟩);refine back I9 sm9 (In.go (j60.same (Cm.trans Xk)) hv0 agE (alO sm9 upd_same)) upd_same (AC.app rp7 Xj hD7 (sm'.trans (Jx.trans Cm)) Xk ajw agE) ?_;rw[List.append_assoc];exact hds
  ·-- the end
   have ei:i=xs.length:=by exact Yq hil hlt'
   subst ei;have hrest:rest=[]:=by
    have hm':lg (nR gt ft fe ρ0) (xs.drop xs.length)= .ok rest:=hm';rw[List.drop_length] at hm';cases hm';rfl
   subst hrest;rw[List.append_nil] at hr';subst hr';refine wpAny_mono (T.done (bJ X scope ts C s2 H2 fp) rfl rfl rfl hc _ [] s' σ' H' (λ _u _u=>False) I' (stat fr') st' (yat.2 (z0g _))) (λ r s5 ⟨hr,I5⟩=>?_) λ _u _u z=>z.elim;subst hr;refine wpAny_pure ?_;obtain⟨m,hns,_⟩:=I5.loc;have hCn:H' C=none:=I5.free;have I6:Inv X pins σ H' s5:=by
    refine I2.call' (s':=s5) (ch:=fp) I5.os ⟨λ b o e n hb hx=>I5.base.keep b o e n hb hx,λ b o e n hb hx=>I5.base.slot b o e n hb hx,I5.base.free,λ b o e hx=>I5.base.there b o e hx,I5.base.tups,I5.base.frzs,I5.base.tbls⟩ (λ b u e=>I5.hok b u e) I5.bare λ b hb=>⟨(f2 b hb).2.2.2.1,(f2 b hb).2.1,(f2 b hb).2.2.2.2.1,(f2 b hb).2.2.2.2.2⟩
   exact hQ (.ref Dd) H' s5 C m _ (.ref Dd) (g3 _ _ sm' ⟨H2,Dd,_,_,rfl,rfl,smH,Xj,hDk,sm',hD',rp'⟩) I6 hns (I2.fpOk (show @LE.le Nat _ _ C by exact ajg eD hC') hCn) rfl
 exact codeAny_compStart_list (loop _ rfl) (T.self _ 0 _ _ _ st4 (loop _ rfl))
noncomputable def reP (K:PySem.W.Frag):Hp->(Addr->Prop)->Hp->D->V->Prop:=λ _u O H d v=>Rep K O H d v
noncomputable def acP (K:PySem.W.Frag):Hp->Addr->(Addr->Prop)->Hp->List D->List V->Prop:=λ _u a O H ds ys=>aK K (λ b=>O b\/b=a) H ds ys
theorem DE.toP {e:Expr} {f:ao->R D} (h:DE X e f):DEr X (reP X.K) e f:=PE.imp h λ σ H Q q=>by
 obtain⟨ρ,O,j,q⟩:=q;exact⟨ρ,O,j,q⟩
theorem QK {K:PySem.W.Frag}:AcR K (reP K) (acP K) where
 nil:=aK.nil
 same:=λ h _u s=>aK.same s h
 len:=λ h=>aK.length h
 app:=λ h _u _u _u s r rc=>((aK.same s h).append (.cons r .nil)).go rc
theorem good.rel {α β:Type} {Rl Rm:(Addr->Prop)->Hp->α->β->Prop} {O:Addr->Prop} {r:R α} {σ:St} {H:Hp} {Q:β->Hp->Prop} (w:∀a b H',Same H H'->Rm O H' a b->Rl O H' a b) (h:good X Rl O r σ H Q):good X Rm O r σ H Q:=by
 cases r with
 |ok a=>exact λ b H' s q=>h b H' s (w a b H' s q)
 |err c=>exact h
 |bad=>exact h
theorem QL {tg iter elt:Expr} {ifs:List Expr} {scope:Scope} {pos pos2:Pos} {fi:ao->R (List D)} {gt:D->ao->R ao} {ft:ao->R Bool} {fe:ao->R D} (ts:List Str) (caps:List Nat)
  (hc:X.calm=true) (hb:wH X.env.scope scope ts X.N=true) (hcap:(dF scope).map (λ x=>mU x X.N)=caps)
  (hi:DI X tg iter fi) (hk:m5 ts.length gt) (hg:∀C s H ex,(bJ X scope ts C s H ex).N.Nodup->DG (bJ X scope ts C s H ex) tg gt) (ht:∀C s H ex,Gj (bJ X scope ts C s H ex) ifs ft) (he:∀C s H ex,DE (bJ X scope ts C s H ex) elt fe)
  (hs:∀x,foldedSetIterable iter X.env x=pure x) {use:Option (Value->Sem Unit)} {Qr:Value->Shared->Prop} {pins:List (Addr×Obj)} {s:Shared} {σ:St} {H:Hp} {ρ:ao} {O:Addr->Prop} {Q:VK} (I:Inv X pins σ H s) (j:In X O H ρ σ)
  (hQ:∀(v:V) (H':Hp) (s5:Shared) (C:Addr) (m:Str->Option Value) (f:Flow) (acc:Value),Q v H'->Inv X pins σ H' s5->s5.heap.Ns C m->FpOk X pins H' C->RelV v acc->compPost (model X.prog X.w) X.A X.xe use Qr acc C (.ok f) s5)
  (h:good X (rD X) O (aV ts.length caps fi gt ft fe ρ) σ H Q):
  wpAny (model X.prog X.w) X.A (comprehension (.ListComp elt [⟨tg,iter,ifs,0⟩] scope pos) scope X.env pos2 (newList []) false (eval iter X.env) use) Qr X.xe s:=by
 refine Ck QK ts caps hc hb hcap hi hk hg ht (λ C s H ex=>(he C s H ex).toP) hs I j hQ (good.rel (λ d v H' sm q=>?_) h);obtain⟨Hs,a,ys,ds,rfl,rfl,s1,n1,k1,s2,e3,r⟩:=q;refine jN (SqL.of e3) (λ z=>?_) (r.fewer λ a z=> .inl z);obtain⟨u,e⟩:=j.al a z;rw[s1 _ _ e] at n1;cases n1
theorem cJ {tg iter elt:Expr} {ifs:List Expr} {scope:Scope} {pos:Pos} {fi:ao->R (List D)} {gt:D->ao->R ao} {ft:ao->R Bool} {fe:ao->R D} (ts:List Str) (caps:List Nat)
  (hc:X.calm=true) (hb:wH X.env.scope scope ts X.N=true) (hcap:(dF scope).map (λ x=>mU x X.N)=caps)
  (hi:DI X tg iter fi) (hk:m5 ts.length gt) (hg:∀C s H ex,(bJ X scope ts C s H ex).N.Nodup->DG (bJ X scope ts C s H ex) tg gt) (ht:∀C s H ex,Gj (bJ X scope ts C s H ex) ifs ft) (he:∀C s H ex,DE (bJ X scope ts C s H ex) elt fe)
  (hs:autoParam (∀x,foldedSetIterable iter X.env x=pure x) yN._auto_1):
  DE X (.ListComp elt [⟨tg,iter,ifs,0⟩] scope pos) (aV ts.length caps fi gt ft fe):=by
 intro pins s σ H Q I h;obtain⟨ρ,O,j,h⟩:=h;rw[eval_ListComp];exact QL ts caps hc hb hcap hi hk hg ht he hs (use:=none) (Qr:=EP X pins σ Q) I j (λ v H' s5 C m f acc hv I6 hns fp rv=>⟨m,hns,λ h' sb=>⟨v,H',I6.fp fp sb,rv,hv⟩⟩) h
theorem yW (i:Nat) {x:Str} {pos' cpos pos:Pos} {tg iter elt:Expr} {ifs:List Expr} {scope:Scope} {fi:ao->R (List D)} {gt:D->ao->R ao} {ft:ao->R Bool} {fe:ao->R D} (hN:X.N.Nodup) (ts:List Str) (caps:List Nat)
  (hc:X.calm=true) (hb:wH X.env.scope scope ts X.N=true) (hcap:(dF scope).map (λ x=>mU x X.N)=caps)
  (hi:DI X tg iter fi) (hk:m5 ts.length gt) (hg:∀C s H ex,(bJ X scope ts C s H ex).N.Nodup->DG (bJ X scope ts C s H ex) tg gt) (ht:∀C s H ex,Gj (bJ X scope ts C s H ex) ifs ft) (he:∀C s H ex,DE (bJ X scope ts C s H ex) elt fe)
  (hix:autoParam (X.N[i]?=some x) aN._auto_1) (hx:autoParam (Loc X.env.scope x) lJ._auto_1) (hf:autoParam (X.fn x=true\/X.env.scope.names.lookup x=some .local) lK._auto_1)
  (hsw:autoParam (swapsWith (.ListComp elt [⟨tg,iter,ifs,0⟩] scope cpos) (some (.Name x pos')) pos.line X.env=pure true) aN._auto_1)
  (hs:autoParam (∀x,foldedSetIterable iter X.env x=pure x) yN._auto_1):
  DS X (.Assign [.Name x pos'] (.ListComp elt [⟨tg,iter,ifs,0⟩] scope cpos) pos) (aZ (aV ts.length caps fi gt ft fe) (aG i)):=by
 intro pins s σ H E I h;obtain⟨H0,O0,O,ρ,j,h⟩:=h;rw[exec_Assign_Name_used _ _ _ _ hsw];refine wpAny_bind (wpAny_standAt (wpAny_bind ?_));show wpAny _ _ (comprehension (.ListComp elt [⟨tg,iter,ifs,0⟩] scope cpos) scope X.env _ (newList []) false (eval iter X.env) (some (assign (.Name x pos') X.env)) >>=λ _u=>pure ()) _ _ _;unfold aZ jA at h;refine wpAny_bind (QL (Q:=λ v H'=>∃d,aV ts.length caps fi gt ft fe ρ= .ok d/\Same H H'/\Rep X.K O H' d v) (Qr:=λ _u s'=>wpAny (model X.prog X.w) X.A (pure ()) (λ _u s1=>wpAny (model X.prog X.w) X.A (pure Flow.next) (SP X pins E) X.xe s1) X.xe s') ts caps hc hb hcap hi hk hg ht he hs I j.inn ?_ ?_)
 ·intro v H' s5 C m f acc hq I5 hns fC rel;obtain⟨d,ed,sm,rd⟩:=hq;rw[ed] at h;have h:tX X H0 O0 O H E (.nx (ρ.set i (some (.val d)))):=h;obtain⟨o,es,ep,ho,hd,hr⟩:=hns;have Ip:=I5.pinned (fp:=[C]) (λ b hb=>by rw[List.mem_singleton.mp hb];exact fC) (λ b hb=>by rw[List.mem_singleton.mp hb];exact⟨o,ho,λ v z=>by rw[hd] at z;cases z⟩);show wpAny (model X.prog X.w) X.A (assign (.Name x pos') X.env acc) _ X.xe s5;refine wpAny_mono (pg_name hN hix hx hf _ s5 σ H' v acc (λ σ' yV=>σ'=σ.set i (some v)/\yV=H') Ip rel ⟨rfl,rfl⟩) (λ _ s6 ⟨σ',yV,I',e1,e2⟩=>?_) λ _u _u z=>z;subst e1 e2;have pn:=(I'.pin (C,o) (List.mem_append_right _ (List.mem_append_right _ (mem_pinsAt (List.mem_singleton.mpr rfl) ho)))).1;refine⟨m,⟨o,es,ep,pn,hd,hr⟩,λ h' sb=>wpAny_pure (wpAny_pure ⟨_,yV,(I'.unpinned).fp fC sb,h _ yV O ((j.grow sm).set (z1b hix).1 rd) (Same.cZ sm)⟩)⟩
 ·cases e1:aV ts.length caps fi gt ft fe ρ with
  |bad=>rw[e1] at h;exact h
  |err c=>rw[e1] at h;exact h σ H O j
  |ok d=>exact λ v H' sm r=>⟨d,rfl,sm,r⟩
end
noncomputable def okN (F:List D->R D) (n:Nat) (ds:List D):R D:=if ds.length=n then F ds else .bad
noncomputable def FN (sub:Str->Str->Bool) (i:Nat) (t:Str):ao->R D:=λ ρ=>match ρ[i]? with
 |some (some (.obj (.exc c)))=>if sub c c=true then .ok (.bl (sub c t)) else .bad
 |_=> .bad
noncomputable def QM (sub:Str->Str->Bool) (t:Str) (i:Nat) (g h:ao->So):ao->So:=λ ρ=>match g ρ with
 | .ex c ρ1=>if sub c t=true then (match h (ρ1.set i (some (.obj (.exc c)))) with
  | .rt d=> .rt d
  |_=> .bad) else .bad
 |o=>o
noncomputable def aj0:List D->R (List D)
 |[.lst ds]=> .ok ds.reverse
 |_=> .bad
noncomputable def mulL:D->D->R D
 | .lst ds,.int k=>if ds≠[]/\1<=k/\k < 2 ^ 63/\ds.length*k.toNat<=1000000 then .ok (.lst (List.replicate k.toNat ds).flatten) else .bad
 |x,y=>Ho x y
section
variable {ρ ρ1:ao} {fa:ao->R (List D)} {F:List D->R D} {ds:List D} {n:Nat} {d:D} {c:Str} {f:ao->R D} {gt:D->ao->R ao} {p:ao->R Bool} {s t:ao->So} {o:So}
theorem eE {r:R D} (e1:fa ρ= .ok ds) (e2:F ds=r) (h:autoParam (ds.length=n) aN._auto_1):aF (okN F n) fa ρ=r:=by rw[aF,e1,R.aX,okN,if_pos h,e2]
theorem qC (e:f (cG ρ)= .err c):mW f ρ= .ex c ρ:=by rw[mW,e];rfl
theorem Cp (e:s ρ= .ex c ρ1):aP s t ρ= .ex c ρ1:=by rw[aP,e]
theorem uq {m:Nat} (e:s (ds.map (λ d=>some (.val d))++List.replicate m none)= .ex c ρ1):bY m s ds= .err c:=by rw[bY,e]
theorem QS {sub:Str->Str->Bool} {i:Nat} {t:Str} (h:ρ[i]?=some (some (.obj (.exc c)))) (hk:sub c c=true):FN sub i t ρ= .ok (.bl (sub c t)):=by
 unfold FN;rw[h];show (if sub c c=true then R.ok (D.bl (sub c t)) else .bad)=_;rw[if_pos hk]
theorem agF {sub:Str->Str->Bool} {i:Nat} {u:Str} (e1:s ρ= .ex c ρ1) (hs:sub c u=true) (e2:t (ρ1.set i (some (.obj (.exc c))))= .rt d):QM sub u i s t ρ= .rt d:=by
 unfold QM;rw[e1];simp only[hs,if_true,e2]
end
structure yX (fs:List Addr) (h h':Heap) (a C:Addr) (T:Option Addr) (t':Addr):Prop where
 exc:Exc h' a C (some t')
 old:T=some t'\/h.get? t'=none
 keep:∀b o,h.get? b=some o->b≠a->T≠some b->b∉fs->h'.get? b=some o
 slot:∀b o,h.get? b=some o->b∈fs->∃sl,h'.get? b=some {o with slots:=sl}
section
variable {M:Model} {A:Around} {E:Value->Shared->Prop} {s:Shared}
theorem Cq {h h1 b0 b1:Heap}:∀{l:List PySem.Env},h.FunFrames b0 l->(∀b∈frs l,b1.get? b=none)->(∀b o,h.get? b=some o->b∈frs l->h1.get? b=some o)->h1.FunFrames b1 l
 |[],_,_,_=>trivial
 | env::r,hl,hn,hs=>by
  obtain⟨hk,⟨L,o,hf,_,ho,hd⟩,hr⟩:=hl;have e:frs (env::r)=L::frs r:=by unfold frs;rw[List.filterMap_cons,hf]
  rw[e] at hn hs;exact⟨hk,⟨L,o,hf,hn L List.mem_cons_self,hs L o ho List.mem_cons_self,hd⟩,Cq hr (λ b hb=>hn b (z2f _ hb)) λ b o q hb=>hs b o q (z2f _ hb)⟩
theorem abb {o:Obj} {g:Array Value->Array Value}:(o.mapFields g).dict=o.dict:=by
 obtain⟨c,d,dt,sl⟩:=o;cases dt <;> rfl
theorem Nh {env:PySem.Env} {outer:List PySem.Env} {L a C:Addr} {oe:Obj} {vs:Array Value} {hd0:Value} {had:Bool} {b0:Heap} {Q:Unit->Shared->Prop} (hfr:A.frames=some (env::outer)) (hl:s.heap.FunFrames b0 (env::outer)) (hf:env.frame=some L)
  (he:s.heap.get? a=some oe) (hc:oe.cls= .ref C) (hn:oe.dict=none) (hv:oe.data= .fields vs) (hz:1 < vs.size)
  (h:∀h' t',yX (frs (env::outer)) s.heap h' a C none t'->Q () {s with heap:=h'}):
  wpAny M A (do let x <-frameOf env;let y <-entryPlaceOf L had;let z <-EntryCells.newEntry hd0 x .none (rawInt L) .none y;setField (.ref a) 1 z) (λ _u s'=>wpAny M A (setFlight (.ref a) none) Q E s') E s:=by
 have na:a∉frs (env::outer):=λ z=>by
  obtain⟨_,o',ho',hd'⟩:=hl.mem z;rw[he] at ho';cases ho';exact hd' vs hv
 refine wpAny_bind (wpAny_frameOf_fun hfr hl hf λ g1 sl1=>wpAny_bind (wpAny_entryPlaceOf λ pl ok=>?_));unfold EntryCells.newEntry newFields;refine wpAny_bind (wpAny_newObj_type ?_ (ok.sizeOk5 _ _ _ _ _));have e1:g1.get? a=some oe:=(sl1.2.1 a na).trans he
 generalize hob:({cls:= .type "traceback",dict:=none,data:= .fields ([hd0,.ref L,.none,rawInt L,.none]++(if pl.isEmpty then List.replicate 6 Value.none else pl)).toArray}:Obj)=ob
 have adq:ob.data= .fields ([hd0,.ref L,.none,rawInt L,.none]++(if pl.isEmpty then List.replicate 6 Value.none else pl)).toArray:=by rw[<-hob]
 have ajy:ob.isFreed=false:=by rw[<-hob];rfl
 have e2:(g1.push ob).get? a=some oe:=z1a ob e1;refine wpAny_setField e2 hv hz ?_;have nT:g1.objs.size≠a:=Nat.ne_of_gt (z2c e1);have d3:=Obj.data_mapFields hv (·.setIfInBounds 1 (Value.ref g1.objs.size));have e3:=Heap.get?_update_self (Obj.mapFields (·.setIfInBounds 1 (Value.ref g1.objs.size))) e2 (Obj.isFreed_of_fields d3);have T3:=(Heap.get?_update_other (g1.push ob) (Obj.mapFields (·.setIfInBounds 1 (Value.ref g1.objs.size))) (Ne.symm nT)).trans (z1f g1 ajy);unfold setFlight;refine wpAny_bind (wpAny_field e3 d3 (x:= .ref g1.objs.size) (by simp[hz]) ?_);rw[if_pos (show (Value.ref g1.objs.size !=Value.none)=true from by simp)];have hsz:3 < (([hd0,.ref L,.none,rawInt L,.none]++(if pl.isEmpty then List.replicate 6 Value.none else pl)).toArray).size:=by
  rw[z1c,z1d];show 3 < 5+_;omega
 refine wpAny_setField T3 adq hsz (h _ g1.objs.size ⟨⟨_,_,(Heap.get?_update_other _ _ nT).trans e3,(Obj.cls_mapFields _ _).trans hc,abb.trans hn,d3,by simp[hz],nT,_,_,Heap.get?_update_self _ T3 (Obj.isFreed_of_fields (Obj.data_mapFields adq _)),Obj.data_mapFields adq _,?_⟩,.inr (Heap.get?_none_of_le (by rw[sl1.1];exact z0g _)),λ b o hb n1 _u n3=>?_,λ b o hb hm=>?_⟩)
 ·rw[Array.getElem?_setIfInBounds,if_pos rfl,if_pos hsz];rfl
 ·have q1:g1.get? b=some o:=(sl1.2.1 b n3).trans hb;rw[Heap.get?_update_other _ _ (Nat.ne_of_gt (z2c q1)),Heap.get?_update_other _ _ (Ne.symm n1)];exact z1a _ q1
 ·obtain⟨sl,q1⟩:=sl1.2.2 b o hb;refine⟨sl,?_⟩;rw[Heap.get?_update_other _ _ (Nat.ne_of_gt (z2c q1)),Heap.get?_update_other _ _ (λ z=>na (by rw[z];exact hm))];exact z1a _ q1
theorem QT {env:PySem.Env} {outer:List PySem.Env} {L a C:Addr} {T:Option Addr} {b0:Heap} {Q:Unit->Shared->Prop} (hfr:A.frames=some (env::outer)) (hl:s.heap.FunFrames b0 (env::outer)) (hf:env.frame=some L) (x:Exc s.heap a C T)
  (h:∀h' t',yX (frs (env::outer)) s.heap h' a C T t'->Q () {s with heap:=h'}):wpAny M A (noteFrame (.ref a) env) (λ _u s2=>wpAny M A (setFlight (.ref a) none) Q E s2) E s:=by
 obtain⟨oe,vs,he,hc,hn,hd,hx⟩:=x;unfold noteFrame;simp only[hf];cases T with
 | none=>
  have h1:vs[1]?=some Value.none:=hx;refine wpAny_bind (wpAny_field he hd h1 ?_);rw[if_neg (by decide)];exact Nh hfr hl hf he hc hn hd (Array.getElem?_eq_some_iff.mp h1).1 h
 | some t=>
  obtain⟨h1,hne,ot,ts,ht,hdt,h3⟩:=hx;have nt:t∉frs (env::outer):=λ z=>by
   obtain⟨_,o',ho',hd'⟩:=hl.mem z;rw[ht] at ho';cases ho';exact hd' ts hdt
  refine wpAny_bind (wpAny_field he hd h1 ?_);rw[if_pos (show (Value.ref t !=Value.none)=true from by simp)];refine wpAny_bind (wpAny_field ht hdt h3 ?_);rw[if_neg (show ¬((Value.none ==rawInt L)=true) from by simp[rawInt])];refine wpAny_bind (wpAny_setField ht hdt (Array.getElem?_eq_some_iff.mp h3).1 ?_);have other:∀b o,s.heap.get? b=some o->b≠t->(s.heap.update t (Obj.mapFields (·.setIfInBounds 3 Value.none))).get? b=some o:=λ b o q hb=>(Heap.get?_update_other _ _ (Ne.symm hb)).trans q;refine Nh (s:={s with heap:=s.heap.update t (Obj.mapFields (·.setIfInBounds 3 Value.none))}) (b0:=b0) hfr (Cq hl (λ b hb=>(hl.mem hb).1) λ b o q hb=>other b o q λ z=>nt (z▸hb)) hf (other a oe he (Ne.symm hne)) hc hn hd (Array.getElem?_eq_some_iff.mp h1).1 λ h' t' ld=>?_;refine h h' t' ⟨ld.exc,?_,λ b o q n1 n2 n3=>ld.keep b o (other b o q λ z=>n2 (by rw[z])) n1 (by simp) n3,λ b o q hm=>ld.slot b o (other b o q λ z=>nt (z▸hm)) hm⟩;by_cases z:t'=t
  ·exact .inl (by rw[z])
  ·refine .inr ?_;rcases ld.old with q |q
   ·cases q
   ·cases q2:s.heap.get? t' with
    |none=>rfl
    | some o=>
     have q3:=other t' o q2 z;have q:(s.heap.update t (Obj.mapFields (·.setIfInBounds 3 Value.none))).get? t'=none:=q;rw[q] at q3;cases q3
theorem abd {env:PySem.Env} {outer:List PySem.Env} {L a C:Addr} {T:Option Addr} {b0:Heap} {Q:Unit->Shared->Prop} (hfr:A.frames=some (env::outer)) (hl:s.heap.FunFrames b0 (env::outer)) (hf:env.frame=some L) (x:Exc s.heap a C T)
  (h:∀h' t',yX (frs (env::outer)) s.heap h' a C T t'->Q () {s with heap:=h'}):wpAny M A (leaving env (.ref a)) Q E s:=by
 unfold leaving;exact wpAny_bind (QT hfr hl hf x h)
end
section
variable {P:Program} {w:World} {fs fs':List Addr} {H H' H0:Hp} {s s' s0:Shared} {a C:Addr} {T:Option Addr} {h':Heap} {t':Addr}
theorem ObjOk.ex {H:Hp} {h:Heap} {a:Addr} {o:HO} (x:ObjOk P w H h a o):∃ob,h.get? a=some ob:=by
 induction o with
 |lst xs=>obtain⟨_,_,_,_,e⟩:=x;exact⟨_,e⟩
 |tup xs=>obtain⟨_,_,_,ob,e,_⟩:=x;exact⟨_,e⟩
 |dK kvs=>obtain⟨_,_,_,_,ob,_,_,e,_⟩:=x;exact⟨_,e⟩
 |dT kvs=>obtain⟨_,_,_,_,ob,_,_,e,_⟩:=x;exact⟨_,e⟩
 |set S n=>obtain⟨ob,_,_,_,e,_⟩:=x;exact⟨_,e⟩
 |ins C dx fs=>obtain⟨_,_,_,e,_⟩:=x;exact⟨_,e⟩
 |own y=>exact x
 |xd fs=>obtain⟨_,⟨_,_,_,e,_⟩,_⟩:=x;exact⟨_,e⟩
 |rng lo hi=>obtain⟨_,_,_,e⟩:=x;exact⟨_,e⟩
 |frz ob u ih=>exact⟨_,x.1⟩
 |tbl ps=>obtain⟨_,e,_⟩:=x;exact⟨_,e⟩
 |met f y=>exact⟨_,x⟩
 |ext φ=>exact x.2.1
theorem Hr {h:Heap} {b:Addr} (x:HOk P w H h) (e:h.get? b=none):H b=none:=by
 cases q:H b with
 |none=>rfl
 | some u=>
  obtain⟨o,z⟩:=ObjOk.ex (x b u q);rw[e] at z;cases z
theorem yX.hok {h:Heap} (ld:yX fs h h' a C T t') (x:HOk P w H h) (ha:H a=none) (ht:∀t,T=some t->H t=none) (hf:∀b∈fs,H b=none):HOk P w H h':=λ b u e=>by
 have ne:∀c v,H c=some v->c≠a/\T≠some c/\c∉fs:=λ c v q=>⟨λ z=>(by rw[z,ha] at q;cases q),λ z=>(by rw[ht c z] at q;cases q),λ z=>(by rw[hf c z] at q;cases q)⟩;refine (x b u e).stay (λ c v hc q=>?_) (λ _u q=>q) (λ _u _u q=>q) λ _u _u _u _u q=>q;rcases hc with rfl |hc
 ·obtain⟨n1,n2,n3⟩:=ne _ _ e;exact ld.keep _ _ q n1 n2 n3
 ·obtain⟨n1,n2,n3⟩:=ne _ _ hc;exact ld.keep _ _ q n1 n2 n3
theorem Bu.land (r:Bu P w fs H s a C T s' H') (hs:∀b∈fs',b∈fs) (ld:yX fs' s'.heap h' a C T t') (hf:∀b∈fs,H' b=none):Bu P w fs H s a C (some t') {s' with heap:=h'} H':=by
 have ne:∀b o,s.heap.get? b=some o->b≠a/\T≠some b:=λ b o q=>⟨λ z=>(by rw[z,r.na] at q;cases q),λ z=>(by rw[(r.nt b z).1] at q;cases q)⟩;have any:∀b o,s.heap.get? b=some o->∀o',s'.heap.get? b=some o'->∃sl,h'.get? b=some {o' with slots:=sl}:=λ b o q o' q'=>by
  by_cases hb:b∈fs'
  ·exact ld.slot b o' q' hb
  ·exact⟨o'.slots,ld.keep b o' q' (ne b o q).1 (ne b o q).2 hb⟩
 refine⟨r.same,⟨λ b o q n hb hx=>?_,λ b o q n hb hx=>?_,r.un.free,λ b o q hx=>?_,r.un.tups,r.un.frzs,r.un.tbls⟩,ld.hok r.hok r.ha (λ t z=>(r.nt t z).2) λ b hb=>hf b (hs b hb),r.os,r.bare,ld.exc,r.na,r.ha,λ t z=>?_⟩
 ·exact ld.keep b o (r.un.keep b o q n hb hx) (ne b o q).1 (ne b o q).2 λ z=>hb (hs b z)
 ·obtain⟨sl,e⟩:=r.un.slot b o q n hb hx;obtain⟨sl',e'⟩:=any b o q _ e;exact⟨sl',e'⟩
 ·obtain⟨o',e⟩:=r.un.there b o q hx;obtain⟨sl',e'⟩:=any b o q _ e;exact⟨_,e'⟩
 ·cases z;rcases ld.old with z |z
  ·exact r.nt t' z
  ·refine⟨?_,Hr r.hok z⟩;cases q:s.heap.get? t' with
   |none=>rfl
   | some o=>
    obtain⟨o',e⟩:=r.un.there t' o q (by simp);rw[z] at e;cases e
theorem Bu.from {X:Cx} {pins:List (Addr×Obj)} {σ:St} (I:Inv X pins σ H s) (hex:X.ex=[]) (r:Bu X.prog X.w (frs X.stack) H s a C T s' H') (sm:Same X.H₀ H):Bu X.prog X.w X.fs X.H₀ X.s₀ a C T s' H':=by
 have J:Inv X pins σ H' s':=I.call' r.os r.un r.hok r.bare λ b z=>absurd z (by simp);have b:=J.base;rw[hex] at b;have no:∀c,s.heap.get? c=none->X.s₀.heap.get? c=none:=λ c e=>by
  cases q:X.s₀.heap.get? c with
  |none=>rfl
  | some o=>
   obtain⟨o',e'⟩:=I.base.there c o q (by rw[hex];simp);rw[e] at e';cases e'
 exact⟨sm.trans r.same,b,r.hok,J.os,r.bare,r.exc,no a r.na,r.ha,λ t z=>⟨no t (r.nt t z).1,(r.nt t z).2⟩⟩
end
noncomputable def Bw (P:Program) (w:World):CXT:=λ outer H s E e s'=>∃a C T H',e= .ref a/\E (.ref C) none H'/\Bu P w (frs outer) H s a C T s' H'
noncomputable def spX (K:PySem.W.Frag) (n:Nat) (F:List D->R D):Sp:=λ vs H Q E=>∃O ds,aK K O H ds vs/\ds.length=n/\(∀a,O a->∃o,H a=some o)/\match F ds with
 | .ok d=>∀v H',Same H H'->Rep K O H' d v->Q v H'
 | .err c=>∀C H',PySem.W.nsIn K mainGlobals c=some (some (.ref C))->E (.ref C) none H'
 | .bad=>False
section
variable {P:Program} {w:World} {K:PySem.W.Frag} {mg:Str->Option Value} {base:Heap}
theorem fnX {x qual:Str} {st:Stmt} {f:Addr} {fd:FuncData} {N ps:List Str} {k n m:Nat} {g:ao->So} (Fn:Fun K x qual st f fd) (S:FnScope N ps (defScope st)) (hn:ps.length=n) (hm:N.length=n+m)
  (hb:∀(cdv:Value) (A:Around) (outer:List PySem.Env) (s:Shared) (H:Hp) (E:XK),Room k (A.deeper (envOfC qual (defScope st) s.heap.objs.size f cdv))->c7 (cxOf (Bw P w) P w K mg base N qual (defScope st) f cdv A outer s H E) (defBody st) g):
  FnOk P w K mg base (Bw P w) (k+1) f fd ps (spX K n (bY m g)):=by
 obtain⟨oc,od,kV,doc,pm,an,cdv,ct,osl,rfl,lk,hcd⟩:=Fn.ex;refine fn_of lk hcd S (λ vs H Q E h=>?_) λ A outer s H vs Q E hr h=>?_
 ·obtain⟨O,ds,r,hl,_⟩:=h;rw[hn,<-hl,r.length]
 ·obtain ⟨O,ds,r,hl,al,h⟩:=h;refine⟨_,hb cdv A outer s H E hr,H,O,O,ds.map (λ d=>some (.val d))++List.replicate m none,?_,?_⟩
  ·have hst:L2.start N vs=vs.map some++List.replicate m none:=by
    unfold L2.start;rw[show N.length - vs.length=m by rw[<-r.length];exact agc hm hl]
   refine⟨Same.refl _,.refl,λ _u z=>z,⟨⟨λ i e q=>?_,λ i k e e' v _u hi _u oi=>?_⟩,al,?_,?_⟩,λ i e a q ho=>?_⟩
   ·obtain⟨v,h1,h2,_⟩:=nM r m i e q;exact⟨v,by rw[hst];exact h1,h2⟩
   ·obtain⟨_,_,_,h3⟩:=nM r m i e hi;rw[h3] at oi;cases oi
   ·show (L2.start N vs).length=N.length;rw[hst,z1d,z1g,List.length_replicate,<-r.length];exact Yr hl hm
   ·show (ds.map (λ d=>some (Ent.val d))++List.replicate m none).length=N.length;rw[z1d,z1g,List.length_replicate];exact Yr hl hm
   ·obtain⟨_,_,_,h3⟩:=nM r m i e q;rw[h3] at ho;cases ho
  ·unfold bY at h;cases e2:g (ds.map (λ d=>some (.val d))++List.replicate m none) with
   |rt d=>rw[e2] at h;exact λ v H' s' r'=>h v H' s' r'
   |nx ρ'=>rw[e2] at h;exact λ σ' H' O' j' _u=>h .non H' j'.same Fi
   |bk _=>rw[e2] at h;exact h.elim
   |ct _=>rw[e2] at h;exact h.elim
   |bad=>rw[e2] at h;exact h.elim
   | ex c ρ'=>
    rw[e2] at h;intro σ' H' O' j' H1 pins s1 a C T s2 H2 sm I hC rs;have J:Inv (cxOf (Bw P w) P w K mg base N qual (defScope st) f cdv A outer s H E) pins σ' H2 s2:=I.call' rs.os rs.un rs.hok rs.bare λ b z=>absurd z (by simp);have ou:Bu P w (frs outer) H s a C T s2 H2:=Bu.from I rfl rs (j'.same.trans sm);refine abd (b0:=base) (L:=s.heap.objs.size) (outer:=outer) J.ok.frames J.stack rfl rs.exc λ h' t' ld=>?_;refine⟨a,C,some t',H2,rfl,h C H2 hC,?_⟩;have ne:∀b o,s.heap.get? b=some o->b≠a/\T≠some b:=λ b o q=>⟨λ z=>(by rw[z,ou.na] at q;cases q),λ z=>(by rw[(ou.nt b z).1] at q;cases q)⟩;have nL:∀b o,s.heap.get? b=some o->b≠s.heap.objs.size:=λ b o q=>Nat.ne_of_lt (z2c q);have fr:∀b,b∈frs (envOfC qual (defScope st) s.heap.objs.size f cdv::outer)->b=s.heap.objs.size\/b∈frs outer:=λ b hb=>List.mem_cons.mp hb;have fr':∀b,b∈frs outer->b∈frs (envOfC qual (defScope st) s.heap.objs.size f cdv::outer):=λ b hb=>z2f _ hb;have hfree:∀b,b∈frs (envOfC qual (defScope st) s.heap.objs.size f cdv::outer)->H2 b=none:=J.stkFree;refine⟨ou.same,⟨λ b o q n hb hx=>?_,λ b o q n hb hx=>?_,ou.un.free,λ b o q hx=>?_,ou.un.tups,ou.un.frzs,ou.un.tbls⟩,ld.hok ou.hok ou.ha (λ t z=>(ou.nt t z).2) hfree,ou.os,ou.bare,ld.exc,ou.na,ou.ha,λ t z=>?_⟩
    ·exact ld.keep b o (ou.un.keep b o q n hb hx) (ne b o q).1 (ne b o q).2 λ z=>(fr b z).elim (nL b o q) hb
    ·obtain⟨sl,e⟩:=ou.un.slot b o q n hb hx;obtain⟨sl',e'⟩:=ld.slot b _ e (fr' b hb);exact⟨sl',e'⟩
    ·obtain⟨o',e⟩:=ou.un.there b o q hx;by_cases hb:b∈frs (envOfC qual (defScope st) s.heap.objs.size f cdv::outer)
     ·obtain⟨sl',e'⟩:=ld.slot b _ e hb;exact⟨_,e'⟩
     ·exact⟨o',ld.keep b o' e (ne b o q).1 (ne b o q).2 hb⟩
    ·cases z;rcases ld.old with z |z
     ·exact ou.nt t' z
     ·refine⟨?_,Hr ou.hok z⟩;cases q:s.heap.get? t' with
      |none=>rfl
      | some o=>
       obtain⟨o',e⟩:=ou.un.there t' o q (by simp);rw[z] at e;cases e
end
noncomputable def eX (P:Program) (w:World) (K:PySem.W.Frag) (mg:Str->Option Value) (base:Heap) (k:Nat) (x:Str) (n:Nat) (F:List D->R D):Prop:=
 ∃f fd ps,FnOk P w K mg base (Bw P w) k f fd ps (spX K n F)/\mg x=some (.ref f)/\PySem.W.keepIn K (.ref f)=true/\Binds K fd ps []
theorem uw {P:Program} {w:World} {K:PySem.W.Frag} {mg:Str->Option Value} {base:Heap} {x qual:Str} {st:Stmt} {f:Addr} {fd:FuncData} {N ps:List Str} {k n m:Nat} {g:ao->So} (Fn:Fun K x qual st f fd) (hmg:mg x=some (.ref f)) (hb:Binds K fd ps []) (S:FnScope N ps (defScope st)) (hn:ps.length=n) (hm:N.length=n+m)
  (hbody:∀(cdv:Value) (A:Around) (outer:List PySem.Env) (s:Shared) (H:Hp) (E:XK),Room k (A.deeper (envOfC qual (defScope st) s.heap.objs.size f cdv))->c7 (cxOf (Bw P w) P w K mg base N qual (defScope st) f cdv A outer s H E) (defBody st) g):
  eX P w K mg base (k+1) x n (bY m g):=⟨f,fd,ps,fnX Fn S hn hm hbody,hmg,Fn.kp,hb⟩
section
variable {X:Cx} {k n m:Nat} {F:List D->R D} {x:Str} {p pos:Pos} {e:Expr} {es:List Expr} {fa:ao->R (List D)}
theorem lu (G:eX X.prog X.w X.K X.mg X.base k x n F) (hr:Room m X.A) (hkm:k<=m) (ha:DA X (e::es) fa) (hg:autoParam (Gl X x) aN._auto_1)
  (hdb:autoParam ((x ==("__debug__" :Str))=false) cD._auto_1) (he:autoParam (starEach (e::es) X.env=(false,eval e X.env)::starEach es X.env) aN._auto_1) (hpl:autoParam ((backTo pos (starEach es X.env)).any (·.1)=false) aN._auto_1):
  DE X (.Call (.Name x p) (e::es) [] pos) (aF (okN F n) fa):=by
 obtain⟨f,fd,ps,ok,hm,hk,hb⟩:=G;intro pins s σ H Q I h;obtain⟨ρ,O,j,h⟩:=h;refine wpAny_Call_Name_kw (ld_glob I hg hm ?_ hdb);have key:tG X (rDs X) fa σ H (λ vs H1=>∃ds,Same H H1/\aK X.K O H1 ds vs/\In X O H1 ρ σ/\good X (rD X) O (okN F n ds) σ H1 Q):=go j h λ ds vs H1 e1 s1 r1 j1 h1=>⟨ds,s1,r1,j1,h1⟩;refine PySem.W.callWith_K (h₀:=X.base) I.ok.mod.kin hk (thn (ha pos pins s σ H _ I key) λ us s1 ⟨vs,H1,I1,r,q⟩=>⟨I1.kIn,?_⟩) he hpl;obtain⟨ds,sm,r1,j1,h1⟩:=q;unfold okN at h1;by_cases hl:ds.length=n
 ·rw[if_pos hl] at h1;have sp:spX X.K n F vs H1 Q λ u _u _u=>∃c C,F ds= .err c/\u= .ref C/\PySem.W.nsIn X.K mainGlobals c=some (some (.ref C)):=by
   refine⟨O,ds,r1,hl,j1.al,?_⟩;cases q:F ds with
   |ok d=>rw[q] at h1;exact h1
   |bad=>rw[q] at h1;exact h1
   |err c=>exact λ C _u hC=>⟨c,C,rfl,rfl,hC⟩
  have hll:us.length=ps.length:=by rw[<-r.length];exact ok.len _ _ _ _ sp
  have hbb:=hb s1 us I1.kIn (by rw[List.append_nil];exact hll);rw[List.append_nil] at hbb;refine wpAny_call (codeAny_mono ((ok.mono hkm).run X.A X.stack s1 H1 ⟨us,[]⟩ us vs Q _ hr I1.env0 hbb r sp) λ r s' hq=>?_);cases r with
  | error ev=>
   obtain⟨a,C,T,H',rfl,hE,rs⟩:=hq;obtain⟨c,C',q,z,hC⟩:=hE;cases z;rw[q] at h1;exact h1 H1 pins s1 a C T s' H' (Same.refl _) I1 hC rs
  | ok fl=>
   cases fl with
   |ret u=>exact I1.after hq
   |next=>exact False.elim hq
   |brk=>exact False.elim hq
   |cont=>exact False.elim hq
 ·rw[if_neg hl] at h1;exact h1.elim
end
abbrev adt:List Value:=[.type "ValueError",.type "Exception",.type "BaseException",.type "object"]
structure XCl (K:PySem.W.Frag) (mg:Str->Option Value) (c:Str) (C:Addr):Prop where
 ns:PySem.W.nsIn K mainGlobals c=some (some (.ref C))
 mg:mg c=some (.ref C)
 ex:PySem.W.excIn K C adt "ValueError.__new__" =true
set_option tactic.hygienic true in
theorem agG {K:PySem.W.Frag} {h:Heap} {C:Addr} {bmB:List Value} {newId:String} (X:K.In h) (q:PySem.W.excIn K C bmB newId=true):
  ∃bm N nm qn bs hdct sn sub ab col dd k0 k1 k2 k3 k5 mN,h.get? C=some (excClassObj nm qn C N bs bm hdct sn sub ab col dd k0 k1 k2 k3 k5 newId)/\h.Ns N mN/\mN "__init__" =none/\OwnTail h bmB bm:=by
 unfold PySem.W.excIn at q;split at q
 ·rename_i d0 cd sl0 e0;split at q
  ·rename_i C1 b1 a0 a1 a2 a3 n1 a5 e1 e2;simp only[Bool.and_eq_true,beq_iff_eq,Bool.not_eq_true'] at q;obtain⟨⟨⟨⟨⟨rfl,rfl⟩,z1⟩,z2⟩,z3⟩,z4⟩:=q;obtain⟨v1,v2,v3,v4,v5,v6,v7,v8,v9,v10,v11⟩:=cd
   dsimp only at e1 z1 z3 z4
   subst e1 z1;obtain⟨l0⟩:=sl0;simp only at e2;subst e2;exact⟨b1,v4,v1,v5,v2,v6,v7,v8,v9,v10,d0,a0,a1,a2,a3,a5,_,X _ _ e0,.of_isNs (PySem.W.isNs_of_in X z3),PySem.W.nsMap_none_of_in X z3 z4,PySem.W.tail_of_in X z2⟩
  ·cases q
 ·cases q
section
variable {X:Cx} {c:Str} {C:Addr} {np cpos pos:Pos} {e:Expr} {fa:ao->R (List D)}
theorem QV (hc:X.calm=true) (hx:XCl X.K X.mg c C) (ha:DA X [e] fa) (hfa:∀ρ,∃ds,fa ρ= .ok ds/\ds.length<=1000000) (hg:autoParam (Gl X c) aN._auto_1) (hdb:autoParam ((c ==("__debug__" :Str))=false) cD._auto_1)
  (he:autoParam (starEach [e] X.env=(false,eval e X.env)::starEach [] X.env) aN._auto_1) (hpl:autoParam ((backTo cpos (starEach [e] X.env)).any (·.1)=false) aN._auto_1):
  DS X (.Raise (some (.Call (.Name c np) [e] [] cpos)) none pos) (λ ρ=> .ex c ρ):=by
 intro pins s σ H E I h;obtain⟨H0,O0,O,ρ,j,h⟩:=h;obtain⟨bm,N,nm,qn,bs,hdct,sn,sub,ab,col,dd,k0,k1,k2,k3,k5,mN,o1,o2,o3,o4⟩:=agG I.mod.kin hx.ex;obtain⟨ds,ef,dl⟩:=hfa ρ;have key:tG X (rDs X) fa σ H (λ vs H1=>ds.length=vs.length/\Same H H1):=⟨ρ,O,j.inn,by rw[ef];exact λ vs H1 s1 r1=>⟨r1.length,s1⟩⟩;refine wpAny_Raise_call_subU (C:=C) (nm:=nm) (q:=qn) (N:=N) (bs:=bs) (bm:=bm) (hdct:=hdct) (sn:=sn) (sub:=sub) (ab:=ab) (col:=col) (dd:=dd) (k0:=k0) (k1:=k1) (k2:=k2) (k3:=k3) (k5:=k5)
  PySem.F.excBase_ValueError (by rfl) PySem.F.excBase_ValueError (mN:=mN) (o4.hasType PySem.F.excBase_ValueError.hasBase) (I.ok.hd hc) hpl o3 (ld_glob I hg hx.mg ⟨rfl,?_⟩ hdb)
 have hA:=ha cpos pins s σ H _ I key;rw[he] at hA |-;refine Calls.evalArgs_plain (wpAny_mono hA (λ us s1 ⟨vs,H1,I1,r,hl,sm⟩=>?_) λ _u _u z=>z);refine⟨rfl,?_,I1.bk _ _ o1,o2.keeps I1.bk,o4.keeps I1.bk,λ h' ev hm=>?_⟩
 ·show us.length<=sizeLine;rw[<-r.length,<-hl];exact z0b dl dh
 ·obtain⟨t,ht,_,_⟩:=hm.there;exact h σ H1 O (j.grow sm) H1 pins s1 ev C none _ H1 (Same.refl _) I1 hx.ns ⟨Same.refl _,Un.kept hm.keeps,I1.hok.kept hm.keeps,rfl,I1.bare,⟨_,_,ht,rfl,rfl,rfl,rfl⟩,hm.new,Hr I1.hok hm.new,λ _u z=>by cases z⟩
end
section
variable {X:Cx} {pins:List (Addr×Obj)} {σ:St} {H:Hp} {s:Shared}
theorem _root_.L2.Inv.track {a:Addr} {o:Obj} (I:Inv X pins σ H s) (ha:H a=none) (ho:s.heap.get? a=some o) (n0:X.s₀.heap.get? a=none) (nL:a≠X.env.locals) (nc:∀x c,X.env.cells.lookup x=some c->c≠a) (np:∀p∈X.pn++pins,p.1≠a):
  Inv X pins σ (upd H a (.frz o (.own a))) s:=by
 have old:∀b u,H b=some u->upd H a (.frz o (.own a)) b=some u:=λ b u q=>by rw[upd_ne (ne_of_none q ha)];exact q
 refine⟨I.ok,I.os,I.bare,⟨I.base.keep,I.base.slot,λ b ob q n hx=>?_,I.base.there,λ b xs q=>old _ _ (I.base.tups b xs q),λ b ob u q=>old _ _ (I.base.frzs b ob u q),λ b ps q=>?_⟩,I.loc,I.cell,?_,λ x c q=>?_,λ p hp=>?_,λ b u q=>?_,I.len⟩
 ·rw[upd_ne (λ z=>by rw[z,n0] at q;cases q)];exact I.base.free b ob q n hx
 ·obtain⟨more,e⟩:=I.base.tbls b ps q;exact⟨more,old _ _ e⟩
 ·rw[upd_ne (Ne.symm nL)];exact I.free
 ·rw[upd_ne (nc x c q)];exact I.freeC x c q
 ·obtain⟨e,n,r⟩:=I.pin p hp;exact⟨e,by rw[upd_ne (np p hp)];exact n,r⟩
 ·by_cases hb:b=a
  ·subst hb;rw[upd_same] at q;cases q;exact⟨ho,o,ho⟩
  ·rw[upd_ne hb] at q;exact (I.hok b u q).stay (λ _u _u _u z=>z) (λ c z=>old _ _ z) (λ c xs z=>old _ _ z) λ c o u _u z=>old _ _ z
theorem _root_.L2.Inv.gone {h':Heap} {m':Str->Option Value} {t':Nat} (I:Inv X pins σ H s) (hn:h'.Ns X.env.locals m') (hs:Heap.SameBut X.env.locals s.heap h'):Inv X pins (List.replicate X.N.length none) H {s with heap:=h',toks:=t'}:=by
 have to:∀b ob,X.s₀.heap.get? b=some ob->b≠X.env.locals:=λ b ob q=>Nat.ne_of_lt (z0d (z2c q) I.ok.above);refine⟨I.ok,I.os,I.bare,⟨λ b ob q n hb hx=>?_,λ b ob q n hb hx=>?_,I.base.free,λ b ob q hx=>?_,I.base.tups,I.base.frzs,I.base.tbls⟩,⟨m',hn,λ i x v _u e2 _u=>?_⟩,λ x c q=>?_,I.free,I.freeC,λ p hp=>?_,λ b u q=>?_,by simp⟩
 ·exact (hs.2 b (to b ob q)).trans (I.base.keep b ob q n hb hx)
 ·obtain⟨sl,e⟩:=I.base.slot b ob q n hb hx;exact⟨sl,(hs.2 b (to b ob q)).trans e⟩
 ·obtain⟨o',e⟩:=I.base.there b ob q hx;exact⟨o',(hs.2 b (to b ob q)).trans e⟩
 ·rw[List.getElem?_replicate] at e2;split at e2 <;> cases e2
 ·obtain⟨v,z⟩:=I.cell x c q;exact⟨v,z.sameBut hs (I.cne x c q)⟩
 ·obtain⟨e,n,ne,r⟩:=I.pin p hp;exact⟨(hs.2 p.1 ne).trans e,n,ne,r⟩
 ·refine (I.hok b u q).stay (λ c w' hc z=>(hs.2 c ?_).trans z) (λ _u z=>z) (λ _u _u z=>z) λ _u _u _u _u z=>z
  rintro rfl
  rcases hc with hc |hc
  ·rw[<-hc,I.free] at q;cases q
  ·rw[I.free] at hc;cases hc
noncomputable abbrev _root_.L2.Cx.Jy (X:Cx) (a:Addr):Cx:={X with A:=X.A.mark (some (.ref a)),calm:=false,xe:=λ _u _u=>False}
theorem _root_.L2.Inv.Jy (I:Inv X pins σ H s) (a:Addr):Inv (X.Jy a) pins σ H s:=
 ⟨⟨I.ok.mod,I.ok.kind,I.ok.glob,I.ok.blt,I.ok.above,I.ok.inj,I.ok.has,I.ok.cab,λ z=>Bool.noConfusion z,I.ok.frames,I.ok.stk,I.ok.exf,I.ok.bs,I.ok.bsz,I.ok.noex,I.ok.exfs,I.ok.funs,I.ok.frf⟩,I.os,I.bare,I.base,I.loc,I.cell,I.free,I.freeC,I.pin,I.hok,I.len⟩
theorem _root_.L2.Inv.ajz {a:Addr} (ok:X.Ok) (I:Inv (X.Jy a) pins σ H s):Inv X pins σ H s:=⟨ok,I.os,I.bare,I.base,I.loc,I.cell,I.free,I.freeC,I.pin,I.hok,I.len⟩
theorem At.cx {Y:Cx} {H0:Hp} {O0 O:Addr->Prop} {ρ:ao} (j:At X H0 O0 O H ρ σ) (hK:Y.K=X.K) (hN:Y.N=X.N):At Y H0 O0 O H ρ σ:=
 ⟨j.same,by rw[hK];exact j.cZ,j.sub,⟨by rw[hK];exact j.inn.env,j.inn.al,by rw[hN];exact j.inn.len,by rw[hN];exact j.inn.ju⟩,j.mine⟩
theorem At.Cr {H0:Hp} {O0 O:Addr->Prop} {ρ:ao} (j:At X H0 O0 O H ρ σ) {i:Nat} (hi:i < X.N.length) {t:Ob} {v:V} (r:pB X.K H t v):At X H0 O0 O H (ρ.set i (some (.obj t))) (σ.set i (some v)):=by
 have h1:i < ρ.length:=by rw[j.inn.ju];exact hi
 have h2:i < σ.length:=by rw[j.inn.len];exact hi
 refine⟨j.same,j.cZ,j.sub,⟨⟨λ k e q=>?_,λ k l e e' u hkl hk hl ok ol sk sl=>?_⟩,j.inn.al,by rw[List.length_set];exact j.inn.len,by rw[List.length_set];exact j.inn.ju⟩,λ k e a q ho hs=>?_⟩
 ·by_cases hki:k=i
  ·subst hki;rw[z2a h1] at q;cases q;exact⟨v,z2a h2,r⟩
  ·rw[z1e (Ne.symm hki)] at q |-;exact j.inn.env.get k e q
 ·by_cases hki:k=i
  ·subst hki;rw[z2a h1] at hk;cases hk;cases ok
  ·by_cases hli:l=i
   ·subst hli;rw[z2a h1] at hl;cases hl;cases ol
   ·rw[z1e (Ne.symm hki)] at hk sk;rw[z1e (Ne.symm hli)] at hl sl;exact j.inn.env.sep k l e e' u hkl hk hl ok ol sk sl
 ·by_cases hki:k=i
  ·subst hki;rw[z2a h1] at q;cases q;cases ho
  ·rw[z1e (Ne.symm hki)] at q hs;exact j.mine k e a q ho hs
end
noncomputable abbrev _root_.L2.Cx.Xm (X:Cx) (E:Value->Shared->Prop) (pn:List (Addr×Obj)):Cx:={X with xe:=E,pn:=pn}
section
variable {X:Cx} {pins:List (Addr×Obj)} {σ:St} {H:Hp} {s:Shared} {E:Value->Shared->Prop}
theorem _root_.L2.Inv.Xm (I:Inv X pins σ H s) (E:Value->Shared->Prop):Inv (X.Xm E (X.pn++pins)) [] σ H s:=
 ⟨⟨I.ok.mod,I.ok.kind,I.ok.glob,I.ok.blt,I.ok.above,I.ok.inj,I.ok.has,I.ok.cab,I.ok.hd,I.ok.frames,I.ok.stk,I.ok.exf,I.ok.bs,I.ok.bsz,I.ok.noex,I.ok.exfs,I.ok.funs,I.ok.frf⟩,I.os,I.bare,I.base,I.loc,I.cell,I.free,I.freeC,λ p hp=>I.pin p (by rw[List.append_nil] at hp;exact hp),I.hok,I.len⟩
theorem _root_.L2.Inv.wJ {p1:List (Addr×Obj)} (ok:X.Ok) (I:Inv (X.Xm E (X.pn++pins)) p1 σ H s):Inv X pins σ H s:=
 ⟨ok,I.os,I.bare,I.base,I.loc,I.cell,I.free,I.freeC,λ p hp=>I.pin p (List.mem_append_left _ hp),I.hok,I.len⟩
theorem _root_.L2.SP.wJ {D:Ends} {f:Flow} {s':Shared} (ok:X.Ok) (h:SP (X.Xm E (X.pn++pins)) [] D f s'):SP X pins D f s':=by
 cases f with
 |next=>obtain⟨σ',H',I,q⟩:=h;exact⟨σ',H',I.wJ ok,q⟩
 |brk=>obtain⟨σ',H',I,q⟩:=h;exact⟨σ',H',I.wJ ok,q⟩
 |cont=>obtain⟨σ',H',I,q⟩:=h;exact⟨σ',H',I.wJ ok,q⟩
 |ret u=>obtain⟨v,σ',H',I,r,q⟩:=h;exact⟨v,σ',H',I.wJ ok,r,q⟩
end
section
variable {X:Cx} {t n:Str} {CT:Addr} {np hpos pos:Pos} {body suite:List Stmt} {b₀:Stmt} {g h:ao->So} {sub:Str->Str->Bool}
theorem agH (i:Nat) (hN:X.N.Nodup) (hst:X.stack=X.env::X.outer) (hfr:X.env.frame=some X.env.locals) (hex:X.ex=[]) (hm:X.mg t=some (.ref CT))
  (hx:∀c C,sub c t=true->PySem.W.nsIn X.K mainGlobals c=some (some (.ref C))->PySem.W.exmOne X.K (.ref C) (.ref CT)=some true)
  (hb:∀E pn,c7 (X.Xm E pn) body g) (hh:∀a,c7 (X.Jy a) (b₀::suite) h) (hg:autoParam (Gl X t) aN._auto_1) (hi:autoParam (X.N[i]?=some n) aN._auto_1) (hl:autoParam (X.env.kindOf n=some .local) aN._auto_1) (hdb:autoParam ((t ==("__debug__" :Str))=false) cD._auto_1):
  DS X (.Try body [.ExceptHandler (some (.Name t np)) (some n) (b₀::suite) hpos] [] [] pos) (QM sub t i g h):=by
 intro pins s σ H E I q;obtain⟨H0,O0,O,ρ,j,q⟩:=q;refine wpAny_Try_except ?_;have hin:i < X.N.length:=(z1b hi).1;have hcls:(X.env.scope.kind == .class || (X.env.scope.kind == .module && X.env.locals !=X.env.globals))=false:=by rw[I.ok.kind];rfl
 refine wpAny_mono (hb _ (X.pn++pins) [] s σ H E (I.Xm _) ⟨H0,O0,O,ρ,j.cx rfl rfl,?_⟩) (λ f s1 z=>?_) λ _u _u z=>z
 ·-- the body's ends
  unfold QM at q;cases eg:g ρ with
  |bad=>rw[eg] at q;exact q
  |nx ρ1=>rw[eg] at q;exact λ σ' H' O' j' r'=>q σ' H' O' (j'.cx rfl rfl) r'
  |bk ρ1=>rw[eg] at q;exact λ σ' H' O' j' r'=>q σ' H' O' (j'.cx rfl rfl) r'
  |ct ρ1=>rw[eg] at q;exact λ σ' H' O' j' r'=>q σ' H' O' (j'.cx rfl rfl) r'
  |rt d=>rw[eg] at q;exact q
  | ex c ρ1 =>
   rw[eg] at q;simp only at q;by_cases hs:sub c t=true
   ·rw [if_pos hs] at q;intro σ1 H1' O1 j1 H1 ajJ s1 a C T s2 H2 sm I1w hC rs;have I1:Inv X pins σ1 H1 s1:=I1w.wJ I.ok;have J1:Inv X pins σ1 H2 s2:=I1.call' rs.os rs.un rs.hok rs.bare λ b z=>absurd z (by simp);refine QT (b0:=X.base) (outer:=X.outer) (by rw[J1.ok.frames,hst]) (by have:=J1.stack;rwa [hst] at this) hfr rs.exc λ h3 t3 ld=>?_;have ajA:∀b∈frs (X.env::X.outer),b∈frs X.stack:=λ b z=>by rw[hst];exact z
    have r3:Bu X.prog X.w (frs X.stack) H1 s1 a C (some t3) {s2 with heap:=h3} H2:=Bu.land rs ajA ld J1.stkFree;have J3:Inv X pins σ1 H2 {s2 with heap:=h3}:=I1.call' r3.os r3.un r3.hok r3.bare λ b z=>absurd z (by simp);obtain⟨oe,vs,x1,x2,x3,x4,x5,x6,ot,ts,y1,y2,y3⟩:=r3.exc;refine wpAny_handleBy_cons (codeAny_handlers_test (ld_glob (X:=X.Jy a) (J3.Jy a) hg hm ?_ hdb)) (by intro z;cases z);have LT:PySem.W.Looks (model X.prog X.w) h3 (typeOf (.ref a)) (.ref C):=x2▸(PySem.W.Looks.ld x1).andThen .now;refine (PySem.W.exm_one J3.kIn LT (hx c C hs hC)).here ?_;simp only[if_true];refine codeAny_handlers_suite_as ?_;refine wpAny_setFlight_none x1 x4 x5 y1 y2 (Array.getElem?_eq_some_iff.mp y3).1 ?_;have aij:h3.update t3 (Obj.mapFields (·.setIfInBounds 3 Value.none))=h3:=Heap.update_setField_same h3 t3 ot ts 3 Value.none y1 y2 y3;show wpAny _ _ _ _ _ {s2 with heap:=h3.update t3 (Obj.mapFields (·.setIfInBounds 3 Value.none))};rw[aij];have na1:∀b ob,s1.heap.get? b=some ob->b≠a:=λ b ob z e=>by rw[e,rs.na] at z;cases z
    have K3:Inv X pins σ1 (upd H2 a (.frz oe (.own a))) {s2 with heap:=h3}:=by
     refine J3.track r3.ha x1 ?_ ?_ (λ y cc z=>?_) λ p hp=>?_
     ·cases z:X.s₀.heap.get? a with
      |none=>rfl
      | some ob=>
       obtain⟨o',e⟩:=I1.base.there a ob z (by rw[hex];simp);rw[rs.na] at e;cases e
     ·intro z;obtain⟨m,⟨ob,_,_,e,_⟩,_⟩:=I1.loc;exact na1 _ _ e z.symm
     ·obtain⟨v,ob,e,_⟩:=I1.cell y cc z;exact na1 _ _ e
     ·exact na1 _ _ (I1.pin p hp).1
    refine store_ok (X:=X.Jy a) (v:= .ref a) (K3.Jy a) hN hi (.inl hl) rfl (λ s4 J4=>?_) (.inr hl);have jx:At X H0 O0 O1 H1' ρ1 σ1:=j1.cx rfl rfl;have sm3:Same H1' (upd H2 a (.frz oe (.own a))):=(sm.trans rs.same).trans (Same.upd r3.ha);have j4:At (X.Jy a) H0 O0 O1 (upd H2 a (.frz oe (.own a))) (ρ1.set i (some (.obj (.exc c)))) (σ1.set i (some (.ref a))):=
     ((jx.grow sm3).Cr (t:= .exc c) (v:= .ref a) hin ⟨a,oe,C,rfl,upd_same,x2,x3,⟨vs,x4⟩,hC⟩).cx rfl rfl
    cases eh:h (ρ1.set i (some (.obj (.exc c)))) with
    | rt d=>
     rw[eh] at q;refine wpAny_mono (hh a pins s4 _ _ {nx:=λ _u _u=>False,rt:=E.rt} J4 ⟨H0,O0,O1,_,j4,by rw[eh];exact q⟩) (λ f s5 z=>?_) λ _u _u z=>z.elim;cases f with
     |next=>obtain⟨_,_,_,z⟩:=z;exact z.elim
     |brk=>obtain⟨_,_,_,z⟩:=z;exact z.elim
     |cont=>obtain⟨_,_,_,z⟩:=z;exact z.elim
     | ret u=>
      obtain⟨v,σ5,H5,J5,r5,q5⟩:=z;have J5':Inv X pins σ5 H5 s5:=J5.ajz I.ok;obtain⟨m,hn,_⟩:=J5'.loc;exact wpAny_nameGoes hl hn hcls λ h6 m6 hn6 hs6=>⟨v,_,H5,J5'.gone hn6 hs6,r5,q5⟩
    |bad=>rw[eh] at q;exact q.elim
    |nx _=>rw[eh] at q;exact q.elim
    |bk _=>rw[eh] at q;exact q.elim
    |ct _=>rw[eh] at q;exact q.elim
    |ex _ _=>rw[eh] at q;exact q.elim
   ·rw[if_neg hs] at q;exact q.elim
 ·cases f with
  |next=>exact wpAny_execs_nil (z.wJ I.ok)
  |brk=>exact z.wJ I.ok
  |cont=>exact z.wJ I.ok
  |ret u=>exact z.wJ I.ok
end
structure Gk (K:PySem.W.Frag) (C:Addr):Prop where
 g1:PySem.W.findIn K (.ref C) "__getattribute__" =some (some (.builtin "BaseException.__getattribute__"))
 g2:PySem.W.findIn K (.ref C) "__getattr__" =some none
 cl:(PySem.W.clsIn K C).isSome=true
 ha:PySem.W.findIn K (.ref C) "__class__" =some (some (.builtin "object.__class__"))
 hn:PySem.W.specialIn K (.builtin "object.__class__") "__get__" =some (some (.builtin "getset_descriptor.__get__"))
 ht:PySem.W.takesIn K (.builtin "object.__class__")=some true
 hm:PySem.W.mroIn K C (.type "object")=some true
 hb:PySem.W.mroIn K C (.type "BaseException")=some true
section
variable {prog:Program} {w:World} {A:Around} {E:Value->Shared->Prop} {s:Shared} {K:PySem.W.Frag} {x C:Addr} {ox:Obj} {od:Option Obj}
theorem abe {K:PySem.W.Frag} {C:Addr} {od:Option Obj} {name:Str} {a g:Value} (hc:(PySem.W.clsIn K C).isSome=true) (ha:PySem.W.findIn K (.ref C) name=some (some a)) (hg:PySem.W.specialIn K a "__get__" =some (some g)) (ht:PySem.W.takesIn K a=some true):PySem.W.findObj K C od name=some (.bind g a):=by
 obtain⟨cd,e⟩:=Option.isSome_iff_exists.mp hc;unfold PySem.W.findObj;rw[e,Option.bind_some,ha,Option.bind_some];simp[hg,ht]
theorem abf {Q:Option Value->Shared->Prop} (X:K.In s.heap) (I:PySem.W.InstAt s.heap x ox C od) (F:Gk K C) (h:Q (some (.ref C)) {s with toks:=s.toks+1}):wpAny (model prog w) A (getAttr? (.ref x) "__class__") Q E s:=by
 obtain⟨hh,g,d,t,os⟩:=s;have L0:=I.type (M:=model prog w);have L1:=PySem.W.looks_findIn (M:=model prog w) X F.g1;have L2:=PySem.W.looks_findIn (M:=model prog w) X F.g2;have L4:=PySem.W.looks_find (M:=model prog w) X I (abe (od:=od) F.cl F.ha F.hn F.ht);have LB:=PySem.W.looks_mroIn (M:=model prog w) X F.hb;have f3:=PySem.F.attrBase_ValueError.ga.bind (.ref x);unfold getAttr? getAttrBy? getAttrBy;refine wpAny_bind (wpAny_mkText (wpAny_bind (wpAny_attempt (wpAny_holding (wpAny_bind (L0.at (wpAny_bind (L1.at ?_))))))));have hx1:(onTheHeap (Value.ref C) && Value.builtin "BaseException.__getattribute__" ==Value.builtin "object.__getattribute__")=false:=by
  rw[show (Value.builtin "BaseException.__getattribute__" ==Value.builtin "object.__getattribute__")=false from by decide +kernel];exact Bool.and_false _
 dsimp only
 rw[hx1,if_neg Bool.false_ne_true];unfold getAttrByItsOwn hookBefore;rw[if_pos (show onTheHeap (Value.ref C)=true from rfl)];refine wpAny_bind (L2.at (wpAny_bind (wpAny_attempt (wpAny_holding ?_))));unfold callGetattribute;rw[Bool.false_and,if_neg Bool.false_ne_true];unfold boundAndCalled;rw[f3];refine wpAny_bind (wpAny_pure ?_);refine wpAny_call (codeAny_call_builtin PySem.F.attrBase_ValueError.ga.plain PySem.F.entry_bexc_ga ?_);have hk:builtinKind "BaseException.__getattribute__" =some .slot:=by decide +kernel
 have hsp:splitId "BaseException.__getattribute__" =some ("BaseException","__getattribute__"):=by decide +kernel
 have ha:=PySem.F.args_bexc_ga (.ref x) (.str (Str.ofString "__class__") t);simp only[checkBuiltinCall,hk,hsp,List.cons_append,List.nil_append];unfold isInstance;refine wpAny_bind (wpAny_bind (L0.at (LB.at ?_)));rw[Bool.not_true,if_neg Bool.false_ne_true];refine wpAny_of_eq (a:=()) ha ?_;unfold Builtin.«object.__getattribute__»;refine wpAny_bind (wpAny_pure ?_);refine wpAny_bind (wpAny_pure ?_);refine wpAny_bind (L0.at (wpAny_bind (L4.at ?_)));show wpAny _ _ (holding [Value.builtin "object.__class__"] (call (Value.builtin "getset_descriptor.__get__") [Value.builtin "object.__class__",.ref x,.ref C]) >>=ret) _ _ _;refine wpAny_bind (wpAny_holding (wpAny_call (PySem.W.class_get (s:=⟨hh,g,d,t+1,os⟩) (od:=od) X I F.hm (wpAny_pure ?_))));exact PySem.W.handed_on rfl (wpAny_pure h)
set_option tactic.hygienic true in
theorem adu (F:Gk K C):PySem.W.KitX K (.ref x) (.ref C) (λ h=>PySem.W.InstAt h x ox C od) where
 ty:=λ _u _u _u I=>I.type
 it :=λ _u _u X _u=>by
  obtain⟨cd,hcd⟩:=Option.isSome_iff_exists.mp F.cl;unfold PySem.W.clsIn at hcd;split at hcd
  ·rename_i v1 v2 v3 v4 ho;intro A' Q' E' s' k q;unfold isType loadHead;exact wpAny_bind (wpAny_loadPart (k _ _ (X _ _ ho)) (wpAny_pure q))
  ·cases hcd
 ne :=λ h tp dd its n sl X htp=>by
  obtain⟨cd,hcd⟩:=Option.isSome_iff_exists.mp F.cl;refine Bool.eq_false_iff.mpr λ q=>?_;have e:C=tp:=Value.ref.inj (beq_iff_eq.mp q);subst e;unfold PySem.W.clsIn at hcd;split at hcd
  ·rename_i v1 v2 v3 v4 ho;cases (X _ _ ho).symm.trans htp
  ·cases hcd
 ca:=λ X I k=>abf X I F k
end
section
variable {X:Cx} {sub:Str->Str->Bool}
theorem YK {T:Str} {vt:V} {ut:Value} (hut:∀u,RelV vt u->u=ut) (hq:∀c C,sub c c=true->PySem.W.nsIn X.K mainGlobals c=some (some (.ref C))->Gk X.K C/\PySem.W.kitOne X.K (.ref C) ut=some (sub c T)):
  CallR X (.builtin "isinstance") (λ xs H Q=>∃x c,xs=[x,vt]/\sub c c=true/\pB X.K H (.exc c) x/\Q (.bl (sub c T)) H):=by
 intro pins s σ H xs us Q I r h;obtain⟨x,c,rfl,hc,⟨a,o,C,rfl,hH,h1,h2,⟨vs,h3⟩,h4⟩,q⟩:=h;obtain⟨u,u2,rfl,rx,r2⟩:=vals2 r;cases (show u=Value.ref a from rx);cases hut u2 r2;obtain⟨F,e⟩:=hq c C hc h4;obtain⟨ho,_⟩:=I.hok a _ hH;refine PySem.W.kia_one (adu (x:=a) (ox:=o) (od:=none) F) I.kIn ⟨ho,h1,by unfold PySem.W.notCls;rw[h3],by rw[h2];trivial⟩ e (λ z=>nomatch z) λ tk=>⟨.bl _,H,I.tok _,rfl,q⟩
theorem QW (i:Nat) {T n:Str} {vt:V} {ut:Value} {p p1 p2 pos:Pos} (hg:Gl X "isinstance") (hm:X.mg "isinstance" =none) (hT:PE X (.Name T p2) (tC vt)) (hut:∀u,RelV vt u->u=ut)
  (hq:∀c C,sub c c=true->PySem.W.nsIn X.K mainGlobals c=some (some (.ref C))->Gk X.K C/\PySem.W.kitOne X.K (.ref C) ut=some (sub c T))
  (hN:autoParam (X.N[i]?=some n) aN._auto_1) (hv:autoParam (Vis X.env.scope n) su._auto_1) (hd:autoParam ((n ==("__debug__" :Str))=false) cD._auto_1) (hcd:autoParam ((n ==("__classdict__" :Str))=false) cD._auto_1)
  (hs:autoParam (starEach [.Name n p1,.Name T p2] X.env=(false,eval (.Name n p1) X.env)::starEach [.Name T p2] X.env) aN._auto_1) (hs2:autoParam (starEach [.Name T p2] X.env=(false,eval (.Name T p2) X.env)::starEach [] X.env) aN._auto_1) (hpl:autoParam ((backTo pos (starEach [.Name T p2] X.env)).any (·.1)=false) aN._auto_1):
  DE X (.Call (.Name "isinstance" p) [.Name n p1,.Name T p2] [] pos) (FN sub i T):=by
 refine PE.imp (pe_callB (YK (T:=T) hut hq) hg hm boot_isinstance (pa_cons (pe_var hN hv hd hcd) (pa_cons hT pa_nil hs2) hs) (by decide) (by decide) hs hpl) λ σ H Q h=>?_;obtain⟨ρ,O,j,h⟩:=h;unfold FN at h;cases q:ρ[i]? with
 |none=>rw[q] at h;exact h.elim
 | some oe =>
  rw[q] at h;cases oe with
  |none=>exact h.elim
  | some en=>
   cases en with
   |val _=>exact h.elim
   |lst _=>exact h.elim
   |Bt _=>exact h.elim
   | obj t=>
    cases t with
    |fn _=>exact h.elim
    |dct _ _ _=>exact h.elim
    | exc c=>
     have h:good X (rD X) O (if sub c c=true then .ok (.bl (sub c T)) else .bad) σ H Q:=h;by_cases hc:sub c c=true
     ·rw[if_pos hc] at h;obtain⟨v,hv1,hv2⟩:=j.env.get i _ q;exact⟨v,hv1,v,c,rfl,hc,hv2,fin h (gQ _)⟩
     ·rw[if_neg hc] at h;exact h.elim
end
section
variable {X:Cx} {tg a:Expr} {p pos:Pos} {fa:ao->R (List D)}
end
section
variable {X:Cx}
theorem aeZ:OpR X (binaryOp .Mult) (λ x y H Q=>∃a k xs,x= .ref a/\y= .int k/\SqL X.K H a xs/\1<=k/\k < 2 ^ 63/\xs.length*k.toNat<=1000000/\∀p,H p=none->Q (.ref p) (upd H p (.lst (List.replicate k.toNat xs).flatten))):=by
 intro pins s σ H x y v u Q I rx ry h;obtain⟨a,k,xs,rfl,rfl,hq,h1,h2,hz,q⟩:=h;cases rx;obtain⟨t,rfl⟩:=ry;obtain⟨its,r,p1,_⟩:=I.list hq;obtain⟨⟨cls,dd,data,sl⟩,ho,hc,n,hd⟩:=id p1.isList;simp only at hc hd;subst hc hd;have hlen:=r.length;have hz':its.toArray.size*k.toNat<=1000000:=by rw[z1c,<-hlen];exact hz
 have hz2:its.length*k.toNat<=1000000:=by rw[<-hlen];exact hz
 refine wpAny_binaryOp_repeat_ref (T:= "list") (U:= "int") (by decide) ⟨_,ho,rfl⟩ (λ s'=>typeIs_int s' k t) noFill_list_mul F.fills_int_mul F.slot_int_rmul repeat_list F.slot_int_index.lookup
  (call_meets F.slot_int_rmul (typeIs_int s k t) F.entry_int_rmul (F.args_int_rmul_2 _ _) (lm_int_rmul_list_any k t a its.toArray n dd sl) ⟨ho,rfl,⟨_,ho,rfl⟩,?_⟩)
 refine call_meets F.slot_list_mul ⟨_,ho,rfl⟩ F.entry_list_mul (F.args_list_mul_2 _ _) (lm_list_mul_any a its.toArray n dd sl k t (by simp[Builtin.List.listFitsIndex];exact ac1 h1 h2) (by exact agl hz') (by simp[Builtin.List.listTooLong,sizeLine];exact agk hz2)) ⟨ho,?_⟩;rw[listMul_foldl_if];refine⟨.ref s.heap.objs.size,_,I.laid (t':=s.toks) (o:= .lst (List.replicate k.toNat xs).flatten) (λ b ob z=>z1a _ z) (z0g _) ?_,rfl,q _ (I.hok.fresh (z0g _))⟩;exact⟨by rw[len_rep,Nat.mul_comm];exact z0b hz dh,_,_,r.rep k.toNat,z1f _ rfl⟩
theorem LC:kZ X (binaryOp .Mult) mulL:=by
 obtain⟨r0,o0,c0⟩:=yU (X:=X);refine⟨_,OpR.or o0 aeZ,λ ρ O σ H Q x y dx dy j0 rx ry h=>?_⟩;cases dx with
 | lst ds=>
  cases dy with
  | int k=>
   have h:good X (rD X) O (if ds≠[]/\1<=k/\k < 2 ^ 63/\ds.length*k.toNat<=1000000 then .ok (.lst (List.replicate k.toNat ds).flatten) else .bad) σ H Q:=h;by_cases hc:ds≠[]/\1<=k/\k < 2 ^ 63/\ds.length*k.toNat<=1000000
   ·rw[if_pos hc] at h;obtain⟨a,us,rfl,ha,hn,r1⟩:=rx.lst;obtain⟨h0,h1,h2,h3⟩:=hc;exact .inr ⟨a,k,us,rfl,ry.int,ha,h1,h2,by rw[<-r1.length];exact h3,λ l hl=>h _ _ (Same.upd hl) (Rep.Fo hl (j0.BW hl) (zT r1 _))⟩
   ·rw[if_neg hc] at h;exact h.elim
  |_=>exact h.elim
 |_=>exact .inl (c0 ρ O σ H Q x y _ _ j0 rx ry h)
end
noncomputable def Tb (ts:List (Addr×Str)) (H:Hp):Prop:=∀p∈ts,∃(ps:Array Value) (tq:Tok),H p.1=some (.tbl ps)/\ps[0]?=some (.str p.2 tq)
noncomputable def spT (ts:List (Addr×Str)) (K:PySem.W.Frag) (n:Nat) (F:List D->R D):Sp:=λ vs H Q E=>Tb ts H/\M9 K n F vs H Q E
section
variable {P:Program} {w:World} {K:PySem.W.Frag} {mg:Str->Option Value} {base:Heap}
end
section
variable {X:Cx} {k m n:Nat} {fd:FuncData} {ps ks:List Str} {F:List D->R D} {x:Str} {p pos:Pos} {e:Expr} {es:List Expr} {kws:List Keyword} {fa fk:ao->R (List D)} {ts:List (Addr×Str)}
end
structure YL (base:Heap) (mg:Str->Option Value) (c P:Addr):Prop where
 code:PySem.W.CodeHd base c P
 blt:∃bm ob,mg "__builtins__" =some (.ref bm)/\bm≠builtinsNs/\base.get? bm=some ob/\ob.cls= .type "module"/\ob.dict=some builtinsNs/\ob.data= .plain
section
variable {X:Cx} {pins:List (Addr×Obj)} {σ:St} {H:Hp} {s:Shared}
end
section
variable {X:Cx} {k m n:Nat} {G:List D->R D} {x:Str} {p pos:Pos} {e:Expr} {es:List Expr} {fa:ao->R (List D)} {a:Addr}
end
section
variable {P:Program} {w:World} {K:PySem.W.Frag} {mg:Str->Option Value} {base:Heap}
end
section
variable {P:Program} {w:World} {H:Hp} {h:Heap} {c:Addr} {co:Obj} {u:Option Value}
end
section
variable {M:Model} {A:Around} {E:Value->Shared->Prop} {s:Shared}
end
section
variable (P:Program) (w:World) (K:PySem.W.Frag) (mg:Str->Option Value) (base:Heap) (N:List Str) (qual:Str) (scope:Scope) (f:Addr) (cd:Value) (A:Around) (outer:List PySem.Env) (s:Shared) (H:Hp) (y:Str) (c:Addr)
end
section
variable {P:Program} {w:World} {K:PySem.W.Frag} {mg:Str->Option Value} {base:Heap}
end
section
variable {X:Cx} {name qual:Str} {params:Arguments} {body:List Stmt} {scope:Scope} {y xS:Str} {c fS:Addr} {fdS:FuncData} {psS:List Str} {kS kG n q iy:Nat} {FS:Addr->(List D->R D)->List D->R D} {GG:Int->List D->R D} {p pos:Pos} {e:Expr} {es:List Expr} {ta:TA}
end
open Classical in
section
variable {X:Cx} {name qual:Str} {params:Arguments} {body:List Stmt} {scope:Scope} {y xS:Str} {c cc P fS:Addr} {fdS:FuncData} {psS:List Str} {kS kG q:Nat} {FS:Addr->(List D->R D)->List D->R D} {GG:Int->List D->R D} {p p4 pos pos2 aj1:Pos} {e1 e2 e3:Expr} {f1 f2 f3:ao->R D}
end
noncomputable def oZ (a:Addr) (o:Option HO) (T:Addr) (q:Str):Hp:=λ b=>if b=T then some (.tbl #[.str q 0]) else if b=a then o else none
theorem abg {P:Program} {w:World} {K:PySem.W.Frag} {mg mb:Str->Option Value} {k:Nat} {fa a c T:Addr} {q:Str} {fd:FuncData} {x:Str} {sp:Sp} {s₁:Shared} {vs:List Value} {ns:List Int}
  (KX:K.In s₁.heap) (hns:s₁.heap.Ns mainGlobals mg) (hb:s₁.heap.Ns builtinsNs mb) (hbb:∀x:Str,x≠"__name__"->mb x=bootBuiltins x) (hlim:s₁.heap.NoLimit) (hg:s₁.gens= #[])
  (ha:s₁.heap.get? a=some {cls:= .type "list",data:= .seq vs.toArray}) (hi:IntsAre vs ns) (hl:ns.length<=sizeLine) (hr:Room k callerA)
  (hC:PySem.W.CodeHd s₁.heap c T) (hT:s₁.heap.get? T=some (PySem.W.tabObj #[])) (hnt:PySem.W.noTabs K=true)
  (hbm:∃bm ob,mg "__builtins__" =some (.ref bm)/\bm≠builtinsNs/\s₁.heap.get? bm=some ob/\ob.cls= .type "module"/\ob.dict=some builtinsNs/\ob.data= .plain)
  (F:∀base:Heap,K.In base->base.Ns mainGlobals mg->YL base mg c T->FnOk P w K mg base CX0 k fa fd [x] sp) (hbind:∀(s:Shared) (u:Value),BindsTo s fd ⟨[u],[]⟩ [(x,u)])
  (hsp:∀H:Hp,Tb [(T,q)] H->SqL K H a (ns.map V.int)->sp [.ref a] H (λ v _u=>v= .bl true) λ _u _u _u=>False):
  codeAny (model P w) callerA (.call (.ref fa) ⟨[.ref a],[]⟩) (λ r s'=>r= .ok (.ret (.bool true))/\OldK s₁.heap s'.heap/\s'.os=s₁.os/\AllBare s'.gens) s₁:=by
 have rv:=vals_ints hi;have lenV:=hi.length;have aT:a≠T:=λ z=>by rw[z,hT] at ha;cases ha
 have core : ∀o:Option HO,(o=none\/o=some (.frz {cls:= .type "list",data:= .seq vs.toArray} (.lst (ns.map V.int))))->SqL K (oZ a o T q) a (ns.map V.int)->(o≠none->K.lookup a=none)->
   codeAny (model P w) callerA (.call (.ref fa) ⟨[.ref a],[]⟩) (λ r s'=>r= .ok (.ret (.bool true))/\OldK s₁.heap s'.heap/\s'.os=s₁.os/\AllBare s'.gens) s₁:=by
  intro o ho hS hK;have hH:∀b u,oZ a o T q b=some u->(b=T/\u= .tbl #[.str q 0])\/(b=a/\u= .frz {cls:= .type "list",data:= .seq vs.toArray} (.lst (ns.map V.int))/\o≠none):=λ b u z=>by
   unfold oZ at z;by_cases h1:b=T
   ·rw[if_pos h1] at z;cases z;exact .inl ⟨h1,rfl⟩
   ·rw[if_neg h1] at z;by_cases h2:b=a
    ·rw[if_pos h2] at z;rcases ho with ho |ho
     ·rw[ho] at z;cases z
     ·rw[ho] at z;cases z;exact .inr ⟨h2,rfl,by rw[ho];simp⟩
    ·rw[if_neg h2] at z;cases z
  have hok:HOk P w (oZ a o T q) s₁.heap:=λ b u z=>by
   rcases hH b u z with⟨rfl,rfl⟩ |⟨rfl,rfl,_⟩
   ·exact⟨#[],hT,trivial,λ p cv y=>by cases y⟩
   ·exact⟨ha,by rw[z1g];exact hl,vs,_,rv,ha⟩
  have tb:Tb [(T,q)] (oZ a o T q):=λ p hp=>by
   have e:p=(T,q):=by simpa using hp
   subst e;exact⟨#[.str q 0],0,if_pos rfl,rfl⟩
  have base_of:∀{b:Addr} {u:Obj},s₁.heap.get? b=some u->oZ a o T q b=none->(hidT s₁.heap (oZ a o T q)).get? b=some u:=λ e n=>hidT_get e n;have free:∀{b:Addr} {u:Obj},s₁.heap.get? b=some u->u.cls≠.type "list"->u.cls≠.none->oZ a o T q b=none:=λ {b u} e n1 n2=>by
   cases z:oZ a o T q b with
   |none=>rfl
   | some y=>
    rcases hH b y z with⟨rfl,_⟩ |⟨rfl,_,_⟩
    ·rw[hT] at e;cases e;exact absurd rfl n2
    ·rw[ha] at e;cases e;exact absurd rfl n1
  have aik:∀{b:Addr} {u:Obj} {es:Array DictEntry} {ep:Nat},s₁.heap.get? b=some u->u.data= .dict es ep->oZ a o T q b=none:=λ {b u es ep} e d=>by
   cases z:oZ a o T q b with
   |none=>rfl
   | some y=>
    rcases hH b y z with⟨rfl,_⟩ |⟨rfl,_,_⟩
    ·rw[hT] at e;cases e;cases d
    ·rw[ha] at e;cases e;cases d
  have nsK:∀{b:Addr} {m:Str->Option Value},s₁.heap.Ns b m->(hidT s₁.heap (oZ a o T q)).Ns b m:=λ {b m} ⟨u,es,ep,e,d,r⟩=>⟨u,es,ep,base_of e (aik e d),d,r⟩;have hKb:K.In (hidT s₁.heap (oZ a o T q)):=λ b u e=>base_of (KX b u e) (by
   cases z:oZ a o T q b with
   |none=>rfl
   | some y=>
    rcases hH b y z with⟨rfl,_⟩ |⟨rfl,_,no⟩
    ·have e1:=KX b u e;rw[hT] at e1;cases e1;have h2:=List.all_eq_true.mp hnt (b,PySem.W.tabObj #[]) (PySem.W.mem_of_lookupK e);exact absurd (show false=true from h2) Bool.false_ne_true
    ·rw[hK no] at e;cases e)
  have hM:Mod K mg (hidT s₁.heap (oZ a o T q)):=⟨hKb,nsK hns,⟨mb,nsK hb,hbb⟩,let ⟨mc,h1,h2⟩:=hlim;⟨mc,nsK h1,h2⟩⟩;have nb:YL (hidT s₁.heap (oZ a o T q)) mg c T:=by
   refine⟨?_,?_⟩
   ·obtain⟨oc,v,file,tf,flags,tg,inF,text,tt,e1,e2,r⟩:=hC;exact⟨oc,v,file,tf,flags,tg,inF,text,tt,base_of e1 (free e1 (by rw[e2];nofun) (by rw[e2];nofun)),e2,r⟩
   ·obtain⟨bm,ob,b1,b2,b3,b4,r⟩:=hbm;exact⟨bm,ob,b1,b2,base_of b3 (free b3 (by rw[b4];nofun) (by rw[b4];nofun)),b4,r⟩
  have e0:Env0 P w K mg (hidT s₁.heap (oZ a o T q)) callerA [] s₁ (oZ a o T q):=⟨rfl,hM,λ b o e=>of_hidT e,z0f (hidT_size _ _),trivial,λ b hb=>absurd (show b∈([]:List Addr) from hb) (by simp),hok,.of_eq hg⟩;refine codeAny_mono ((F _ hKb (nsK hns) nb).run callerA [] s₁ (oZ a o T q) ⟨[.ref a],[]⟩ [.ref a] [.ref a] _ _ hr e0 (hbind s₁ (.ref a)) (.cons rfl .nil) (hsp _ tb hS)) λ r s' h=>?_;cases r with
  |error e=>exact h.elim
  | ok fl =>
   cases fl with
   |next=>exact False.elim h
   |brk=>exact False.elim h
   |cont=>exact False.elim h
   | ret u =>
    obtain⟨v,H',os,bare,un,hok',r',z⟩:=h;have z:v= .bl true:=z;subst z;obtain rfl:u=Value.bool true:=r';have each:∀b o,s₁.heap.get? b=some o->s'.heap.get? b=some o\/(b=T/\o=PySem.W.tabObj #[]/\∃qs,s'.heap.get? b=some (PySem.W.tabObj qs)):=λ b ob e=>by
     cases z:oZ a o T q b with
     |none=>exact .inl (un.keep b ob e z (by intro y;exact absurd (show b∈([]:List Addr) from y) (by simp)) (by simp))
     | some y=>
      rcases hH b y z with⟨rfl,rfl⟩ |⟨rfl,rfl,_⟩
      ·obtain⟨more,z2⟩:=un.tbls _ _ z;obtain⟨qs,e2,_⟩:=hok' _ _ z2;rw[hT] at e;cases e;exact .inr ⟨rfl,rfl,qs,e2⟩
      ·have z2:=un.frzs _ _ _ z;obtain⟨e1,_⟩:=hok _ _ z;obtain⟨e2,_⟩:=hok' _ _ z2;rw[e] at e1;cases e1;exact .inl e2
    refine⟨rfl,⟨λ b ob e=>?_,λ b ob e=>?_⟩,os,bare⟩
    ·rcases each b ob e with z |⟨rfl,rfl,qs,z⟩
     ·exact .inl z
     ·exact .inr (.inl ⟨(hC.tab hT).isCodeTable,rfl,#[],qs,rfl,by rw[Array.empty_append];exact z⟩)
    ·rcases each b ob e with z |⟨rfl,rfl,qs,z⟩
     ·exact⟨_,z⟩
     ·exact⟨_,z⟩
 cases hk:K.lookup a with
 | some o=>
  have e:=KX a o hk;rw[ha] at e;cases e;exact core none (.inl rfl) (.inr ⟨_,vs.toArray,_,hk,rfl,rfl,rfl,by rw[z1c,lenV];exact hl,by simpa using rv⟩) λ z=>absurd rfl z
 |none=>exact core _ (.inr rfl) (.inl (.inr ⟨_,(if_neg aT).trans (if_pos rfl)⟩)) λ _u=>hk
noncomputable def abh (K:PySem.W.Frag) (mg:Str->Option Value) (x:Str) (c:Addr):Prop:=∀f oc od fd osl,mg x=some (.ref f)->K.lookup f=some ⟨oc,od,.func fd,osl⟩->fd.code= .ref c
theorem ajK {l:PySem.W.OpenLaw} {n k:Nat} {p:Program} {loose:List Str} {XP:(Str->Option Value)->Heap->Prop} {YP:World->Heap->Prop} {d:DefRec} {K:Params->PySem.W.Frag} {x y q:Str} {FL:List D->R D}
  (hn:l.most=some n) (hn2:n<=sizeLine) (hdf:d.params.defaults=[]) (hr:Room k callerA)
  (hY:∀(w:World) (h:Heap),YP w h->(K w.params).In h) (hnt:∀w:World,PySem.W.noTabs (K w.params)=true) (hrec:∃dy∈recsOf p,dy.name=y)
  (F:∀(w:World) (mg:Str->Option Value) (fa:Addr) (h:Heap),(K w.params).In h->h.Ns mainGlobals mg->mg d.name=some (.ref fa)->
   ∃ fd:FuncData,(∀(s:Shared) (u:Value),BindsTo s fd ⟨[u],[]⟩ [(x,u)])/\
    ∀(base:Heap) (c T:Addr),(K w.params).In base->base.Ns mainGlobals mg->YL base mg c T->abh (K w.params) mg y c->FnOk l.prog w (K w.params) mg base CX0 k fa fd [x] (spT [(T,q)] (K w.params) 1 FL))
  (hL:∀ns:List Int,ns.length<=n->FL [.lst (ns.map D.int)]= .ok (.bl true)):
  PySem.W.WalkO p loose XP YP l.row.toRowW d [] (λ f vs=>PySem.call f vs):=by
 refine Att.attach_call hn hdf λ w s₀ s₁ mg mb fa o pm cd doc a vs ns G Y ho hd hcd hmg hobj hints hlen hg=>?_;have KX:=hY w _ Y;obtain⟨fd,hb,hF⟩:=F w mg fa _ KX G.T.g hmg;obtain⟨dy,hdy,rfl⟩:=hrec;obtain⟨f',o',fd',c,T,t1,t2,t3,t4,t5,t6⟩:=G.T.tab dy hdy;have hci:abh (K w.params) mg dy.name c:=λ f oc od fd2 osl e1 e2=>by
  rw[t1] at e1;cases e1;have e3:=KX _ _ e2;rw[t2] at e3;cases e3;cases t3;exact t4
 exact abg (q:=q) KX G.T.g G.T.b G.T.builtins G.T.nolimit hg hobj hints (z0b hlen hn2) hr (PySem.W.CodeHd.of t5 t6) t6.2 (hnt w) G.T.bmain (λ base h1 h2 h3=>hF base c T h1 h2 h3 hci) hb λ H tb hS=>⟨tb,sp_law hS (hL ns hlen)⟩
section
variable {X:Cx} {e lo hi:Expr} {f g:ao->R D} {fl fu:ao->R (Option Int)} {pos p2 p3 p4:Pos}
noncomputable def ajH (d:D) (lo hi:Option Int):R D:=match d with
 | .lst ds=> .ok (.lst (Ci ds lo hi))
 |_=> .bad
noncomputable def ixO (i:Nat) (f:ao->R D):ao->R D:=λ ρ=>match ρ[i]? with
 |some (some (.lst ds))=>(f ρ).bind λ d=>bD (.lst ds) d
 |_=> .bad
set_option tactic.hygienic true in
theorem agI (i:Nat) {x:Str} {px:Pos} (hb:DE X e f) (hs:autoParam (PlainIx e) ap8._auto_1) (hN:autoParam (X.N[i]?=some x) aN._auto_1) (hv:autoParam (Vis X.env.scope x) su._auto_1)
  (hd:autoParam ((x ==("__debug__" :Str))=false) cD._auto_1) (hcd:autoParam ((x ==("__classdict__" :Str))=false) cD._auto_1):DE X (.Subscript (.Name x px) e pos) (ixO i f):=by
 refine PE.imp (pe_ix ix_seq (pe_var hN hv hd hcd) hb hs) λ σ H Q h=>?_;obtain⟨ρ,O,j,h⟩:=h;unfold ixO at h;split at h
 ·rename_i ds q;obtain⟨v,hv1,a,xs,rfl,hO,hH,rs⟩:=j.env.get i _ q;refine⟨.ref a,hv1,?_⟩;refine go j h λ d y H1 e1 s1 r1 j1 h1=>?_;cases d with
  | int k=>
   have h':good X (rD X) O (match L2.atI ds k with |some d=>R.ok d |none=>R.bad) σ H1 Q:=h1;cases e2:L2.atI ds k with
   |none=>rw[e2] at h';exact h'.elim
   | some d=>
    rw[e2] at h';obtain⟨v,e3,rv⟩:=(rs.same s1).atI e2;exact .inl ⟨a,xs,k,v,rfl,r1.int,SqL.of (s1 _ _ hH),e3,fin h' rv⟩
  |_=>exact h1.elim
 ·exact h.elim
end
section
variable {X:Cx} {pos:Pos}
end
section
open PySem
theorem YM (l b:Addr) (items:Array Value) (n:Nat) (items2:Array Value) (n2:Nat) (dd:Option Addr) (sl:Array (Option Value)) (hs0:¬(!items.isEmpty && Builtin.List.listTooLong (items.size+items2.size))=true) (hs1:items.size<=sizeLine) (hs2:items.size+items2.size<=sizeLine+1):
  Meets (Builtin.«list.__iadd__» ⟨[.ref l,.ref b],[]⟩) (λ _u R s=>s.heap.get? l=some {cls:= .type "list",dict:=none,data:= .seq items n,slots:= #[]}/\s.heap.get? b=some {cls:= .type "list",dict:=dd,data:= .seq items2 n2,slots:=sl}/\R (.ok (.ret (Value.ref l))) {s with heap:=s.heap.update l (Obj.mapSeq λ x=>x++items2),toks:=s.toks}):=
 .of_wp λ prog w A R s h=>by
  obtain⟨hp,g,d,tk,os⟩:=s;obtain⟨hl,hb,h⟩:=h;have f1:=AutoSeq1.idx_int;have f2:=AutoSeq1.sub_tuple_tuple;have f3:=AutoSeq1.sub_list_list;have f4:=AutoSeq1.sub_tuple_list;have f5:=AutoSeq1.sub_list_tuple;
  have hz':(items++items2).size<=sizeLine+1:=by rw[Array.size_append];exact hs2
  wp_walk using (wpAny_updateSeq hl rfl (hz:=hs1) (_hz':=hz')),wpAny_loadPart' hl,wpAny_loadPart' hb;exact⟨_,rfl,h⟩
end
section
variable {X:Cx} {e:Expr} {f:ao->R D} {pos:Pos}
theorem ae0:PIp X .Add (λ x y H Q=>∃a b xs ys,x= .ref a/\y= .ref b/\H a=some (.lst xs)/\SqL X.K H b ys/\xs.length+ys.length<=1000000/\Q (.ref a) (upd H a (.lst (xs++ys)))):=by
 intro pins s σ H x y v u Q I rx ry h;obtain⟨a,b,xs,ys,rfl,rfl,ha,hb,hz,q⟩:=h;cases rx;cases ry;obtain⟨its,n,r,ho,hzl⟩:=I.lst ha;obtain⟨its2,r2,p2,hz2⟩:=I.list hb;obtain⟨⟨cls2,dd2,data2,sl2⟩,ho2,hc2,n2,hd2⟩:=id p2.isList;simp only at hc2 hd2;subst hc2 hd2;have l1:=r.length;have l2:=r2.length;have hsl:=mL;have hT:s.TypeIs (.ref a) "list" :=⟨_,ho,rfl⟩;have hT2:s.TypeIs (.ref b) "list" :=⟨_,ho2,rfl⟩;unfold inplaceOp;refine wpAny_holding ?_;have hfi:fillsInplaceSlot (.type "list") "add" (Operator.Add == .Add)=pure false:=by
  unfold fillsInplaceSlot;show (typeLookup (.type "list") (dunderI "add") >>=λ fi=>pure (fi.isSome && !isSeqSlot fi))=pure false;rw[PySem.F.slot_list_iadd.lookup,pure_bind,show isSeqSlot (some (.builtin "list.__iadd__"))=true from by decide +kernel];rfl
 refine wpAny_bind (wpAny_typeOf hT (wpAny_bind (wpAny_of_eq hfi ?_)));show wpAny _ _ (if false=true then _ else _) _ _ s;rw[if_neg Bool.false_ne_true];refine wpAny_bind (binaryOp1_none (nm:= "add") hT hT2 PySem.noFill_list_add ?_);refine wpAny_bind (wpAny_of_eq (PySem.seqSlot_of (T:= "list") (name:=dunderI "add") (id:= "list.__iadd__") PySem.F.slot_list_iadd.lookup (by decide +kernel)) ?_);refine wpAny_bind (wpAny_rule ?_);refine call_meets PySem.F.slot_list_iadd hT PySem.F.entry_list_iadd (PySem.F.args_list_iadd_2 _ _) (YM a b its.toArray n its2.toArray n2 dd2 sl2 ?_ (by rw[z1c];exact Qg l1 hzl) (by rw[z1c,z1c];exact ajh hsl hz l1 l2)) ⟨ho,ho2,?_⟩
 ·rw[z1c,z1c];have:Builtin.List.listTooLong (its.length+its2.length)=false:=by unfold Builtin.List.listTooLong;exact decide_eq_false (by exact aji hsl hz l1 l2)
  rw[this];simp
 ·refine⟨.ref a,upd H a (.lst (xs++ys)),I.lset (its':=its++its2) ha ho (by simp) (r.append r2) (by rw[z1d];exact ajj hsl hz),rfl,q⟩
noncomputable def LK (i:Nat) (f:ao->R D):ao->So:=λ ρ=>match ρ[i]? with
 | some (some (.lst ds))=>jA (yS (f ρ)) ρ λ d=>match d with
  | .lst es=>if ds.length+es.length<=1000000 then .nx (ρ.set i (some (.lst (ds++es)))) else .bad
  |_=> .bad
 |_=> .bad
set_option tactic.hygienic true in
theorem Xn (i:Nat) {x:Str} {pos':Pos} (hN:X.N.Nodup) (he:DE X e f) (hi:autoParam (X.N[i]?=some x) aN._auto_1) (hx:autoParam (Loc X.env.scope x) lJ._auto_1)
  (hf:autoParam (X.fn x=true\/X.env.scope.names.lookup x=some .local) lK._auto_1):DS X (.AugAssign (.Name x pos') .Add e pos) (LK i f):=by
 refine PS.imp (ps_aug hN hi hx he ae0 hf) λ σ H E h=>?_;obtain⟨H0,O0,O,ρ,j,h⟩:=h;unfold LK at h;split at h
 ·rename_i ds q;obtain⟨v,hv1,a,xs,rfl,hO,hH,rs⟩:=j.inn.env.get i _ q;refine⟨.ref a,hv1,ρ,O,j.inn,?_⟩;unfold jA at h;cases e1:f ρ with
  |bad=>rw[e1] at h;exact h.elim
  |err c=>rw[e1] at h;exact h.elim
  | ok d =>
   rw[e1] at h;intro w H1 s1 rw1;cases d with
   | lst es=>
    have h:tX X H0 O0 O H E (if ds.length+es.length<=1000000 then .nx (ρ.set i (some (.lst (ds++es)))) else .bad):=h;by_cases hl:ds.length+es.length<=1000000
    ·rw[if_pos hl] at h;have j1:=j.grow s1;obtain⟨b,ys,rfl,hb,hnb,M8⟩:=rw1.lst;have rs1:=rs.same s1;have hH1:=s1 _ _ hH;refine⟨a,b,xs,ys,rfl,rfl,hH1,hb,by rw[<-rs1.length,<-M8.length];exact hl,?_⟩;obtain⟨j2,r2⟩:=j1.chg (o:= .lst (xs++ys)) (en:= .lst (ds++es)) q rfl hv1 hO hH1 trivial rfl λ r=>⟨a,xs++ys,rfl,hO,upd_same,(rs1.append M8).go r⟩;have eσ:σ.set i (some (V.ref a))=σ:=by
      apply List.ext_getElem?;intro m;by_cases hm:m=i
      ·subst hm;rw[z2a (z1b hv1).1,hv1]
      ·rw[z1e (Ne.symm hm)]
     rw[eσ];exact h _ _ _ j2 ((Same.cZ s1).trans r2)
    ·rw[if_neg hl] at h;exact h.elim
   |_=>exact h.elim
 ·exact h.elim
end
noncomputable def Its (lo:Int) (n:Nat) (c:Int):It:=⟨λ i _u=>i < n,λ i H x H'=>H'=H/\x= .int (lo+i*c),λ i _u=>n<=i⟩
theorem abj {P:Program} {w:World} {K:PySem.W.Frag} {tg:Expr} (it:Addr) (lo:Int) (n:Nat) (c:Int):Turn P w K tg (Its lo n c) [it] it (λ i h=>IsRangeIter h it (lo+(i:Nat)*c) ((n:Int) - (i:Nat)) c) where
 mem:=by simp
 obj :=λ i h st b hb=>by
  have e:b=it:=by simpa using hb
  subst e;exact⟨_,st,λ v z=>by
   have z':Data.fields _=Data.cell v:=z;cases z'⟩
 keep:=λ i h h' st k=>k it (by simp) _ st
 item:=by
  intro X hP hw hK hc i pins s σ H E I hf st hg;subst hP hw hK;obtain⟨f0,f1,f2,f3,f4,f5⟩:=hf it (by simp);have W:=Walks.range (prog:=X.prog) (w:=X.w) (I.ok.hd hc) it lo c n;refine W.item i s _ _ hg st λ v h' tk hv st' kk=>?_;obtain⟨t,rfl⟩:=hv;have I1:Inv X pins σ H {s with heap:=h',toks:=tk}:=I.turned (λ b o hb e=>kk b o (by simpa using hb) e) f0 f1 f3 f4 f5;exact⟨_,rfl,go_of (s:={s with heap:=h',toks:=tk}) (n:= "range_iterator") st' rfl rfl (by decide) ⟨.int (lo+i*c),H,I1,⟨t,rfl⟩,⟨rfl,rfl⟩,st',λ b hb=>(hf b hb).1⟩⟩
 done:=by
  intro X hP hw hK hc i pins s σ H E I hf st hg;subst hP hw hK;obtain⟨f0,f1,f2,f3,f4,f5⟩:=hf it (by simp);exact wpAny_pyNext_range_end (I.ok.hd hc) st (by have:n<=i:=hg;exact oq2 this) λ h' eb=>⟨rfl,I.turned (t':=s.toks) (λ b o hb e=>eb b o hb e) f0 f1 f3 f4 f5⟩
 self:=λ _u _u _u _u _u st h=>wpAny_pyIter_rangeiter st h
noncomputable def rN (hi:Int) (n:Nat):List D:=(List.range n).map λ (i:Nat)=>D.int (hi - (i:Int))
theorem YR.step {K:PySem.W.Frag} {O:Addr->Prop} {H:Hp} (hi:Int) (n:Nat):YR K O H (Its hi n (-1)) (rN hi n):=by
 intro O' H' _u;intro i;refine⟨λ d e=>?_,λ e=>?_⟩
 ·unfold rN at e;rw[z2b] at e;cases q:(List.range n)[i]? with
  |none=>rw[q] at e;cases e
  | some k=>
   rw[q] at e;have hk:i < n/\i=k:=by simpa[List.getElem?_range] using (z1b q)
   obtain⟨h1,rfl⟩:=hk;cases e;refine⟨h1,λ x H2 y=>?_⟩;obtain⟨rfl,rfl⟩:=y;exact⟨Same.refl _,by rw[show hi+(i:Int)*(-1)=hi - (i:Int) by omega];exact bN _⟩
 ·show n<=i;unfold rN at e;simpa using e
section
variable {X:Cx} {tg a b c:Expr} {p pos p2 pos2:Pos} {fa:ao->R (List D)} {ta:TA}
noncomputable def ajI:List D->R (List D)
 |[.int i,.int j,.int k]=>if k= -1/\-(2 ^ 62)<=i/\i < 2 ^ 62/\-(2 ^ 62)<=j/\j < 2 ^ 62 then .ok (rN i (i - j).toNat) else .bad
 |_=> .bad
end
section
variable {prog:Program} {w:World} {A:Around} {E:Value->Shared->Prop} {s:Shared}
theorem Jz (r:Addr) (j:Int) (t u v:Tok) (h0:0<=j) (h1:j<=1000):Meets (Builtin.«range.__reversed__» ⟨[.ref r],[]⟩) (λ _u R s=>IsRange s.heap r 0 j 1 t u v/\R (.ok (.ret (.ref s.heap.objs.size))) {s with heap:=s.heap.push {cls:= .type "range_iterator",data:= .fields #[rawInt (j - 1),rawInt j,rawInt (-1)]}}):=
 .of_wp λ prog w A R s h=>by
  obtain⟨hp,g,d,tk,os⟩:=s;obtain⟨hr,h⟩:=h;have e1:Builtin.Range.rangeSize 0 j 1=j:=by rw[rangeSize_one];split <;> (first |exact ajk |exact ajl h0 (by assumption))
  have e2:(Builtin.Range.rangeFitsLong 0 && Builtin.Range.rangeFitsLong j && Builtin.Range.rangeFitsLong 1 && Builtin.Range.rangeFitsLong (-1) && Builtin.Range.rangeFitsLong (0 - 1) && Builtin.Range.rangeFitsLong j)=true:=by
   simp only[Builtin.Range.rangeFitsLong,Bool.and_eq_true,decide_eq_true_eq];exact ajm h0 h1
  have e3:(0:Int)+(j - 1)*1=j - 1:=by exact ajn
  unfold Builtin.«range.__reversed__» Builtin.Range.rangeFields
  wp_walk using wpAny_loadPart' hr
  rw[e1];simp only[e2,e3,Bool.not_true,Bool.false_eq_true,if_false,if_true];unfold newFields;refine wpAny_bind (wpAny_newObj_type (wpAny_pure ⟨_,rfl,h⟩) (by size_fits))
theorem JB:isSubtype (.type "range_iterator") (.type "reversed")=pure false:=by rw[isSubtype_type];kernel_rfl
theorem LQ {r:Addr} {j:Int} {t u v:Tok} {Q₁:Value->Shared->Prop} (h0:0<=j) (h1:j<=1000) (hr:IsRange s.heap r 0 j 1 t u v)
  (h:Q₁ (.ref s.heap.objs.size) {s with heap:=s.heap.push {cls:= .type "range_iterator",data:= .fields #[rawInt (j - 1),rawInt j,rawInt (-1)]}}):
  codeAny (model prog w) A (.call (.builtin "reversed.__new__") ⟨[.type "reversed",.ref r],[]⟩) (wants Q₁ E) s:=by
 have hT:s.TypeIs (.ref r) "range" :=⟨_,hr,rfl⟩;refine codeAny_of_tree ?_;show wpAny _ A.in1 (do checkBuiltinCall "reversed.__new__" ⟨[.type "reversed",.ref r],[]⟩;again (.builtin "reversed.__new__" ⟨[.type "reversed",.ref r],[]⟩)) _ _ s;refine wpAny_bind (wpAny_of_eq (PySem.F.newCall_reversed_1 _) (wpAny_pure ⟨plainId_quiet PySem.F.plain_reversed_new _,codeAny_builtin PySem.F.entry_reversed_new ?_⟩));rw[Around.under_plainId PySem.F.plain_reversed_new _];unfold Builtin.«reversed.__new__»;refine wpAny_bind (wpAny_of_eq (newClass_reversed _) ?_)
 try dsimp only
 refine wpAny_bind (wpAny_of_eq (a:=()) (by first |rfl |kernel_rfl) ?_);refine wpAny_bind (wpAny_of_eq (a:=()) (by first |rfl |kernel_rfl) ?_)
 try dsimp only
 refine wpAny_bind (wpAny_specialOf hT PySem.F.slot_range_reversed.lookup ?_)
 try dsimp only
 refine wpAny_bind (wpAny_of_eq (PySem.F.slot_range_reversed.bind _) ?_)
 try dsimp only
 first
 |rw [if_neg (show ¬((Value.builtin "range.__reversed__" ==Value.none)=true) from Bool.false_ne_true)]
 |(show wpAny _ _ (if (Value.builtin "range.__reversed__" ==Value.none)=true then _ else _) _ _ _;rw[if_neg (show ¬((Value.builtin "range.__reversed__" ==Value.none)=true) from Bool.false_ne_true)])
 refine wpAny_bind (wpAny_rule ?_);refine wpAny_bind (m:=runValue (.call (.builtin "range.__reversed__") ⟨[.ref r],[]⟩)) (show wpAny _ _ (call (.builtin "range.__reversed__") [.ref r]) _ _ _ from call_meets PySem.F.slot_range_reversed hT PySem.F.entry_range_reversed (PySem.F.args_range_reversed_1 _) (Jz r j t u v h0 h1) ⟨hr,?_⟩)
 first
 |exact wpAny_pure h
 |exact wpAny_bind (wpAny_pure (wpAny_pure h))
theorem LR {r:Addr} {j:Int} {t u v:Tok} {Q:Value->Shared->Prop} (h0:0<=j) (h1:j<=1000) (hr:IsRange s.heap r 0 j 1 t u v)
  (h:Q (.ref s.heap.objs.size) {s with heap:=s.heap.push {cls:= .type "range_iterator",data:= .fields #[rawInt (j - 1),rawInt j,rawInt (-1)]}}):wpAny (model prog w) A (call (.type "reversed") [.ref r]) Q E s:=by
 refine callType_other (U:= "range_iterator") (Q₁:=λ obj s₁=>obj= .ref s.heap.objs.size/\s₁={s with heap:=s.heap.push {cls:= .type "range_iterator",data:= .fields #[rawInt (j - 1),rawInt j,rawInt (-1)]}}) (by decide +kernel) PySem.F.create_reversed ⟨_,_,PySem.F.mro_reversed⟩ PySem.F.made_reversed JB (PySem.F.typeCall_reversed_1 _) (LQ h0 h1 hr ⟨rfl,rfl⟩) ?_
 rintro obj s₁ ⟨rfl,rfl⟩
 exact⟨⟨_,z1f _ rfl,rfl⟩,h⟩
end
section
variable {X:Cx} {tg a:Expr} {p pos p2 pos2:Pos} {fa:ao->R (List D)}
noncomputable def QX:List D->R (List D)
 |[.int j]=>if 0<=j/\j<=1000 then .ok (rN (j - 1) j.toNat) else .bad
 |_=> .bad
set_option tactic.hygienic true in
theorem ae1 (hg:Gl X "reversed") (hm:X.mg "reversed" =none) (hg2:Gl X "range") (hm2:X.mg "range" =none) (ha:DA X [a] fa) (hs:autoParam (starEach [a] X.env=[(false,eval a X.env)]) aN._auto_1)
  (he:autoParam (starEach [.Call (.Name "range" p2) [a] [] pos2] X.env=(false,eval (.Call (.Name "range" p2) [a] [] pos2) X.env)::starEach [] X.env) aN._auto_1) (hpl:autoParam ((backTo pos (starEach [] X.env)).any (·.1)=false) aN._auto_1):
  DI X tg (.Call (.Name "reversed" p) [.Call (.Name "range" p2) [a] [] pos2] [] pos) (λ ρ=>(fa ρ).bind QX):=by
 intro pins s σ H R I h;have A:=pa_cons (agC (p:=p2) (pos:=pos2) hg2 hm2 ha hs) pa_nil he;obtain⟨ρ,O,jn,h⟩:=h;have key:tCons (agB X.K (tG X (rDs X) fa)) tNil σ H (λ vs H1=>∃q j,vs=[.ref q]/\H1 q=some (.rng 0 j)/\0<=j/\j<=1000/\R (Its (j - 1) j.toNat (-1)) H1):=by
  refine go jn h λ ds vs H1 e1 s1 r1 j1 h1=>?_;unfold QX at h1;split at h1
  ·rename_i j;by_cases hh:0<=j/\j<=1000
   ·rw[if_pos hh] at h1;obtain⟨v,rfl,w⟩:=r1.one;exact⟨j,by rw[w.int],hh.1,hh.2,λ q hq=>⟨q,j,rfl,upd_same,hh.1,hh.2,h1 _ _ (Same.upd hq) (YR.step _ _)⟩⟩
   ·rw[if_neg hh] at h1;exact h1.elim
  ·exact h1.elim
 refine Call_ (ld_blt I hg hm boot_reversed (PyProof.Rows.callWith_type1 (thn (A pos pins s σ H _ I key) λ us s1 ⟨vs,H1,I1,r1,q1⟩=>?_) he hpl));obtain⟨q,j,e,hq,h0,h1,q⟩:=q1;subst e;cases r1 with
 | cons r rr=>
  cases rr;cases r;obtain⟨t,u,v,hr⟩:=I1.hok _ _ hq;refine LR h0 h1 hr ?_;have hit:IsRangeIter (s1.heap.push {cls:= .type "range_iterator",data:= .fields #[rawInt (j - 1),rawInt j,rawInt (-1)]}) s1.heap.objs.size (j - 1) j (-1):=z1f _ rfl;refine wpAny_pyIter_rangeiter (s:={s1 with heap:=s1.heap.push {cls:= .type "range_iterator",data:= .fields #[rawInt (j - 1),rawInt j,rawInt (-1)]}}) hit ?_;refine⟨s1.heap.objs.size,[s1.heap.objs.size],_,_,H1,rfl,I1.kept (t':=s1.toks) λ b o e=>z1a _ e,abj _ (j - 1) j.toNat (-1),?_,λ b hb=>?_,q⟩
  ·show IsRangeIter _ _ (j - 1+((0:Nat):Int)*(-1)) (((j.toNat:Nat):Int) - ((0:Nat):Int)) (-1);rw[show j - 1+((0:Nat):Int)*(-1)=j - 1 by simp,show ((j.toNat:Nat):Int) - ((0:Nat):Int)=j by exact ajo h0];exact hit
  ·have e:b=s1.heap.objs.size:=by simpa using hb
   subst e;exact I1.fpOk (z0g _) (I1.hok.fresh (z0g _))
end
end Pu
namespace Pu
open PySem PySem.Spec PySem.W L2
open PyProof.Rows hiding St
section
variable {prog:Program} {w:World} {A:Around} {E:Value->Shared->Prop} {s:Shared}
end
section
variable {X:Cx}
end
section
variable {prog:Program} {w:World} {A:Around} {E:Value->Shared->Prop} {s:Shared}
end
section
variable {X:Cx}
end
end Pu
namespace Pu
open PySem PySem.Spec L2
open PyProof.Rows hiding St
section
variable {K:PySem.W.Frag} {O:Addr->Prop} {H:Hp}
end
section
variable {X:Cx}
end
section
variable {X:Cx} {e:Expr} {f:ao->R D} {pos:Pos}
end
section
variable {X:Cx} {e:Expr} {f:ao->R D}
end
theorem Gm:∀{xs:List V} {us:List Value},xs.length=us.length->(∀(i:Nat) x u,xs[i]?=some x->us[i]?=some u->RelV x u)->Vals xs us
 |[],[],_,_=> .nil
 |[],_::_,h,_=>by simp at h
 |_::_,[],h,_=>by simp at h
 |x::xs,u::us,h,p=> .cons (p 0 x u rfl rfl) (Gm (by simpa using h) λ i d' v' e1 e2=>p (i+1) d' v' (by simpa using e1) (by simpa using e2))
theorem abk {lo:Int} {acc:Array Value} {n:Nat} (h:ItemsOf (λ i v=>∃t,v= .int (lo+i*1) t) acc n):Vals ((List.range n).map λ (i:Nat)=>V.int (lo+(i:Int))) acc.toList:=by
 refine Gm (by simp[h.1]) λ i x u e1 e2=>?_;rw[Array.getElem?_toList] at e2;obtain⟨t,rfl⟩:=h.2 i u e2;rw[z2b] at e1;cases q:(List.range n)[i]? with
 |none=>rw[q] at e1;cases e1
 | some k=>
  rw[q] at e1;have hk:i < n/\i=k:=by simpa[List.getElem?_range] using (z1b q)
  obtain⟨_,rfl⟩:=hk;cases e1;exact⟨t,by rw[Int.mul_one]⟩
section
variable {X:Cx} {a b:Expr} {p pos p2 pos2:Pos} {fa:ao->R (List D)} {ta:TA}
noncomputable def ail (ta:TA):TE:=λ σ H Q=>ta σ H λ vs H1=>∃i j:Int,vs=[.int i,.int j]/\∀q,H1 q=none->Q (.ref q) (upd H1 q (.rng i j))
theorem ae2 (hg:Gl X "range") (hm:X.mg "range" =none) (ha:PA X [a,b] ta) (hs:autoParam (starEach [a,b] X.env=[(false,eval a X.env),(false,eval b X.env)]) aN._auto_1) (hs2:autoParam (starEach [b] X.env=[(false,eval b X.env)]) aN._auto_1):PE X (.Call (.Name "range" p) [a,b] [] pos) (ail ta):=by
 intro pins s σ H Q I h;refine Call_ (ld_blt I hg hm boot_range (PyProof.Rows.callWith_type1 (thn (ha pos pins s σ H _ I h) λ us s1 ⟨vs,H1,I1,r1,q1⟩=>?_) (by rw[hs,hs2]) (by rw[hs2];rfl)));obtain⟨i,j,e,q⟩:=q1;subst e;cases r1 with
 | cons r rr=>
  cases rr with
  | cons r' rr=>
   cases rr;obtain⟨t,rfl⟩:=r;obtain⟨t',rfl⟩:=r';refine call_range_2 ?_;exact⟨.ref s1.heap.objs.size,upd H1 s1.heap.objs.size (.rng i j),I1.laid (λ b o e=>z1a _ e) (z0g _) ⟨_,_,_,z1f _ rfl⟩,rfl,q _ (I1.hok.fresh (z0g _))⟩
theorem abl (hc:X.calm=true):CallR X (.type "list") (λ xs H Q=>∃(b:Addr) (i j:Int),xs=[.ref b]/\H b=some (.rng i j)/\-1000<=i/\i<=1000/\-1000<=j/\j<=1000/\∀B,H B=none->Q (.ref B) (upd H B (.lst ((List.range (j - i).toNat).map λ (k:Nat)=>V.int (i+(k:Int)))))):=by
 intro pins s σ H xs us Q I r h;obtain⟨b,i,j,rfl,hb,h0,h1,h2,h3,q⟩:=h;obtain⟨u,rfl,rx⟩:=vals1 r;cases rx;obtain⟨t,u,v,hr⟩:=(show ObjOk X.prog X.w H s.heap b (.rng i j) from I.hok b _ hb);have hn:Builtin.Range.rangeSize i j 1=(((j - i).toNat:Nat):Int):=by rw[rangeSize_one];split <;> (first |exact ahF (by assumption) |exact ahG (by assumption))
 refine call_list_range (I.ok.hd hc) hr (small_one (by exact ad6 h0) (by exact ad5 h1) (by exact ad6 h2) (by exact ad5 h3)) hn (by exact ahH h0 h3) λ h' tk acc c' hk he hacc=>?_;have hf:H s.heap.objs.size=none:=I.hok.fresh (z0g _);refine⟨.ref s.heap.objs.size,_,I.laid (t':=tk) (o:= .lst ((List.range (j - i).toNat).map λ (k:Nat)=>V.int (i+(k:Int)))) hk (z0g _) ⟨?_,acc.toList,c',abk hacc,by simpa using he⟩,rfl,q _ hf⟩;rw[z1g,z2d];exact z0b (by exact ahI h0 h3) (z0e mL)
theorem YQ {K:PySem.W.Frag} {O:Addr->Prop} {H:Hp} {lo:Int} {n:Nat}:aK K O H (upto lo n) ((List.range n).map λ (i:Nat)=>V.int (lo+(i:Int))):=by
 unfold upto
 generalize List.range n=l
 induction l with
 |nil=>exact .nil
 |cons x l ih=>exact .cons (bN _) ih
noncomputable def ajL:List D->R D
 |[.int j]=>if 0<=j/\j<=1000 then .ok (.lst (upto 0 j.toNat)) else .bad
 |_=> .bad
noncomputable def YS:List D->R D
 |[.int i,.int j]=>if -1000<=i/\i<=1000/\-1000<=j/\j<=1000 then .ok (.lst (upto i (j - i).toNat)) else .bad
 |_=> .bad
set_option tactic.hygienic true in
theorem adv (hc:X.calm=true) (hg:Gl X "list") (hm:X.mg "list" =none) (hg2:Gl X "range") (hm2:X.mg "range" =none) (ha:DA X [a,b] fa) (hs2:autoParam (starEach [a,b] X.env=[(false,eval a X.env),(false,eval b X.env)]) aN._auto_1) (hs3:autoParam (starEach [b] X.env=[(false,eval b X.env)]) aN._auto_1)
  (he:autoParam (starEach [.Call (.Name "range" p) [a,b] [] pos] X.env=(false,eval (.Call (.Name "range" p) [a,b] [] pos) X.env)::starEach [] X.env) aN._auto_1) (hpl:autoParam ((backTo pos2 (starEach [] X.env)).any (·.1)=false) aN._auto_1):
  DE X (.Call (.Name "list" p2) [.Call (.Name "range" p) [a,b] [] pos] [] pos2) (aF YS fa):=by
 refine PE.imp (pe_callTy (abl hc) hg hm boot_list (pa_cons (ae2 hg2 hm2 ha hs2 hs3) pa_nil he) (by decide) (by decide) he hpl) λ σ H Q q=>?_;obtain⟨ρ,O,j,q⟩:=q;refine go j q λ ds vs H1 e1 s1 r1 j1 h1=>?_;unfold YS at h1;split at h1
 ·rename_i i k;obtain⟨x,y,rfl,rx,ry⟩:=r1.two;by_cases hi: -1000<=i/\i<=1000/\-1000<=k/\k<=1000
  ·rw[if_pos hi] at h1;refine⟨i,k,by rw[rx.int,ry.int],λ q hq=>⟨q,i,k,rfl,upd_same,hi.1,hi.2.1,hi.2.2.1,hi.2.2.2,λ B hB=>?_⟩⟩;have s2:Same H1 (upd H1 q (.rng i k)):=Same.upd hq;exact h1 _ _ (s2.trans (Same.upd hB)) (Rep.Fo hB ((j1.same s2).BW hB) YQ)
  ·rw[if_neg hi] at h1;exact h1.elim
 ·exact h1.elim
end
end Pu
namespace Pu
open PySem PySem.Spec PySem.W L2
open PyProof.Rows hiding St
section
variable {prog:Program} {w:World} {A:Around} {s:Shared}
end
section
variable {X:Cx}
end
end Pu
namespace Pu
open PySem PySem.Spec L2
open PyProof.Rows hiding St
section
variable {X:Cx}
noncomputable def reF (K:PySem.W.Frag):Hp->(Addr->Prop)->Hp->D->V->Prop:=λ H0 O H' d v=>∃a ys ds,d= .lst ds/\v= .ref a/\H0 a=none/\K.lookup a=none/\H' a=some (.lst ys)/\aK K (λ b=>O b\/b=a) H' ds ys
noncomputable abbrev DEF (X:Cx) (e:Expr) (f:ao->R D):Prop:=DEr X (reF X.K) e f
theorem QZ {Re:Hp->(Addr->Prop)->Hp->D->V->Prop} {Ac:Hp->Addr->(Addr->Prop)->Hp->List D->List V->Prop} (AC:AcR X.K Re Ac) {tg iter elt:Expr} {ifs:List Expr} {scope:Scope} {pos:Pos} {fi:ao->R (List D)} {gt:D->ao->R ao} {ft:ao->R Bool} {fe:ao->R D} (ts:List Str) (caps:List Nat)
  (hc:X.calm=true) (hb:wH X.env.scope scope ts X.N=true) (hcap:(dF scope).map (λ x=>mU x X.N)=caps)
  (hi:DI X tg iter fi) (hk:m5 ts.length gt) (hg:∀C s H ex,(bJ X scope ts C s H ex).N.Nodup->DG (bJ X scope ts C s H ex) tg gt) (ht:∀C s H ex,Gj (bJ X scope ts C s H ex) ifs ft) (he:∀C s H ex,DEr (bJ X scope ts C s H ex) Re elt fe)
  (hs:autoParam (∀x,foldedSetIterable iter X.env x=pure x) yN._auto_1):
  PE X (.ListComp elt [⟨tg,iter,ifs,0⟩] scope pos) (λ σ H Q=>∃ρ O,In X O H ρ σ/\good X (Xi X H Ac) O (aV ts.length caps fi gt ft fe ρ) σ H Q):=by
 intro pins s σ H Q I h;obtain⟨ρ,O,j,h⟩:=h;rw[eval_ListComp];refine Ck (Q:=Q) (Qr:=EP X pins σ Q) AC ts caps hc hb hcap hi hk hg ht he hs I j ?_ h;intro v H' s5 C m f acc hq I5 hns fC rel;exact⟨m,hns,λ h' sb=>⟨v,H',I5.fp fC sb,rel,hq⟩⟩
theorem adw {tg iter elt:Expr} {ifs:List Expr} {scope:Scope} {pos:Pos} {fi:ao->R (List D)} {gt:D->ao->R ao} {ft:ao->R Bool} {fe:ao->R D} (ts:List Str) (caps:List Nat)
  (hc:X.calm=true) (hb:wH X.env.scope scope ts X.N=true) (hcap:(dF scope).map (λ x=>mU x X.N)=caps)
  (hi:DI X tg iter fi) (hk:m5 ts.length gt) (hg:∀C s H ex,(bJ X scope ts C s H ex).N.Nodup->DG (bJ X scope ts C s H ex) tg gt) (ht:∀C s H ex,Gj (bJ X scope ts C s H ex) ifs ft) (he:∀C s H ex,DE (bJ X scope ts C s H ex) elt fe)
  (hs:autoParam (∀x,foldedSetIterable iter X.env x=pure x) yN._auto_1):DEF X (.ListComp elt [⟨tg,iter,ifs,0⟩] scope pos) (aV ts.length caps fi gt ft fe):=by
 refine PE.imp (QZ QK ts caps hc hb hcap hi hk hg ht (λ C s H ex=>(he C s H ex).toP) hs) λ σ H Q h=>?_;obtain⟨ρ,O,j,h⟩:=h;exact⟨ρ,O,j,good.rel (λ d v H' sm ⟨Hs,a,ys,ds,e1,e2,s1,n1,k1,s2,e3,r⟩=>⟨a,ys,ds,e1,e2,Same.free s1 n1,k1,e3,r⟩) h⟩
theorem At.agJ {H0 H H':Hp} {O0 O:Addr->Prop} {ρ:ao} {σ:St} (j:At X H0 O0 O H ρ σ) {i:Nat} (hi:i < X.N.length) {a:Addr} {ys:List V} {ds:List D} (sm:Same H H') (hp:H a=none) (hk:X.K.lookup a=none) (e:H' a=some (.lst ys)) (r:aK X.K (λ b=>O b\/b=a) H' ds ys):
  At X H0 O0 (λ b=>O b\/b=a) H' (ρ.set i (some (.lst ds))) (σ.set i (some (.ref a)))/\d7 X.K O H (λ b=>O b\/b=a) H':=by
 have s1:Same H (λ b=>if b=a then none else H' b):=λ b o q=>by
  show (if b=a then none else H' b)=_;rw[if_neg (ne_of_none q hp)];exact sm _ _ q
 have eu:upd (λ b=>if b=a then none else H' b) a (.lst ys)=H':=funext λ b=>by
  by_cases z:b=a
  ·rw[z,upd_same,e]
  ·rw[upd_ne z];exact if_neg z
 have h:=(j.grow s1).own hi (p:=a) (o:= .lst ys) (en:= .lst ds) (if_pos rfl) hk rfl (by rw[eu];exact⟨a,ys,rfl,.inr rfl,e,r⟩);rw[eu] at h;exact⟨h.1,(Same.cZ s1).trans h.2⟩
noncomputable def zV (f:ao->R D) (i:Nat):ao->So:=λ ρ=>jA (f ρ) ρ λ d=>match d with
 | .lst ds=> .nx (ρ.set i (some (.lst ds)))
 |_=> .bad
theorem abm (i:Nat) {x:Str} {e:Expr} {f:ao->R D} {pos pos':Pos} (hN:X.N.Nodup) (he:DEF X e f) (hi:autoParam (X.N[i]?=some x) aN._auto_1) (hx:autoParam (Loc X.env.scope x) lJ._auto_1) (hs:autoParam (swapsWith e (some (.Name x pos')) pos.line X.env=pure false) aN._auto_1)
  (hf:autoParam (X.fn x=true\/X.env.scope.names.lookup x=some .local) lK._auto_1):DS X (.Assign [.Name x pos'] e pos) (zV f i):=by
 refine PS.imp (ps_set hN hi hx he hs hf) λ σ H E h=>?_;obtain⟨H0,O0,O,ρ,j,h⟩:=h;refine⟨ρ,O,j.inn,?_⟩;unfold zV jA at h;cases e1:f ρ with
 |bad=>rw[e1] at h;exact h
 |err c=>rw[e1] at h;exact h σ H O j
 | ok d=>
  rw[e1] at h
  rintro v H' sm ⟨a,ys,ds,rfl,rfl,n1,k1,e3,r⟩
  obtain⟨j2,r2⟩:=j.agJ (z1b hi).1 sm n1 k1 e3 r;exact h _ _ _ j2 r2
theorem adx (i:Nat) {x:Str} {pos' cpos pos:Pos} {tg iter elt:Expr} {ifs:List Expr} {scope:Scope} {fi:ao->R (List D)} {gt:D->ao->R ao} {ft:ao->R Bool} {fe:ao->R D} (hN:X.N.Nodup) (ts:List Str) (caps:List Nat)
  (hc:X.calm=true) (hb:wH X.env.scope scope ts X.N=true) (hcap:(dF scope).map (λ x=>mU x X.N)=caps)
  (hi:DI X tg iter fi) (hk:m5 ts.length gt) (hg:∀C s H ex,(bJ X scope ts C s H ex).N.Nodup->DG (bJ X scope ts C s H ex) tg gt) (ht:∀C s H ex,Gj (bJ X scope ts C s H ex) ifs ft) (he:∀C s H ex,DE (bJ X scope ts C s H ex) elt fe)
  (hix:autoParam (X.N[i]?=some x) aN._auto_1) (hx:autoParam (Loc X.env.scope x) lJ._auto_1) (hf:autoParam (X.fn x=true\/X.env.scope.names.lookup x=some .local) lK._auto_1)
  (hsw:autoParam (swapsWith (.ListComp elt [⟨tg,iter,ifs,0⟩] scope cpos) (some (.Name x pos')) pos.line X.env=pure true) aN._auto_1)
  (hs:autoParam (∀x,foldedSetIterable iter X.env x=pure x) yN._auto_1):
  DS X (.Assign [.Name x pos'] (.ListComp elt [⟨tg,iter,ifs,0⟩] scope cpos) pos) (zV (aV ts.length caps fi gt ft fe) i):=by
 intro pins s σ H E I h;obtain⟨H0,O0,O,ρ,j,h⟩:=h;rw[exec_Assign_Name_used _ _ _ _ hsw];refine wpAny_bind (wpAny_standAt (wpAny_bind ?_));show wpAny _ _ (comprehension (.ListComp elt [⟨tg,iter,ifs,0⟩] scope cpos) scope X.env _ (newList []) false (eval iter X.env) (some (assign (.Name x pos') X.env)) >>=λ _u=>pure ()) _ _ _;unfold zV jA at h;refine wpAny_bind (Ck (Q:=λ v H'=>∃d,aV ts.length caps fi gt ft fe ρ= .ok d/\Same H H'/\Xi X H (acP X.K) O H' d v) (Qr:=λ _u s'=>wpAny (model X.prog X.w) X.A (pure ()) (λ _u s1=>wpAny (model X.prog X.w) X.A (pure Flow.next) (SP X pins E) X.xe s1) X.xe s') QK ts caps hc hb hcap hi hk hg ht (λ C s H ex=>(he C s H ex).toP) hs I j.inn ?_ ?_)
 ·intro v H' s5 C m f acc hq I5 hns fC rel;obtain⟨d,ed,sm,Hs,a,ys,ds,rfl,rfl,s1,n1,k1,s2,e3,r⟩:=hq;rw[ed] at h;have h:tX X H0 O0 O H E (.nx (ρ.set i (some (.lst ds)))):=h;obtain⟨o,es,ep,ho,hd,hr⟩:=hns;have Ip:=I5.pinned (fp:=[C]) (λ b hb=>by rw[List.mem_singleton.mp hb];exact fC) (λ b hb=>by rw[List.mem_singleton.mp hb];exact⟨o,ho,λ v z=>by rw[hd] at z;cases z⟩);show wpAny (model X.prog X.w) X.A (assign (.Name x pos') X.env acc) _ X.xe s5;refine wpAny_mono (pg_name hN hix hx hf _ s5 σ H' (.ref a) acc (λ σ' yV=>σ'=σ.set i (some (.ref a))/\yV=H') Ip rel ⟨rfl,rfl⟩) (λ _ s6 ⟨σ',yV,I',e1,e2⟩=>?_) λ _u _u z=>z;subst e1 e2;have pn:=(I'.pin (C,o) (List.mem_append_right _ (List.mem_append_right _ (mem_pinsAt (List.mem_singleton.mpr rfl) ho)))).1;obtain⟨j2,r2⟩:=j.agJ (z1b hix).1 sm (Same.free s1 n1) k1 e3 r;refine⟨m,⟨o,es,ep,pn,hd,hr⟩,λ h' sb=>wpAny_pure (wpAny_pure ⟨_,yV,(I'.unpinned).fp fC sb,h _ _ _ j2 r2⟩)⟩
 ·cases e1:aV ts.length caps fi gt ft fe ρ with
  |bad=>rw[e1] at h;exact h
  |err c=>rw[e1] at h;exact h σ H O j
  |ok d=>exact λ v H' sm r=>⟨d,rfl,sm,r⟩
theorem ady:OpR X (binaryOp .Add) (λ x y H Q=>∃a b xs ys,x= .ref a/\y= .ref b/\SqL X.K H a xs/\SqL X.K H b ys/\xs.length+ys.length<=sizeLine/\∀p,H p=none->X.K.lookup p=none->Q (.ref p) (upd H p (.lst (xs++ys)))):=by
 intro pins s σ H x y v u Q I rx ry h;obtain⟨a,b,xs,ys,rfl,rfl,ha,hb,hz,q⟩:=h;cases rx;cases ry;obtain⟨its,r1,p1,_⟩:=I.list ha;obtain⟨its2,r2,p2,_⟩:=I.list hb;obtain⟨⟨cls,dd,data,sl⟩,n,ho,hc,hdd,hd⟩:=id p1;obtain⟨⟨cls2,dd2,data2,sl2⟩,n2,ho2,hc2,ajr,hd2⟩:=id p2;simp only at hc hd hc2 hd2;subst hc hd hc2 hd2;refine concat_meets ⟨_,ho,rfl⟩ ⟨_,ho2,rfl⟩ noFill_list_add seq_list_add PySem.F.slot_list_add PySem.F.entry_list_add (PySem.F.args_list_add_2 _ _)
   (list_addW a b _ _ n n2 dd dd2 sl sl2 (by rw[z1c,z1c,<-r1.length,<-r2.length];exact hz)) ⟨ho,ho2,?_⟩
 have ea:its.toArray++its2.toArray=(its++its2).toArray:=by simp
 rw[ea];exact⟨.ref _,_,I.lnew (t':=s.toks) (r1.append r2) (by rw[z1d];assumption),rfl,q _ I.fresh (Inv.YC I)⟩
theorem adz:OpR X (binaryOp .Mult) (λ x y H Q=>∃a k xs,x= .ref a/\y= .int k/\SqL X.K H a xs/\1<=k/\k < 2 ^ 63/\xs.length*k.toNat<=1000000/\∀p,H p=none->X.K.lookup p=none->Q (.ref p) (upd H p (.lst (List.replicate k.toNat xs).flatten))):=by
 intro pins s σ H x y v u Q I rx ry h;obtain⟨a,k,xs,rfl,rfl,hq,h1,h2,hz,q⟩:=h;cases rx;obtain⟨t,rfl⟩:=ry;obtain⟨its,r,p1,_⟩:=I.list hq;obtain⟨⟨cls,dd,data,sl⟩,ho,hc,n,hd⟩:=id p1.isList;simp only at hc hd;subst hc hd;have hlen:=r.length;have hz':its.toArray.size*k.toNat<=1000000:=by rw[z1c,<-hlen];exact hz
 have hz2:its.length*k.toNat<=1000000:=by rw[<-hlen];exact hz
 refine wpAny_binaryOp_repeat_ref (T:= "list") (U:= "int") (by decide) ⟨_,ho,rfl⟩ (λ s'=>typeIs_int s' k t) noFill_list_mul F.fills_int_mul F.slot_int_rmul repeat_list F.slot_int_index.lookup
  (call_meets F.slot_int_rmul (typeIs_int s k t) F.entry_int_rmul (F.args_int_rmul_2 _ _) (lm_int_rmul_list_any k t a its.toArray n dd sl) ⟨ho,rfl,⟨_,ho,rfl⟩,?_⟩)
 refine call_meets F.slot_list_mul ⟨_,ho,rfl⟩ F.entry_list_mul (F.args_list_mul_2 _ _) (lm_list_mul_any a its.toArray n dd sl k t (by simp[Builtin.List.listFitsIndex];exact ac1 h1 h2) (by exact agl hz') (by simp[Builtin.List.listTooLong,sizeLine];exact agk hz2)) ⟨ho,?_⟩;rw[listMul_foldl_if];refine⟨.ref s.heap.objs.size,_,I.laid (t':=s.toks) (o:= .lst (List.replicate k.toNat xs).flatten) (λ b ob z=>z1a _ z) (z0g _) ?_,rfl,q _ (I.hok.fresh (z0g _)) (Inv.YC I)⟩;exact⟨by rw[len_rep,Nat.mul_comm];exact z0b hz dh,_,_,r.rep k.toNat,z1f _ rfl⟩
theorem aK.agK {K:PySem.W.Frag} {O:Addr->Prop} {H:Hp} {p:Addr} {o:HO} {ds:List D} {vs:List V} (h:aK K O H ds vs) (hp:H p=none) (hk:K.lookup p=none):aK K (λ b=>O b\/b=p) (upd H p o) ds vs:=
 h.go ⟨(Same.cZ (K:=K) (O:=O) (Same.upd hp)).ext,λ a z=>z.elim .inl λ e=> .inr (by rw[e];exact⟨hp,hk⟩),(Same.cZ (K:=K) (O:=O) (Same.upd hp)).dom⟩
noncomputable def adA:D->D->R D
 | .lst xs,.lst ys=>if xs.length+ys.length<=1000000 then .ok (.lst (xs++ys)) else .bad
 |_,_=> .bad
noncomputable def adB:D->D->R D
 | .lst ds,.int k=>if ds≠[]/\1<=k/\k < 2 ^ 63/\ds.length*k.toNat<=1000000 then .ok (.lst (List.replicate k.toNat ds).flatten) else .bad
 |_,_=> .bad
set_option tactic.hygienic true in
theorem ae3 {a b:Expr} {f g:ao->R D} {pos:Pos} (ha:DE X a f) (hb:DE X b g):DEF X (.BinOp a .Add b pos) (bin f g adA):=by
 refine PE.imp (pe_op ady ha hb) λ σ H Q h=>?_;obtain⟨ρ,O,j,h⟩:=h;refine go j h λ dx x H1 e1 s1 r1 j1 h1=>go j1 h1 λ dy y H2 e2 s2 r2 j2 h2=>?_;unfold adA at h2;split at h2
 ·rename_i xs ys;by_cases hc:xs.length+ys.length<=1000000
  ·rw[if_pos hc] at h2;obtain⟨a,us,rfl,ha,_,q1⟩:=(r1.same s2).lst;obtain⟨b,ws,rfl,hb,_,q2⟩:=r2.lst;exact⟨a,b,us,ws,rfl,rfl,ha,hb,by rw[<-q1.length,<-q2.length];exact z0b hc dh,λ p hp hk=>h2 _ _ (Same.upd hp) ⟨p,_,_,rfl,rfl,Same.free (s1.trans s2) hp,hk,upd_same,(q1.append q2).agK hp hk⟩⟩
  ·rw[if_neg hc] at h2;exact h2.elim
 ·exact h2.elim
set_option tactic.hygienic true in
theorem ae4 {a b:Expr} {f g:ao->R D} {pos:Pos} (ha:DE X a f) (hb:DE X b g):DEF X (.BinOp a .Mult b pos) (bin f g adB):=by
 refine PE.imp (pe_op adz ha hb) λ σ H Q h=>?_;obtain⟨ρ,O,j,h⟩:=h;refine go j h λ dx x H1 e1 s1 r1 j1 h1=>go j1 h1 λ dy y H2 e2 s2 r2 j2 h2=>?_;unfold adB at h2;split at h2
 ·rename_i ds k;by_cases hc:ds≠[]/\1<=k/\k < 2 ^ 63/\ds.length*k.toNat<=1000000
  ·rw[if_pos hc] at h2;obtain⟨a,us,rfl,ha,_,q1⟩:=(r1.same s2).lst;obtain⟨h0,h1',h2',h3⟩:=hc;exact⟨a,k,us,rfl,r2.int,ha,h1',h2',by rw[<-q1.length];exact h3,λ p hp hk=>h2 _ _ (Same.upd hp) ⟨p,_,_,rfl,rfl,Same.free (s1.trans s2) hp,hk,upd_same,(zT q1 _).agK hp hk⟩⟩
  ·rw[if_neg hc] at h2;exact h2.elim
 ·exact h2.elim
noncomputable def Cr (i:Nat) (fk fv:ao->R D):ao->So:=λ ρ=>jA (yS (fv ρ)) ρ λ d=>match ρ[i]? with
 | some (some (.lst ds))=>jA (yS (fk ρ)) ρ λ k=>match k with
  | .int k=>if 0<=k/\k < ds.length then .nx (ρ.set i (some (.lst (ds.set k.toNat d)))) else .bad
  |_=> .bad
 |_=> .bad
theorem aK.set {K:PySem.W.Frag} {O:Addr->Prop} {H:Hp} {d:D} {v:V} (rv:Rep K O H d v):∀{ds:List D} {vs:List V} (k:Nat),aK K O H ds vs->aK K O H (ds.set k d) (vs.set k v)
 |[],vs,_,h=>by rw[h.nil_inv];exact .nil
 | x::ds,vs,k,h=>by
  obtain⟨w,r,rfl,h1,h2⟩:=h.cons_inv;cases k with
  |zero=>exact .cons rv h2
  |succ k=>exact .cons h1 (aK.set rv k h2)
set_option tactic.hygienic true in
theorem Xo (i:Nat) {x:Str} {ek ev:Expr} {fk fv:ao->R D} {px pos' pos:Pos} (hk:DE X ek fk) (hv:DE X ev fv) (hN:autoParam (X.N[i]?=some x) aN._auto_1) (hvs:autoParam (Vis X.env.scope x) su._auto_1)
  (hd:autoParam ((x ==("__debug__" :Str))=false) cD._auto_1) (hcd:autoParam ((x ==("__classdict__" :Str))=false) cD._auto_1)
  (ha:autoParam (∀v,assign (.Subscript (.Name x px) ek pos') X.env v=(do
   let ov <-holding [v] (eval (.Name x px) X.env)
   let iv <-holding [v,ov] (eval ek X.env)
   standAt pos'
   holding [v,ov,iv] (setItem ov iv v)
   release [v,ov,iv] [])) yN._auto_1)
  (hs:autoParam (swapsWithSole [.Subscript (.Name x px) ek pos'] ev pos.line X.env=pure false) aN._auto_1) (hw:autoParam (swappedStores [.Subscript (.Name x px) ek pos'] ev X.env=pure none) aN._auto_1)
  (h1:autoParam ((assignEach [.Subscript (.Name x px) ek pos'] X.env).map (·.2)=[assign (.Subscript (.Name x px) ek pos') X.env]) aN._auto_1):
  DS X (.Assign [.Subscript (.Name x px) ek pos'] ev pos) (Cr i fk fv):=by
 refine PS.imp (ps_asg hv (pg_sub (pe_var hN hvs hd hcd) hk set_list ha) hs hw h1) λ σ H E h=>?_;obtain⟨H0,O0,O,ρ,j,h⟩:=h;unfold Cr at h;refine⟨ρ,O,j.inn,?_⟩;cases q2:fv ρ with
 |bad=>rw[q2] at h;exact h.elim
 |err c=>rw[q2] at h;exact h.elim
 | ok d =>
  rw[q2] at h;intro v H1 s1 rv;have h:tX X H0 O0 O H E (match ρ[i]? with
   | some (some (.lst ds))=>jA (yS (fk ρ)) ρ λ k=>match k with
    | .int k=>if 0<=k/\k < ds.length then .nx (ρ.set i (some (.lst (ds.set k.toNat d)))) else .bad
    |_=> .bad
   |_=> .bad):=h
  split at h
  ·rename_i ds q;obtain⟨w,hw1,a,xs,rfl,hO,hH,rs⟩:=j.inn.env.get i _ q;refine⟨.ref a,hw1,?_⟩;have j1:=j.grow s1;refine⟨ρ,O,j1.inn,?_⟩;cases q1:fk ρ with
   |bad=>rw[q1] at h;exact h.elim
   |err c=>rw[q1] at h;exact h.elim
   | ok k=>
    rw[q1] at h;intro y H2 s2 ry;cases k with
    | int k=>
     have h:tX X H0 O0 O H E (if 0<=k/\k < ds.length then .nx (ρ.set i (some (.lst (ds.set k.toNat d)))) else .bad):=h;by_cases hc:0<=k/\k < ds.length
     ·rw[if_pos hc] at h;have j2:=j1.grow s2;have hH2:=s2 _ _ (s1 _ _ hH);have M8:=(rs.same s1).same s2;have hlen:=M8.length;refine⟨a,xs,k,k.toNat,rfl,ry.int,hH2,by unfold ixN;rw[if_pos hc.1,if_pos (by omega)],?_⟩;obtain⟨j3,r3⟩:=j2.chg (o:= .lst (xs.set k.toNat v)) (en:= .lst (ds.set k.toNat d)) q rfl hw1 hO hH2 trivial rfl λ r=>⟨a,_,rfl,hO,upd_same,(aK.set (rv.same s2) k.toNat M8).go r⟩;exact h _ _ _ j3 ((Same.cZ (s1.trans s2)).trans r3)
     ·rw[if_neg hc] at h;exact h.elim
    |_=>exact h.elim
  ·exact h.elim
end
inductive dR (K:PySem.W.Frag) (O:Addr->Prop) (H:Hp):List Addr->List D->Prop
 |nil:dR K O H [] []
 |cons {r:Addr} {zs:List V} {es:List D} {rs:List Addr} {ds:List D}:H r=some (.lst zs)->aK K O H es zs->dR K O H rs ds->dR K O H (r::rs) (.lst es::ds)
section
variable {K:PySem.W.Frag} {O O':Addr->Prop} {H H':Hp} {rs:List Addr} {ds:List D}
theorem dR.same (s:Same H H') (h:dR K O H rs ds):dR K O H' rs ds:=by
 induction h with
 |nil=>exact .nil
 |cons e r _ ih=>exact .cons (s _ _ e) (r.same s) ih
theorem dR.fewer (w:∀a,O' a->O a) (h:dR K O H rs ds):dR K O' H rs ds:=by
 induction h with
 |nil=>exact .nil
 |cons e r _ ih=>exact .cons e (r.fewer w) ih
theorem dR.app {r:Addr} {zs:List V} {es:List D} (e:H r=some (.lst zs)) (q:aK K O H es zs) (h:dR K O H rs ds):dR K O H (rs++[r]) (ds++[.lst es]):=by
 induction h with
 |nil=>exact .cons e q .nil
 |cons e' r' _ ih=>exact .cons e' r' ih
theorem dR.len (h:dR K O H rs ds):rs.length=ds.length:=by
 induction h with
 |nil=>rfl
 |cons _ _ _ ih=>rw[List.length_cons,List.length_cons,ih]
theorem dR.go (rc:d7 K O H O' H') (st:∀r∈rs,∀zs,H r=some (.lst zs)->H' r=some (.lst zs)) (h:dR K O H rs ds):dR K O' H' rs ds:=by
 induction h with
 |nil=>exact .nil
 |cons e q _ ih=>exact .cons (st _ (List.mem_cons_self ..) _ e) (q.go rc) (ih λ r hr=>st r (z2f _ hr))
theorem dR.there (h:dR K O H rs ds):∀r∈rs,∃zs,H r=some (.lst zs):=by
 induction h with
 |nil=>exact λ r hr=>absurd hr (by simp)
 | cons e q _ ih=>
  intro r hr;rcases List.mem_cons.mp hr with z |z
  ·rw[z];exact⟨_,e⟩
  ·exact ih r z
theorem dR.reps (h:dR K O H rs ds) (n:∀r∈rs,¬O r):aK K O H ds (rs.map V.ref):=by
 induction h with
 |nil=>exact .nil
 |cons e q _ ih=>exact .cons (jN (SqL.of e) (n _ (List.mem_cons_self ..)) q) (ih λ r hr=>n r (z2f _ hr))
end
noncomputable def acN (K:PySem.W.Frag):Hp->Addr->(Addr->Prop)->Hp->List D->List V->Prop:=λ H2 a O H' ds ys=>
 ∃rs:List Addr,ys=rs.map V.ref/\rs.Nodup/\(∀r∈rs,H2 r=none/\K.lookup r=none/\r≠a)/\dR K (λ b=>O b\/b=a) H' rs ds
theorem agL {K:PySem.W.Frag}:AcR K (reF K) (acN K) where
 nil:=⟨[],rfl,.nil,λ _u h=>absurd h (by simp),.nil⟩
 same:=λ ⟨rs,e,nd,al,rr⟩ _ s=>⟨rs,e,nd,al,rr.same s⟩
 len:=λ ⟨rs,e,_,_,rr⟩=>by rw[e,z1g,rr.len]
 app :=by
  rintro H2 a O H7 H8 ds ys d v ⟨rs,e,nd,al,rr⟩ ha h7 s1 s2 ⟨r,zs,es,rfl,rfl,n7,nk,e8,q⟩ rc
  have hra:r≠a:=λ z=>by rw[z,h7] at n7;cases n7
  have hnr:r∉rs:=λ z=>by
   obtain⟨zs',e'⟩:=rr.there r z;rw[n7] at e';cases e'
  subst e;refine⟨rs++[r],by rw[List.map_append];rfl,?_,λ x hx=>?_,?_⟩
  ·refine List.nodup_append.mpr ⟨nd,List.nodup_cons.mpr ⟨by simp,.nil⟩,λ x hx y hy z=>?_⟩;rw[List.mem_singleton] at hy;subst hy;subst z;exact hnr hx
  ·rcases List.mem_append.mp hx with z |z
   ·exact al x z
   ·rw[List.mem_singleton.mp z];exact⟨Same.free s1 n7,nk,hra⟩
  ·refine ((rr.same s2).go rc λ x hx zs e=>?_).app ?_ ((q.fewer λ b z=> .inl z).go rc)
   ·rw[upd_ne (al x hx).2.2];exact e
   ·rw[upd_ne hra];exact e8
noncomputable def reN (K:PySem.W.Frag):Hp->(Addr->Prop)->Hp->D->V->Prop:=λ H0 O H' d v=>
 ∃(a:Addr) (rs:List Addr) (ds:List D),d= .lst ds/\v= .ref a/\H0 a=none/\K.lookup a=none/\H' a=some (.lst (rs.map V.ref))/\rs.Nodup/\(∀r∈rs,H0 r=none/\K.lookup r=none/\r≠a)/\dR K O H' rs ds
section
variable {X:Cx}
theorem adC {tg iter elt:Expr} {ifs:List Expr} {scope:Scope} {pos:Pos} {fi:ao->R (List D)} {gt:D->ao->R ao} {ft:ao->R Bool} {fe:ao->R D} (ts:List Str) (caps:List Nat)
  (hc:X.calm=true) (hb:wH X.env.scope scope ts X.N=true) (hcap:(dF scope).map (λ x=>mU x X.N)=caps)
  (hi:DI X tg iter fi) (hk:m5 ts.length gt) (hg:∀C s H ex,(bJ X scope ts C s H ex).N.Nodup->DG (bJ X scope ts C s H ex) tg gt) (ht:∀C s H ex,Gj (bJ X scope ts C s H ex) ifs ft) (he:∀C s H ex,DEF (bJ X scope ts C s H ex) elt fe)
  (hs:autoParam (∀x,foldedSetIterable iter X.env x=pure x) yN._auto_1):DEr X (reN X.K) (.ListComp elt [⟨tg,iter,ifs,0⟩] scope pos) (aV ts.length caps fi gt ft fe):=by
 refine PE.imp (QZ agL ts caps hc hb hcap hi hk hg ht he hs) λ σ H Q h=>?_;obtain⟨ρ,O,j,h⟩:=h;exact⟨ρ,O,j,good.rel (λ d v H' sm ⟨Hs,a,ys,ds,e1,e2,s1,n1,k1,s2,e3,rs,e4,nd,al,rr⟩=>⟨a,rs,ds,e1,e2,Same.free s1 n1,k1,by rw[e3,e4],nd,λ r hr=>⟨Same.free s1 (al r hr).1,(al r hr).2⟩,rr.fewer λ _u z=> .inl z⟩) h⟩
noncomputable def spN (K:PySem.W.Frag) (n:Nat) (F:List D->R D):Sp:=λ vs H Q _u=>∃O ds,aK K O H ds vs/\ds.length=n/\(∀a,O a->∃o,H a=some o)/\match F ds with
 | .ok d=>∀v H',Same H H'->reN K H O H' d v->Q v H'
 |_=>False
theorem Q0 {X:Cx} {N:List Str} {O:Addr->Prop} {H:Hp} {ds:List D} {vs:List V} {m:Nat} (hN:X.N=N) (r:aK X.K O H ds vs) (al:∀a,O a->∃o,H a=some o) (hm:N.length=ds.length+m):
  At X H O O H (ds.map (λ d=>some (.val d))++List.replicate m none) (L2.start N vs):=by
 have hst:L2.start N vs=vs.map some++List.replicate m none:=by
  unfold L2.start;rw[show N.length - vs.length=m by rw[<-r.length];exact ahJ hm]
 refine⟨Same.refl _,.refl,λ _u z=>z,⟨⟨λ i e q=>?_,λ i k e e' v _u hi _u oi=>?_⟩,al,?_,?_⟩,λ i e a q ho=>?_⟩
 ·obtain⟨v,h1,h2,_⟩:=nM r m i e q;exact⟨v,by rw[hst];exact h1,h2⟩
 ·obtain⟨_,_,_,h3⟩:=nM r m i e hi;rw[h3] at oi;cases oi
 ·rw[hst,z1d,z1g,List.length_replicate,<-r.length,hN];exact Eq.symm hm
 ·rw[z1d,z1g,List.length_replicate,hN];exact Eq.symm hm
 ·obtain⟨_,_,_,h3⟩:=nM r m i e q;rw[h3] at ho;cases ho
end
section
variable {P:Program} {w:World} {K:PySem.W.Frag} {mg:Str->Option Value} {base:Heap}
theorem fnN {x qual:Str} {st:Stmt} {f:Addr} {fd:FuncData} {N ps:List Str} {k n m:Nat} {g1:ao->So} {fe:ao->R D} (Fn:Fun K x qual st f fd) (S:FnScope N ps (defScope st)) (hn:ps.length=n) (hm:N.length=n+m)
  (hb:∀(cdv:Value) (A:Around) (outer:List PySem.Env) (s:Shared) (H:Hp) (E:XK),Room k (A.deeper (envOfC qual (defScope st) s.heap.objs.size f cdv))->PSs (cxOf CX0 P w K mg base N qual (defScope st) f cdv A outer s H E).nox (defBody st) (tSeq (tS (cxOf CX0 P w K mg base N qual (defScope st) f cdv A outer s H E).nox g1) (tRet (tGr (cxOf CX0 P w K mg base N qual (defScope st) f cdv A outer s H E).nox (reN K) fe))))
  (hg1:∀ρ d,g1 ρ≠.rt d):FnOk P w K mg base CX0 (k+1) f fd ps (spN K n (bY m (aP g1 (retS fe)))):=by
 refine Fn.ok S (λ vs H Q E h=>?_) (λ cdv A outer s H vs Q E hr h=>?_)
 ·obtain⟨O,ds,r,hl,_⟩:=h;rw[hn,<-hl,r.length]
 ·obtain⟨O,ds,r,hl,al,h⟩:=h;refine⟨_,hb cdv A outer s H E hr,H,O,O,ds.map (λ d=>some (.val d))++List.replicate m none,Q0 (X:=(cxOf CX0 P w K mg base N qual (defScope st) f cdv A outer s H E).nox) (N:=N) rfl r al (by omega),?_⟩;cases e:bY m (aP g1 (retS fe)) ds with
  |bad=>rw[e] at h;exact h.elim
  |err c=>rw[e] at h;exact h.elim
  | ok d=>
   rw[e] at h;unfold bY aP at e;cases e2:g1 (ds.map (λ d=>some (.val d))++List.replicate m none) with
   |bad=>rw[e2] at e;cases e
   |rt d'=>exact absurd e2 (hg1 _ _)
   |bk _=>rw[e2] at e;cases e
   |ct _=>rw[e2] at e;cases e
   |ex _ _=>rw[e2] at e;cases e
   | nx ρ1=>
    rw[e2] at e;intro σ' H' O' j' _u;refine⟨cG ρ1,Qm ρ1 σ' O',j'.inn.cG,?_⟩;have e:(match jA (fe (cG ρ1)) ρ1 .rt with
     | .rt d=>R.ok d
     | .nx _=> .ok .non
     | .ex c _=> .err c
     |_=> .bad)= .ok d:=e
    cases e3:fe (cG ρ1) with
    |bad=>rw[e3] at e;cases e
    |err c=>rw[e3] at e;cases e
    | ok d'=>
     rw[e3] at e;cases e
     rintro v yV sm ⟨a,rs,es,e4,e5,n1,k1,e6,nd,al',rr⟩
     exact h v yV (j'.same.trans sm) ⟨a,rs,es,e4,e5,Same.free j'.same n1,k1,e6,nd,λ r hr=>⟨Same.free j'.same (al' r hr).1,(al' r hr).2⟩,rr.fewer j'.agr⟩
noncomputable def Q5 (P:Program) (w:World) (K:PySem.W.Frag) (mg:Str->Option Value) (base:Heap) (k:Nat) (x:Str) (n:Nat) (F:List D->R D):Prop:=
 ∃f fd ps,FnOk P w K mg base CX0 k f fd ps (spN K n F)/\mg x=some (.ref f)/\PySem.W.keepIn K (.ref f)=true/\Binds K fd ps []
end
noncomputable def tk (rows:List (List Bool)):D:= .lst (rows.map λ r=> .lst (r.map D.bl))
noncomputable def il (zs:List Int):D:= .lst (zs.map D.int)
structure oU (H:Hp) (rs:List Addr) (rows:List (List Bool)):Prop where
 len:rs.length=rows.length
 at_:∀(i:Nat) r row,rs[i]?=some r->rows[i]?=some row->H r=some (.lst (row.map V.bl))
noncomputable def But (rs:List Addr) (H H':Hp):Prop:=∀b u,b∉rs->H b=some u->H' b=some u
theorem But.trans {rs:List Addr} {H H1 H2:Hp} (h:But rs H H1) (k:But rs H1 H2):But rs H H2:=λ b u n e=>k b u n (h b u n e)
theorem But.of {rs:List Addr} {H H1:Hp} (h:Same H H1):But rs H H1:=λ b u _u e=>h b u e
theorem oU.same {H H':Hp} {rs:List Addr} {rows:List (List Bool)} (h:oU H rs rows) (s:Same H H'):oU H' rs rows:=⟨h.len,λ i r row e1 e2=>s _ _ (h.at_ i r row e1 e2)⟩
theorem Xp {K:PySem.W.Frag} {O:Addr->Prop} {H:Hp}:∀(row:List Bool),aK K O H (row.map D.bl) (row.map V.bl)
 |[]=> .nil
 |b::row=> .cons (gQ b) (Xp row)
theorem Gn {K:PySem.W.Frag} {O:Addr->Prop} {H:Hp}:∀{row:List Bool} {vs:List V},aK K O H (row.map D.bl) vs->vs=row.map V.bl
 |[],vs,h=>h.nil_inv
 | b::row,vs,h=>by
  obtain⟨x,r,rfl,h1,h2⟩:=h.cons_inv;rw[h1.bl,Gn h2];rfl
theorem wK {K:PySem.W.Frag} {O:Addr->Prop} {H:Hp}:∀{zs:List Int} {vs:List V},aK K O H (zs.map D.int) vs->vs=zs.map V.int
 |[],vs,h=>h.nil_inv
 | b::row,vs,h=>by
  obtain⟨x,r,rfl,h1,h2⟩:=h.cons_inv;rw[h1.int,wK h2];rfl
theorem Ma {K:PySem.W.Frag} {O:Addr->Prop} {H:Hp}:∀(zs:List Int),aK K O H (zs.map D.int) (zs.map V.int)
 |[]=> .nil
 |b::row=> .cons (bN b) (Ma row)
theorem oU.reps {K:PySem.W.Frag} {O:Addr->Prop} {H:Hp}:∀{rs:List Addr} {rows:List (List Bool)},oU H rs rows->(∀r∈rs,¬O r)->aK K O H (rows.map λ r=>D.lst (r.map D.bl)) (rs.map V.ref)
 |[],[],_,_=> .nil
 |[],_::_,h,_=>by cases h.len
 |_::_,[],h,_=>by cases h.len
 | r ::rs,row::rows,h,n=> .cons (jN (SqL.of (h.at_ 0 r row rfl rfl)) (n r (List.mem_cons_self ..)) (Xp row))
     (oU.reps ⟨by simpa using h.len,λ i r row e1 e2=>h.at_ (i+1) r row e1 e2⟩ λ r hr=>n r (z2f _ hr))
structure yZ (X:Cx) (a:Addr) (rs:List Addr) (rows:List (List Bool)) (H:Hp) (ρ:ao) (σ:St):Prop where
 inn:In X (λ _u=>False) H ρ σ
 s0:σ[0]?=some (some (.ref a))
 r0:ρ[0]?=some (some (.val (tk rows)))
 r1:∃zs:List Int,zs≠[]/\ρ[1]?=some (some (.val (il zs)))
 rk:∀(k:Nat) e,2<=k->ρ[k]?=some (some e)->∃i,e= .val (.int i)
 ha:H a=some (.lst (rs.map V.ref))
 hr:oU H rs rows
 nd:rs.Nodup
 off:∀r∈rs,X.K.lookup r=none/\r≠a
 ne:∀row∈rows,row≠[]
noncomputable def sE (X:Cx) (a:Addr) (rs:List Addr) (g:ao->So):TS:=λ E σ H=>∃rows ρ ρ',yZ X a rs rows H ρ σ/\g ρ= .nx ρ'/\∀rows' σ' H',yZ X a rs rows' H' ρ' σ'->But rs H H'->E.nx σ' H'
section
variable {X:Cx} {a:Addr} {rs:List Addr} {rows:List (List Bool)} {H H':Hp} {ρ:ao} {σ:St} {st:Stmt} {rest:List Stmt} {g k:ao->So} {e:Expr} {f:ao->R D} {pos:Pos}
theorem yZ.same (c:yZ X a rs rows H ρ σ) (s:Same H H'):yZ X a rs rows H' ρ σ:=⟨c.inn.same s,c.s0,c.r0,c.r1,c.rk,s _ _ c.ha,c.hr.same s,c.nd,c.off,c.ne⟩
theorem yZ.adD (c:yZ X a rs rows H ρ σ) {i:Nat} (h2:2<=i) (hi:i < X.N.length) (n:Int):yZ X a rs rows H (ρ.set i (some (.val (.int n)))) (σ.set i (some (.int n))):=by
 refine⟨c.inn.set hi (bN n),?_,?_,?_,λ k e hk h=>?_,c.ha,c.hr,c.nd,c.off,c.ne⟩
 ·rw[z1e (by exact ad7 h2)];exact c.s0
 ·rw[z1e (by exact ad7 h2)];exact c.r0
 ·obtain⟨zs,z1,z2⟩:=c.r1;exact⟨zs,z1,by rw[z1e (by exact Nat.ne_of_gt h2)];exact z2⟩
 ·by_cases z:k=i
  ·subst z;rw[z2a (by rw[c.inn.ju];exact hi)] at h;cases h;exact⟨n,rfl⟩
  ·rw[z1e (Ne.symm z)] at h;exact c.rk k e hk h
theorem agM:PSs X [] (sE X a rs So.nx):=PSs.imp pss_nil λ σ H E h=>by
 obtain⟨rows,ρ,ρ',c,e,fin⟩:=h;cases e;exact fin rows σ H c λ _u _u _u z=>z
theorem Q6 (h:PS X st (sE X a rs g)):PSs X [st] (sE X a rs g):=pss_one h
theorem tu (h1:PS X st (sE X a rs g)) (h2:PSs X rest (sE X a rs k)):PSs X (st::rest) (sE X a rs (aP g k)):=by
 refine PSs.imp (pss_cons h1 h2) λ σ H E h=>?_;obtain⟨rows,ρ,ρ',c,e,fin⟩:=h;unfold aP at e;cases e1:g ρ with
 | nx ρ1=>
  rw[e1] at e;exact⟨rows,ρ,ρ1,c,e1,λ FQ σ1 H1 c1 b1=>⟨FQ,ρ1,ρ',c1,e,λ rows' σ' H' c' b'=>fin rows' σ' H' c' (b1.trans b')⟩⟩
 |_=>rw[e1] at e;cases e
noncomputable def zW (f:ao->R D) (i:Nat):ao->So:=λ ρ=>match f ρ with
 | .ok (.int n)=> .nx (ρ.set i (some (.val (.int n))))
 |_=> .bad
set_option tactic.hygienic true in
theorem Cu (i:Nat) {x:Str} {pos':Pos} (h2:2<=i) (hN:X.N.Nodup) (he:DE X e f) (hi:autoParam (X.N[i]?=some x) aN._auto_1) (hx:autoParam (Loc X.env.scope x) lJ._auto_1) (hs:autoParam (swapsWith e (some (.Name x pos')) pos.line X.env=pure false) aN._auto_1)
  (hf:autoParam (X.fn x=true\/X.env.scope.names.lookup x=some .local) lK._auto_1):PS X (.Assign [.Name x pos'] e pos) (sE X a rs (zW f i)):=by
 refine PS.imp (ps_set hN hi hx he hs hf) λ σ H E h=>?_;obtain⟨rows,ρ,ρ',c,q,fin⟩:=h;refine⟨ρ,_,c.inn,?_⟩;unfold zW at q;split at q
 ·rename_i n e1;cases q;rw[e1];intro v H' s r;rw[r.int];exact fin rows _ H' ((c.same s).adD h2 (z1b hi).1 n) (But.of s)
 ·cases q
noncomputable def Q7 (i k:Nat) (f g:ao->R D):ao->So:=λ ρ=>match f ρ,g ρ with
 | .ok (.int n),.ok (.int m)=> .nx ((ρ.set i (some (.val (.int n)))).set k (some (.val (.int m))))
 |_,_=> .bad
set_option tactic.hygienic true in
theorem agN (i k:Nat) {x y:Str} {b1 b2:Expr} {f g:ao->R D} {px py pt:Pos} {kt k2 pt2} (hi2:2<=i) (hk2:2<=k) (hc:X.calm=true) (hN:X.N.Nodup) (ha:DE X b1 f) (hb:DE X b2 g) (hi:autoParam (X.N[i]?=some x) aN._auto_1) (hk:autoParam (X.N[k]?=some y) aN._auto_1) (hik:autoParam (i≠k) cD._auto_1)
  (hx:autoParam (X.env.scope.names.lookup x=some .local) aN._auto_1) (hy:autoParam (X.env.scope.names.lookup y=some .local) aN._auto_1)
  (h1:autoParam (starEach [b1,b2] X.env=(false,eval b1 X.env)::starEach [b2] X.env) aN._auto_1) (h2:autoParam (starEach [b2] X.env=(false,eval b2 X.env)::starEach [] X.env) aN._auto_1)
  (hw:autoParam (swappedStores [.Tuple [.Name x px,.Name y py] kt pt] (.Tuple [b1,b2] k2 pt2) X.env=pure (some [x,y])) aN._auto_1)
  (hs:autoParam (swapsWithSole [.Tuple [.Name x px,.Name y py] kt pt] (.Tuple [b1,b2] k2 pt2) pos.line X.env=pure false) aN._auto_1):
  PS X (.Assign [.Tuple [.Name x px,.Name y py] kt pt] (.Tuple [b1,b2] k2 pt2) pos) (sE X a rs (Q7 i k f g)):=by
 refine PS.imp (ps_par hc hN hi hk hik hx hy (pa_cons ha (pa_cons hb pa_nil h2) h1) hw hs) λ σ H E h=>?_;obtain⟨rows,ρ,ρ',c,q,fin⟩:=h;refine⟨ρ,_,c.inn,?_⟩;unfold Q7 at q;split at q
 ·rename_i n m e1 e2;cases q;rw[e1];intro v H1 s1 r1;rw[r1.int];refine⟨ρ,_,c.inn.same s1,?_⟩;rw[e2];intro w H2 s2 r2;rw[r2.int];refine⟨.int n,.int m,rfl,?_⟩;exact fin rows _ H2 ((((c.same s1).same s2).adD hi2 (z1b hi).1 n).adD hk2 (z1b hk).1 m) (But.of (s1.trans s2))
 ·cases q
noncomputable def Q8 (p:ao->R Bool) (g k:ao->So):ao->So:=λ ρ=>match p ρ with
 | .ok true=>g ρ
 | .ok false=>k ρ
 |_=> .bad
set_option tactic.hygienic true in
theorem ain {c:Expr} {p:ao->R Bool} {b1 b2:List Stmt} (hc:DT X c p) (ha:PSs X b1 (sE X a rs g)) (hb:PSs X b2 (sE X a rs k)):PS X (.If c b1 b2 pos) (sE X a rs (Q8 p g k)):=by
 refine PS.imp (ps_if hc ha hb) λ σ H E h=>?_;obtain⟨rows,ρ,ρ',cc,q,fin⟩:=h;refine⟨ρ,_,cc.inn,?_⟩;unfold Q8 at q;split at q
 ·rename_i e1;rw[e1];intro b H1 s1 e2;have e2:true=b:=e2;subst e2;rw[if_pos rfl];exact⟨rows,ρ,ρ',cc.same s1,q,λ rows' σ' H' c' b'=>fin rows' σ' H' c' ((But.of s1).trans b')⟩
 ·rename_i e1;rw[e1];intro b H1 s1 e2;have e2:false=b:=e2;subst e2;rw[if_neg Bool.false_ne_true];exact⟨rows,ρ,ρ',cc.same s1,q,λ rows' σ' H' c' b'=>fin rows' σ' H' c' ((But.of s1).trans b')⟩
 ·cases q
noncomputable def Gp (p:ao->R Bool) (b:ao->So):Nat->ao->So
 |0,_=> .bad
 | n +1,ρ=>match p ρ with
  | .ok true=>match b ρ with
   | .nx ρ'=>Gp p b n ρ'
   |_=> .bad
  | .ok false=> .nx ρ
  |_=> .bad
theorem adE (n:Nat) {c:Expr} {p:ao->R Bool} {body:List Stmt} (hp:PassesOwn (model X.prog X.w) X.A X.env X.xe) (hc:DT X c p) (hb:PSs X body (sE X a rs g)):PS X (.While c body [] pos) (sE X a rs (Gp p g n)):=by
 refine PS.imp (ps_while hp hc hb) λ σ H E h=>?_;obtain⟨rows,ρ,ρ',cc,q,fin⟩:=h;refine⟨λ m σ1 H1=>∃FQ ρ1,yZ X a rs FQ H1 ρ1 σ1/\But rs H H1/\Gp p g m ρ1= .nx ρ',⟨n,rows,ρ,cc,λ _u _u _u z=>z,q⟩,?_⟩
 rintro m σ1 H1 ⟨FQ,ρ1,c1,b1,q1⟩
 refine⟨ρ1,_,c1.inn,?_⟩;cases m with
 |zero=>cases q1
 | succ m=>
  have q1:(match p ρ1 with
   | .ok true=>match g ρ1 with
    | .nx ρ'=>Gp p g m ρ'
    |_=> .bad
   | .ok false=> .nx ρ1
   |_=> .bad)= .nx ρ':=q1
  cases e1:p ρ1 with
  |bad=>rw[e1] at q1;cases q1
  |err c=>rw[e1] at q1;cases q1
  | ok t=>
   rw[e1] at q1;intro b H2 s2 e2;have e2:t=b:=e2;subst e2;cases t with
   | false=>
    cases q1;rw[if_neg Bool.false_ne_true];exact fin FQ σ1 H2 (c1.same s2) (b1.trans (But.of s2))
   | true=>
    rw[if_pos rfl];have q1:(match g ρ1 with
     | .nx ρ'=>Gp p g m ρ'
     |_=> .bad)= .nx ρ':=q1
    cases e3:g ρ1 with
    | nx ρ2=>
     rw[e3] at q1;refine⟨λ σ3 H3=>∃YT,yZ X a rs YT H3 ρ2 σ3/\But rs H H3,λ σ3 H3 ⟨YT,c3,b3⟩=>⟨m,Nat.lt_succ_self m,YT,ρ2,c3,b3,q1⟩,?_⟩;exact⟨FQ,ρ1,ρ2,c1.same s2,e3,λ rows' σ' H' c' b'=>⟨rows',c',(b1.trans (But.of s2)).trans b'⟩⟩
    |_=>rw[e3] at q1;cases q1
noncomputable def JC (iy ix:Nat) (fv:ao->R D):ao->So:=λ ρ=>match fv ρ,aU ρ 0,aU ρ iy,aU ρ ix with
 | .ok (.bl b),.ok (.lst rows),.ok (.int y),.ok (.int x)=>match rows[y.toNat]? with
  |some (.lst cs)=>if 0<=y/\0<=x/\x < cs.length then .nx (ρ.set 0 (some (.val (.lst (rows.set y.toNat (.lst (cs.set x.toNat (.bl b)))))))) else .bad
  |_=> .bad
 |_,_,_,_=> .bad
theorem abn {α:Type} {l:List α} (h:l.Nodup) {i j:Nat} {x:α} (hi:l[i]?=some x) (hj:l[j]?=some x):i=j:=by
 obtain⟨h1,e1⟩:=z1b hi;obtain⟨h2,e2⟩:=z1b hj;rcases Nat.lt_trichotomy i j with z |z |z
 ·exact absurd (e1.trans e2.symm) (List.pairwise_iff_getElem.mp h i j h1 h2 z)
 ·exact z
 ·exact absurd (e2.trans e1.symm) (List.pairwise_iff_getElem.mp h j i h2 h1 z)
theorem yZ.put (c:yZ X a rs rows H ρ σ) {y x:Nat} {row:List Bool} {r:Addr} {b:Bool} (hr:rs[y]?=some r) (hy:rows[y]?=some row):
  yZ X a rs (rows.set y (row.set x b)) (upd H r (.lst ((row.map V.bl).set x (.bl b)))) (ρ.set 0 (some (.val (tk (rows.set y (row.set x b)))))) σ/\But rs H (upd H r (.lst ((row.map V.bl).set x (.bl b)))):=by
 have hmr:r∈rs:=List.mem_of_getElem? hr;have hH:=c.hr.at_ y r row hr hy;have hne:row≠[]:=c.ne row (List.mem_of_getElem? hy);obtain⟨hk,hra⟩:=c.off r hmr;have hyl:y < rows.length:=(z1b hy).1;have h0l:0 < ρ.length:=(z1b c.r0).1;have bt:But rs H (upd H r (.lst ((row.map V.bl).set x (.bl b)))):=λ p u n e=>by
  rw[upd_ne λ z=>n (by rw[z];exact hmr)];exact e
 have hr':oU (upd H r (.lst ((row.map V.bl).set x (.bl b)))) rs (rows.set y (row.set x b)):=by
  refine⟨by rw[List.length_set];exact c.hr.len,λ i r' Q9 e1 e2=>?_⟩;by_cases z:i=y
  ·subst z;rw[hr] at e1;cases e1;rw[z2a hyl] at e2;cases e2;rw[upd_same,List.map_set]
  ·rw[z1e (Ne.symm z)] at e2;rw[upd_ne (λ w=>z (abn c.nd e1 (by rw[w];exact hr)))];exact c.hr.at_ i r' Q9 e1 e2
 have ha':(upd H r (.lst ((row.map V.bl).set x (.bl b)))) a=some (.lst (rs.map V.ref)):=by rw[upd_ne (Ne.symm hra)];exact c.ha
 refine⟨⟨⟨⟨λ k e h=>?_,λ i k e e' v hik hi hk' oi=>?_⟩,λ _u z=>z.elim,c.inn.len,by rw[List.length_set];exact c.inn.ju⟩,c.s0,z2a h0l,?_,λ k e hk2 h=>?_,ha',hr',c.nd,c.off,λ Q9 h=>?_⟩,bt⟩
 ·by_cases z:k=0
  ·subst z;rw[z2a h0l] at h;cases h;exact⟨_,c.s0,jN (SqL.of ha') (λ z=>z) (hr'.reps λ _u _u z=>z)⟩
  ·rw [z1e (Ne.symm z)] at h;by_cases z1:k=1
   ·subst z1;obtain⟨zs,zne,e1⟩:=c.r1;rw[e1] at h;cases h;obtain⟨v,h1,h2⟩:=c.inn.env.get 1 _ e1;refine⟨v,h1,?_⟩;obtain⟨p,us,rfl,hq,_,rr⟩:=Rep.lst h2;have eu:=wK rr;subst eu;have hpr:p≠r:=λ z=>by
     subst z;rcases hq with hq |⟨o,_,_,hq,_⟩
     ·rcases hq with hq |⟨o,hq⟩ <;> rw[hH] at hq
      ·have e2:=Option.some.inj hq;have e2:row.map V.bl=zs.map V.int:=by injection e2
       cases row with
       |nil=>exact hne rfl
       | cons b row=>
        cases zs with
        |nil=>cases e2
        |cons z zs=>cases e2
      ·cases hq
     ·rw[hk] at hq;cases hq
    refine jN ?_ (λ z=>z) (Ma zs);rcases hq with hq |hq
    ·rcases hq with hq |⟨o,hq⟩
     ·exact .inl (.inl (by rw[upd_ne hpr];exact hq))
     ·exact .inl (.inr ⟨o,by rw[upd_ne hpr];exact hq⟩)
    ·exact .inr hq
   ·obtain⟨i,rfl⟩:=c.rk k e (by exact ad8 z z1) h;obtain⟨v,h1,h2⟩:=c.inn.env.get k _ h;have h2:Rep X.K (λ _u=>False) H (.int i) v:=h2;refine⟨v,h1,?_⟩;show Rep X.K (λ _u=>False) (upd H r (.lst ((row.map V.bl).set x (.bl b)))) (.int i) v;rw[h2.int];exact bN i
 ·have vo:∀{m:Nat} {x:Ent},(ρ.set 0 (some (.val (tk (rows.set y (row.set ‹Nat› b))))))[m]?=some (some x)->True:=λ _u=>trivial;by_cases z:i=0
  ·subst z;rw[z2a h0l] at hi;cases hi;cases oi
  ·rw[z1e (Ne.symm z)] at hi;by_cases z1:i=1
   ·subst z1;obtain⟨zs,_,e1⟩:=c.r1;rw[e1] at hi;cases hi;cases oi
   ·obtain⟨n,rfl⟩:=c.rk i e (by exact ad8 z z1) hi;cases oi
 ·obtain⟨zs,z1,z2⟩:=c.r1;exact⟨zs,z1,by rw[z1e (by omega)];exact z2⟩
 ·rw[z1e (by omega)] at h;exact c.rk k e hk2 h
 ·rcases List.mem_or_eq_of_mem_set h with z |z
  ·exact c.ne Q9 z
  ·rw[z];intro e;have:=congrArg List.length e;rw[List.length_set] at this;exact hne (List.eq_nil_of_length_eq_zero this)
set_option tactic.hygienic true in
theorem FW {ρ:ao} {i:Nat} {d:D} (h:aU ρ i= .ok d):ρ[i]?=some (some (.val d)):=by
 unfold aU at h;split at h
 ·rename_i d' e;cases h;exact e
 ·cases h
theorem adF {α:Type} {xs:List α} {y:Int} {v:α} (h0:0<=y) (h:xs[y.toNat]?=some v):L2.atI xs y=some v:=by
 have hl:=(z1b h).1;unfold L2.atI ixN;rw[if_pos h0,if_pos (by omega)];exact h
set_option tactic.hygienic true in
theorem ae5 (iy ix:Nat) {t y x:Str} {ev:Expr} {fv:ao->R D} {pt py px ps pos':Pos} (hv:DE X ev fv) (hN:autoParam (X.N[0]?=some t) aN._auto_1) (hNy:autoParam (X.N[iy]?=some y) aN._auto_1) (hNx:autoParam (X.N[ix]?=some x) aN._auto_1)
  (hvt:autoParam (Vis X.env.scope t) su._auto_1) (hvy:autoParam (Vis X.env.scope y) su._auto_1) (hvx:autoParam (Vis X.env.scope x) su._auto_1)
  (hd:autoParam ((t ==("__debug__" :Str))=false) cD._auto_1) (hcd:autoParam ((t ==("__classdict__" :Str))=false) cD._auto_1) (hdy:autoParam ((y ==("__debug__" :Str))=false) cD._auto_1) (ajB:autoParam ((y ==("__classdict__" :Str))=false) cD._auto_1) (hdx:autoParam ((x ==("__debug__" :Str))=false) cD._auto_1) (ajC:autoParam ((x ==("__classdict__" :Str))=false) cD._auto_1)
  (hp:autoParam (PlainIx (.Name y py)) ap8._auto_1)
  (ha:∀v,assign (.Subscript (.Subscript (.Name t pt) (.Name y py) ps) (.Name x px) pos') X.env v=(do
   let ov <-holding [v] (eval (.Subscript (.Name t pt) (.Name y py) ps) X.env)
   let iv <-holding [v,ov] (eval (.Name x px) X.env)
   standAt pos'
   holding [v,ov,iv] (setItem ov iv v)
   release [v,ov,iv] []):=by intro _u;rfl)
  (hs:autoParam (swapsWithSole [.Subscript (.Subscript (.Name t pt) (.Name y py) ps) (.Name x px) pos'] ev pos.line X.env=pure false) aN._auto_1) (hw:autoParam (swappedStores [.Subscript (.Subscript (.Name t pt) (.Name y py) ps) (.Name x px) pos'] ev X.env=pure none) aN._auto_1)
  (h1:autoParam ((assignEach [.Subscript (.Subscript (.Name t pt) (.Name y py) ps) (.Name x px) pos'] X.env).map (·.2)=[assign (.Subscript (.Subscript (.Name t pt) (.Name y py) ps) (.Name x px) pos') X.env]) aN._auto_1):
  PS X (.Assign [.Subscript (.Subscript (.Name t pt) (.Name y py) ps) (.Name x px) pos'] ev pos) (sE X a rs (JC iy ix fv)):=by
 refine PS.imp (ps_asg hv (pg_sub (pe_ix ix_seq (pe_var hN hvt hd hcd) (pe_var hNy hvy hdy ajB) hp) (pe_var hNx hvx hdx ajC) set_list ha) hs hw h1) λ σ H E h=>?_;obtain⟨rows,ρ,ρ',c,q,fin⟩:=h;refine⟨ρ,_,c.inn,?_⟩;unfold JC at q;split at q
 ·rename_i b aio yi xi e1 e2 e3 e4;rw[e1];intro v H1 s1 rv;rw[rv.bl];have c1:=c.same s1;have e2':=FW e2;rw[c1.r0] at e2';have e2':aio=rows.map λ r=>D.lst (r.map D.bl):=by
   have z:=Option.some.inj (Option.some.inj e2');injection z with z;injection z with z;exact z.symm
  subst e2';split at q
  ·rename_i cs e5;by_cases hc:0<=yi/\0<=xi/\xi < cs.length
   ·rw [if_pos hc] at q;rw[z2b] at e5;cases e6:rows[yi.toNat]? with
    |none=>rw[e6] at e5;cases e5
    | some row=>
     rw[e6] at e5;have e5:D.lst (row.map D.bl)=D.lst cs:=Option.some.inj e5;injection e5 with e5;subst e5;obtain⟨vy,hy1,hy2⟩:=c1.inn.env.get iy _ (FW e3);obtain⟨vx,hx1,hx2⟩:=c1.inn.env.get ix _ (FW e4);have hy2:vy= .int yi:=Rep.int (K:=X.K) (O:=λ _u=>False) (H:=H1) hy2;have hx2:vx= .int xi:=Rep.int (K:=X.K) (O:=λ _u=>False) (H:=H1) hx2;subst hy2 hx2;have hyr:yi.toNat < rs.length:=by rw[c1.hr.len];exact (z1b e6).1
     obtain⟨r,er⟩:∃r,rs[yi.toNat]?=some r:=⟨_,List.getElem?_eq_getElem hyr⟩;refine⟨.ref a,c1.s0,.int yi,hy1,.inl ⟨a,rs.map V.ref,yi,.ref r,rfl,rfl,SqL.of c1.ha,adF hc.1 (by rw[z2b,er];rfl),.int xi,hx1,?_⟩⟩;have hH:=c1.hr.at_ _ r row er e6;have hxl:xi < (row.map V.bl).length:=by rw[z1g];have:=hc.2.2;rw[z1g] at this;exact this
     refine⟨r,row.map V.bl,xi,xi.toNat,rfl,rfl,hH,by unfold ixN;rw[if_pos hc.2.1,if_pos hxl],?_⟩;obtain⟨c2,b2⟩:=c1.put (x:=xi.toNat) (b:=b) er e6;cases q;have et:(rows.map λ r=>D.lst (r.map D.bl)).set yi.toNat (.lst ((row.map D.bl).set xi.toNat (.bl b)))=(rows.set yi.toNat (row.set xi.toNat b)).map λ r=>D.lst (r.map D.bl):=by
      rw[List.map_set,List.map_set]
     refine fin (rows.set yi.toNat (row.set xi.toNat b)) _ _ ?_ ((But.of s1).trans b2);rw[et];exact c2
   ·rw[if_neg hc] at q;cases q
  ·cases q
 ·cases q
end
noncomputable def spC (K:PySem.W.Frag) (g:ao->So) (m:Nat):Sp:=λ vs H Q _u=>∃(a:Addr) (rs:List Addr) (rows rows':List (List Bool)) (zs:List Int) (v:V) (ρ':ao),vs=[.ref a,v]/\H a=some (.lst (rs.map V.ref))/\oU H rs rows/\rs.Nodup/\(∀r∈rs,K.lookup r=none/\r≠a)/\(∀row∈rows,row≠[])/\
 Rep K (λ _u=>False) H (il zs) v/\zs≠[]/\g (some (.val (tk rows))::some (.val (il zs))::List.replicate m none)= .nx ρ'/\ρ'[0]?=some (some (.val (tk rows')))/\∀H',But rs H H'->oU H' rs rows'->Q .non H'
theorem agO:∀{r s:List (List Bool)},tk r=tk s->r=s:=by
 have b:∀{x y:List Bool},x.map D.bl=y.map D.bl->x=y:=by
  intro x
  induction x with
  | nil=>intro y h;cases y with
   |nil=>rfl
   |cons _ _=>cases h
  | cons p x ih=>intro y h;cases y with
   |nil=>cases h
   | cons q y=>
    rw[z1h,z1h] at h;injection h with h1 h2;injection h1 with h1;rw[h1,ih h2]
 intro r
 induction r with
 | nil=>intro s h;cases s with
  |nil=>rfl
  |cons _ _=>cases h
 | cons p r ih=>intro s h;cases s with
  |nil=>cases h
  | cons q s=>
   unfold tk at h;injection h with h;rw[z1h,z1h] at h;injection h with h1 h2;injection h1 with h1;rw[b h1,ih (congrArg D.lst h2)]
section
variable {P:Program} {w:World} {K:PySem.W.Frag} {mg:Str->Option Value} {base:Heap}
theorem fnC {x qual:Str} {st:Stmt} {f:Addr} {fd:FuncData} {N ps:List Str} {k m:Nat} {g:ao->So} (Fn:Fun K x qual st f fd) (S:FnScope N ps (defScope st)) (hn:ps.length=2) (hm:N.length=2+m)
  (hb:∀(cdv:Value) (A:Around) (outer:List PySem.Env) (s:Shared) (H:Hp) (E:XK) (a:Addr) (rs:List Addr),Room k (A.deeper (envOfC qual (defScope st) s.heap.objs.size f cdv))->PSs (cxOf CX0 P w K mg base N qual (defScope st) f cdv A outer s H E).nox (defBody st) (sE (cxOf CX0 P w K mg base N qual (defScope st) f cdv A outer s H E).nox a rs g)):
  FnOk P w K mg base CX0 (k+1) f fd ps (spC K g m):=by
 refine Fn.ok S (λ vs H Q E h=>?_) (λ cdv A outer s H vs Q E hr h=>?_)
 ·obtain⟨a,rs,rows,rows',zs,v,ρ',rfl,_⟩:=h;rw[hn];rfl
 ·obtain⟨a,rs,rows,rows',zs,v,ρ',rfl,h1,h2,h3,h4,h5,h6,h7,h8,h9,fin⟩:=h;refine⟨_,hb cdv A outer s H E a rs hr,rows,_,ρ',⟨?_,?_,rfl,⟨zs,h7,rfl⟩,λ i e hi hh=>?_,h1,h2,h3,h4,h5⟩,h8,λ ajM σ' H' c' b'=>?_⟩
  ·have al:∀b,(λ _:Addr=>False) b->∃o,H b=some o:=λ _u z=>z.elim;have rr:aK K (λ _u=>False) H [tk rows,il zs] [.ref a,v]:= .cons (jN (SqL.of h1) (λ z=>z) (h2.reps λ _u _u z=>z)) (.cons h6 .nil);exact (Q0 (X:=(cxOf CX0 P w K mg base N qual (defScope st) f cdv A outer s H E).nox) (N:=N) rfl rr al (by show N.length=2+m;exact hm)).inn
  ·rfl
  ·rw[List.getElem?_cons,if_neg (by omega),List.getElem?_cons,if_neg (by omega),List.getElem?_replicate] at hh;split at hh <;> cases hh
  ·have e:=c'.r0;rw[h9] at e;have e:=Option.some.inj (Option.some.inj e);injection e with e;rw[<-agO e] at c';exact fin H' b' c'.hr
noncomputable def Ra (P:Program) (w:World) (K:PySem.W.Frag) (mg:Str->Option Value) (base:Heap) (k:Nat) (x:Str) (g:ao->So) (m:Nat):Prop:=
 ∃f fd ps,FnOk P w K mg base CX0 k f fd ps (spC K g m)/\mg x=some (.ref f)/\PySem.W.keepIn K (.ref f)=true/\Binds K fd ps []
end
noncomputable def aey:D->Option (List Bool)
 | .lst ds=>boolsOf ds
 |_=>none
noncomputable def rowsOf:List D->Option (List (List Bool))
 |[]=>some []
 | d::ds=>match aey d,rowsOf ds with
  |some r,some l=>some (r::l)
  |_,_=>none
noncomputable def Mf:D->Option (List (List Bool))
 | .lst ds=>rowsOf ds
 |_=>none
noncomputable def Mg:D->Option (List Int)
 | .lst ds=>intsOf ds
 |_=>none
theorem JD:∀{ds:List D} {bs:List Bool},boolsOf ds=some bs->ds=bs.map D.bl
 |[],bs,h=>by cases h;rfl
 | d ::ds,bs,h=>by
  cases d with
  | bl b=>
   have h:(boolsOf ds).map (b:: ·)=some bs:=h;cases e:boolsOf ds with
   |none=>rw[e] at h;cases h
   |some l=>rw[e] at h;cases h;rw[JD e];rfl
  |_=>cases h
theorem Ni:∀{ds:List D} {bs:List Int},intsOf ds=some bs->ds=bs.map D.int
 |[],bs,h=>by cases h;rfl
 | d ::ds,bs,h=>by
  cases d with
  | int b=>
   have h:(intsOf ds).map (b:: ·)=some bs:=h;cases e:intsOf ds with
   |none=>rw[e] at h;cases h
   |some l=>rw[e] at h;cases h;rw[Ni e];rfl
  |_=>cases h
set_option tactic.hygienic true in
theorem Nj:∀{ds:List D} {rows:List (List Bool)},rowsOf ds=some rows->ds=rows.map λ r=>D.lst (r.map D.bl)
 |[],rows,h=>by cases h;rfl
 | d ::ds,rows,h=>by
  have h:(match aey d,rowsOf ds with
   |some r,some l=>some (r::l)
   |_,_=>none)=some rows:=h
  split at h
  ·rename_i r l e1 e2;cases h;rw[Nj e2];cases d with
   |lst es=>rw[JD (show boolsOf es=some r from e1)];rfl
   |_=>cases e1
  ·cases h
theorem Xq {d:D} {rows:List (List Bool)} (h:Mf d=some rows):d=tk rows:=by
 cases d with
 |lst ds=>rw[Nj (show rowsOf ds=some rows from h)];rfl
 |_=>cases h
theorem Xr {d:D} {zs:List Int} (h:Mg d=some zs):d=il zs:=by
 cases d with
 |lst ds=>rw[Ni (show intsOf ds=some zs from h)];rfl
 |_=>cases h
theorem Gq:∀bs:List Bool,boolsOf (bs.map D.bl)=some bs
 |[]=>rfl
 |b::bs=>by show (boolsOf (bs.map D.bl)).map (b:: ·)=_;rw[Gq bs];rfl
theorem Cv:∀bs:List Int,intsOf (bs.map D.int)=some bs
 |[]=>rfl
 |b::bs=>by show (intsOf (bs.map D.int)).map (b:: ·)=_;rw[Cv bs];rfl
theorem Mh:∀rows:List (List Bool),Mf (tk rows)=some rows
 |[]=>rfl
 | r ::rows=>by
  have ih:rowsOf (rows.map λ r=>D.lst (r.map D.bl))=some rows:=Mh rows;show (match boolsOf (r.map D.bl),rowsOf (rows.map λ r=>D.lst (r.map D.bl)) with
   |some r,some l=>some (r::l)
   |_,_=>none)=_
  rw[Gq,ih]
theorem Xu (zs:List Int):Mg (il zs)=some zs:=Cv zs
noncomputable def caD (g:ao->So) (m:Nat) (dT dH:D):Option D:=match Mf dT,Mg dH with
 | some rows,some zs=>if zs≠[]/\(∀row∈rows,row≠[]) then match g (some (.val dT)::some (.val dH)::List.replicate m none) with
  | .nx ρ'=>match aU ρ' 0 with
   | .ok d=>if (Mf d).isSome=true then some d else none
   |_=>none
  |_=>none
  else none
 |_,_=>none
noncomputable def JF (iT iA iL iH iS:Nat) (f1:ao->R (List D)) (n:Nat) (F1:List D->R D) (f2 f3:ao->R D) (gC:ao->So) (m:Nat) (f5:ao->R D):ao->So:=λ ρ=>
 match (f1 ρ).bind λ ds=>if ds.length=n then F1 ds else .bad with
 | .ok dT=>match f2 (ρ.set iT (some (.val dT))) with
  | .ok dA=>match f3 ((ρ.set iT (some (.val dT))).set iA (some (.val dA))) with
   | .ok (.tup [dL,dH])=>match caD gC m dT dH,Mg dL with
    | some Nk,some (_::_)=>match f5 ((((ρ.set iT (some (.val Nk))).set iA none).set iL (some (.val dL))).set iH none) with
     | .ok dS=> .nx (((((ρ.set iT (some (.val Nk))).set iA none).set iL (some (.val dL))).set iH none).set iS (some (.val dS)))
     |_=> .bad
    |_,_=> .bad
   |_=> .bad
  |_=> .bad
 |_=> .bad
section
variable {X:Cx} {H H' H0:Hp} {O O0:Addr->Prop} {ρ:ao} {σ:St}
theorem At.drop (j:At X H0 O0 O H ρ σ) (i:Nat) (v:V):At X H0 O0 O H (ρ.set i none) (σ.set i (some v)):=by
 have un:∀{k:Nat} {e:Ent},(ρ.set i none)[k]?=some (some e)->k≠i/\ρ[k]?=some (some e):=λ {k e} h=>by
  by_cases z:k=i
  ·subst z;by_cases hl:k < ρ.length
   ·rw[z2a hl] at h;cases h
   ·rw[List.getElem?_eq_none (by rw[List.length_set];exact Nat.not_lt.mp hl)] at h;cases h
  ·rw[z1e (Ne.symm z)] at h;exact⟨z,h⟩
 refine⟨j.same,j.cZ,j.sub,⟨⟨λ k e h=>?_,λ k l e e' u hkl hk hl ok ol sk sl=>?_⟩,j.inn.al,by rw[List.length_set];exact j.inn.len,by rw[List.length_set];exact j.inn.ju⟩,λ k e a h ho hs=>?_⟩
 ·obtain⟨z,h⟩:=un h;rw[z1e (Ne.symm z)];exact j.inn.env.get k e h
 ·obtain⟨z,hk⟩:=un hk;obtain⟨z',hl⟩:=un hl;rw[z1e (Ne.symm z)] at sk;rw[z1e (Ne.symm z')] at sl;exact j.inn.env.sep k l e e' u hkl hk hl ok ol sk sl
 ·obtain⟨z,h⟩:=un h;rw[z1e (Ne.symm z)] at hs;exact j.mine k e a h ho hs
theorem dR.aez {K:PySem.W.Frag}:∀{rs:List Addr} {rows:List (List Bool)},dR K O H rs (rows.map λ r=>D.lst (r.map D.bl))->oU H rs rows
 |[],[],_=>⟨rfl,λ i r row e=>by cases e⟩
 |[],_::_,h=>by cases h
 |_::_,[],h=>by cases h
 | r ::rs,row::rows,h=>by
  rw[z1h] at h;cases h with
  | cons e q t=>
   have ih:=dR.aez t;refine⟨by rw[List.length_cons,List.length_cons,ih.len],λ i r' Q9 e1 e2=>?_⟩;cases i with
   |zero=>cases e1;cases e2;rw[e,Gn q]
   |succ i=>exact ih.at_ i r' Q9 e1 e2
theorem agP {K:PySem.W.Frag} {rs:List Addr} {rows:List (List Bool)} {zs:List Int} {v:V} (hr:oU H rs rows) (off:∀r∈rs,K.lookup r=none) (ne:∀row∈rows,row≠[]) (hz:zs≠[]) (h:Rep K O H (il zs) v) (b:But rs H H'):Rep K O H' (il zs) v:=by
 obtain⟨p,us,rfl,hq,hn,rr⟩:=Rep.lst h;have eu:=wK rr;subst eu;refine jN ?_ hn (Ma zs);rcases hq with hq |hq
 ·have hp:p∉rs:=λ z=>by
   obtain⟨i,hi,e⟩:=List.mem_iff_getElem.mp z;have hi':i < rows.length:=by rw[<-hr.len];exact hi
   have hH:=hr.at_ i p rows[i] (by rw[List.getElem?_eq_getElem hi,e]) (List.getElem?_eq_getElem hi');have hne:=ne _ (List.getElem_mem hi');rcases hq with hq |⟨o,hq⟩ <;> rw[hH] at hq
   ·have e2:=Option.some.inj hq;injection e2 with e2;cases hrow:rows[i] with
    |nil=>exact hne hrow
    | cons q row=>
     rw[hrow] at e2;cases zs with
     |nil=>cases e2
     |cons z zs=>cases e2
   ·cases hq
  rcases hq with hq |⟨o,hq⟩
  ·exact .inl (.inl (b _ _ hp hq))
  ·exact .inl (.inr ⟨o,b _ _ hp hq⟩)
 ·exact .inr hq
set_option tactic.hygienic true in
theorem adG {k1 k4 n m:Nat} {F1:List D->R D} {gC:ao->So} {f1:ao->R (List D)} {f2 f3 f5:ao->R D} (iT iA iL iH iS:Nat) {tT tA tL tH tS x1 x4:Str} {e1 e2 e3 e5:Expr} {es1:List Expr} {p1 p2 p3 p4 p5 q1 q2 q3 q4 q5 r1 r3 r3' c1 c4 c4' Ht:Pos} {kt:Nat}
  (hN:X.N.Nodup) (hc:X.calm=true) (hr:Room k1 X.A) (hr4:Room k4 X.A) (G1:Q5 X.prog X.w X.K X.mg X.base k1 x1 n F1) (G4:Ra X.prog X.w X.K X.mg X.base k4 x4 gC m)
  (ha1:DA X (e1::es1) f1) (he2:DE X e2 f2) (he3:DE X e3 f3) (he5:DE X e5 f5) (hg1:autoParam (Gl X x1) aN._auto_1) (hg4:autoParam (Gl X x4) aN._auto_1)
  (hiT:autoParam (X.N[iT]?=some tT) aN._auto_1) (hiA:autoParam (X.N[iA]?=some tA) aN._auto_1) (hiL:autoParam (X.N[iL]?=some tL) aN._auto_1) (hiH:autoParam (X.N[iH]?=some tH) aN._auto_1) (hiS:autoParam (X.N[iS]?=some tS) aN._auto_1) (hd:autoParam (iT≠iA/\iT≠iL/\iT≠iH) cD._auto_1) (hLH:autoParam (iL≠iH) cD._auto_1)
  (lT:autoParam (Loc X.env.scope tT) lJ._auto_1) (lA:autoParam (Loc X.env.scope tA) lJ._auto_1) (lL:autoParam (Loc X.env.scope tL) lJ._auto_1) (lH:autoParam (Loc X.env.scope tH) lJ._auto_1) (lS:autoParam (Loc X.env.scope tS) lJ._auto_1)
  (vT:autoParam (Vis X.env.scope tT) su._auto_1) (vH:autoParam (Vis X.env.scope tH) su._auto_1)
  (nT:autoParam (X.fn tT=true\/X.env.scope.names.lookup tT=some .local) lK._auto_1) (nA:autoParam (X.fn tA=true\/X.env.scope.names.lookup tA=some .local) lK._auto_1) (nL:autoParam (X.fn tL=true\/X.env.scope.names.lookup tL=some .local) lK._auto_1) (nH:autoParam (X.fn tH=true\/X.env.scope.names.lookup tH=some .local) lK._auto_1) (nS:autoParam (X.fn tS=true\/X.env.scope.names.lookup tS=some .local) lK._auto_1)
  (dT:autoParam ((tT ==("__debug__" :Str))=false) cD._auto_1) (Nk:(tT ==("__classdict__" :Str))=false:=by decide) (dH:autoParam ((tH ==("__debug__" :Str))=false) cD._auto_1) (dH':(tH ==("__classdict__" :Str))=false:=by decide)
  (d1:autoParam ((x1 ==("__debug__" :Str))=false) cD._auto_1) (d4:autoParam ((x4 ==("__debug__" :Str))=false) cD._auto_1)
  (s1:autoParam (starEach (e1::es1) X.env=(false,eval e1 X.env)::starEach es1 X.env) aN._auto_1) (b1:autoParam ((backTo c1 (starEach es1 X.env)).any (·.1)=false) aN._auto_1)
  (s4:autoParam (starEach [.Name tT c4',.Name tH Ht] X.env=(false,eval (.Name tT c4') X.env)::starEach [.Name tH Ht] X.env) aN._auto_1) (s4':starEach [.Name tH Ht] X.env=(false,eval (.Name tH Ht) X.env)::starEach [] X.env:=by rfl) (b4:autoParam ((backTo c4 (starEach [.Name tH Ht] X.env)).any (·.1)=false) aN._auto_1)
  (w1:autoParam (swapsWith (.Call (.Name x1 r1) (e1::es1) [] c1) (some (.Name tT q1)) p1.line X.env=pure false) aN._auto_1) (w2:autoParam (swapsWith e2 (some (.Name tA q2)) p2.line X.env=pure false) aN._auto_1)
  (w3:autoParam (swapsWithSole [.Tuple [.Name tL r3,.Name tH r3'] kt q3] e3 p3.line X.env=pure false) aN._auto_1) (w3':swappedStores [.Tuple [.Name tL r3,.Name tH r3'] kt q3] e3 X.env=pure none:=by rfl)
  (w4:autoParam (swapsWith (.Call (.Name x4 q4) [.Name tT c4',.Name tH Ht] [] c4) none p4.line X.env=pure false) aN._auto_1) (w5:autoParam (swapsWith e5 (some (.Name tS q5)) p5.line X.env=pure false) aN._auto_1):
  c7 X [.Assign [.Name tT q1] (.Call (.Name x1 r1) (e1::es1) [] c1) p1,.Assign [.Name tA q2] e2 p2,.Assign [.Tuple [.Name tL r3,.Name tH r3'] kt q3] e3 p3,.Expr (.Call (.Name x4 q4) [.Name tT c4',.Name tH Ht] [] c4) p4,.Assign [.Name tS q5] e5 p5]
   (JF iT iA iL iH iS f1 n F1 f2 f3 gC m f5):=by
 obtain⟨fa1,fd1,ps1,ok1,hm1,hk1,hb1⟩:=G1;obtain⟨fa4,fd4,ps4,ok4,hm4,hk4,hb4⟩:=G4;have kT:=(z1b hiT).1;have kA:=(z1b hiA).1;have kL:=(z1b hiL).1;have kH:=(z1b hiH).1;have kS:=(z1b hiS).1;refine PSs.imp (pss_cons (ps_set hN hiT lT (pe_call (dvs:=[]) ok1 hr hg1 hm1 hk1 hb1 .nil pass0 ha1 d1 s1 b1) w1 nT) (pss_cons (ps_set hN hiA lA he2 w2 nA)
  (pss_cons (ps_asg he3 (pg_tup hc (pgs_cons (pg_name hN hiL lL nL) (pgs_cons (pg_name hN hiH lH nH) pgs_nil))) w3 w3')
   (pss_cons (ps_expr (pe_call (dvs:=[]) ok4 hr4 hg4 hm4 hk4 hb4 .nil pass0 (pa_cons (pe_var hiT vT dT Nk) (pa_cons (pe_var hiH vH dH dH') pa_nil s4') s4) d4 s4 b4) w4) (pss_one (ps_set hN hiS lS he5 w5 nS)))))) λ σ H E h=>?_
 obtain⟨H0,O0,O,ρ,j,h⟩:=h;unfold JF at h;split at h
 case h_2=>exact h.elim
 rename_i dT1 q1;split at h
 case h_2=>exact h.elim
 rename_i dA1 q2;split at h
 case h_2=>exact h.elim
 rename_i dL1 dH1 q3;split at h
 case h_2=>exact h.elim
 rename_i dT2 zl zls q4 q4';split at h
 case h_2=>exact h.elim
 rename_i dS1 q5;unfold caD at q4;split at q4
 case h_2=>cases q4
 rename_i rows zs u1 u2;by_cases hcz:zs≠[]/\(∀row∈rows,row≠[])
 case neg=>rw[if_neg hcz] at q4;cases q4
 rw[if_pos hcz] at q4;split at q4
 case h_2=>cases q4
 rename_i ρ' qg;split at q4
 case h_2=>cases q4
 rename_i dT3 qv;by_cases hs2:(Mf dT3).isSome=true
 case neg=>rw[if_neg hs2] at q4;cases q4
 rw[if_pos hs2] at q4;have q4:=Option.some.inj q4;subst q4;obtain⟨rows',ur⟩:=Option.isSome_iff_exists.mp hs2;have eT:=Xq u1;have eH:=Xr u2;have eT':=Xq ur;have eL:=Xr q4';subst eT eH eT' eL;refine⟨ρ,O,j.inn,?_⟩;cases q0:f1 ρ with
 |bad=>rw[q0] at q1;cases q1
 |err c=>rw[q0] at q1;cases q1
 | ok ds=>
  rw[q0] at q1;have q1:(if ds.length=n then F1 ds else .bad)= .ok (tk rows):=q1;by_cases hl:ds.length=n
  case neg=>rw[if_neg hl] at q1;cases q1
  rw[if_pos hl] at q1;intro vs Ha sa ra;have ja:=j.grow sa;refine⟨O,ds,by rw[List.append_nil];exact ra,hl,ja.inn.al,?_⟩;rw[q1]
  rintro v Hb sb ⟨a,rs,dsT,ed,rfl,na,ka,ha,nd,al,rr⟩
  have ed:dsT=rows.map λ r=>D.lst (r.map D.bl):=by
   unfold tk at ed;injection ed with ed;exact ed.symm
  subst ed;have nOa:¬O a:=ja.inn.BW na;have nOr:∀r∈rs,¬O r:=λ r hr=>ja.inn.BW (al r hr).1;have aip:=rr.aez;have jb:=ja.grow sb;have j1:=jb.set kT (d:=tk rows) (v:= .ref a) (jN (SqL.of ha) nOa (rr.reps nOr));refine⟨_,O,j1.inn,?_⟩;rw[q2];intro vA Hc sc rA;have j2:=(j1.grow sc).set kA rA;refine⟨_,O,j2.inn,?_⟩;rw[q3];intro vt Hd sd rt;obtain⟨at_,xs,rfl,hqt,rts⟩:=Rep.tup rt;obtain⟨v1,v2,rfl,rL,rH⟩:=rts.two;refine⟨at_,[v1,v2],rfl,hqt,rfl,v1,[v2],rfl,v2,[],rfl,rfl,?_⟩;have YW:σ.length=X.N.length:=j.inn.len;refine⟨.ref a,?_,v2,?_,?_⟩
  ·rw[z1e (Ne.symm hd.2.2),z1e (Ne.symm hd.2.1),z1e (Ne.symm hd.1)];exact z2a (by rw[YW];exact kT)
  ·exact z2a (by simp only[List.length_set];rw[YW];exact kH)
  have had:=sd _ _ (sc _ _ ha);have rbd:=(aip.same sc).same sd;refine⟨a,rs,rows,rows',zs,v2,ρ',rfl,had,rbd,nd,λ r hr=>(al r hr).2,hcz.2,Rep.fewer (λ _u z=>z.elim) rH,hcz.1,qg,FW qv,λ He be re=>?_⟩;have smE:Same H He:=λ b u e=>by
   refine be b u (λ z=>?_) (sd _ _ (sc _ _ (sb _ _ (sa _ _ e))));have:=Same.free sa (al b z).1;rw[this] at e;cases e
  have hae:He a=some (.lst (rs.map V.ref)):=be _ _ (λ z=>(al a z).2.2 rfl) had;have jE:=j.grow smE;have j4:=(((jE.set kT (d:=tk rows') (v:= .ref a) (jN (SqL.of hae) nOa (re.reps nOr))).drop iA vA).set kL (agP rbd (λ r hr=>(al r hr).2.1) hcz.2 (by simp) rL be)).drop iH v2;refine⟨_,O,j4.inn,?_⟩;rw[q5];intro vS Hf sf rS;exact h _ Hf O ((j4.grow sf).set kS rS) (Same.cZ (smE.trans sf))
end
section
variable {X:Cx} {e:Expr} {f:ao->R D} {pos p2 p3 p4 p5 p6:Pos}
end
theorem ae6 {f:ao->R D} {gt:D->ao->R ao} {ρ:ao} {d:D} (h:aZ f gt ρ= .rt d):False:=by
 unfold aZ jA at h;cases e:f ρ with
 |bad=>rw[e] at h;cases h
 |err c=>rw[e] at h;cases h
 | ok x=>
  rw[e] at h;have h:(match gt x ρ with
   | .ok ρ'=>So.nx ρ'
   |_=> .bad)= .rt d:=h
  split at h <;> cases h
section
variable {prog:Program} {w:World} {A:Around} {E:Value->Shared->Prop} {s:Shared} {it d:Addr} {i ep:Nat} {o:Obj} {es:Array DictEntry}
theorem YX {Q:Value->Shared->Prop} (hd:(d ==sysModules)=false) (ho:s.heap.get? d=some o) (hx:o.ExactDict) (hdat:o.data= .dict es ep)
  (hQ:Q (.ref s.heap.objs.size) {s with heap:=s.heap.push {cls:= .type "dict_keyiterator",data:= .fields #[.ref d,.int 0 0,.int es.size 0,.int ep 0]}}):
  wpAny (model prog w) A (pyIter (.ref d)) Q E s:=by
 have hT:s.TypeIs (.ref d) "dict" :=⟨o,ho,hx.1⟩;refine wpAny_pyIter_slot hT F.slot_dict_iter (wpAny_call_entry F.slot_dict_iter hT F.entry_dict_iter ?_ (F.args_dict_iter_1 _));unfold Builtin.«dict.__iter__»;refine wpAny_bind ?_;unfold Builtin.Dict.dictSlotNone;refine wpAny_bind (wpAny_notOrdered_dict hT ?_);refine wpAny_pure ?_;show wpAny _ _ (Builtin.Dict.showsAll d >>=_) _ _ s;unfold Builtin.Dict.showsAll;rw[if_neg (by rw[hd];exact Bool.false_ne_true)];refine wpAny_bind (wpAny_pure (wpAny_bind (wpAny_dictEntries ho hdat (wpAny_bind (wpAny_dictEpoch ho hdat ?_)))));refine wpAny_bind (wpAny_newObj_type (wpAny_pure ⟨_,rfl,"dict_keyiterator",_,⟨_,z1f _ rfl,rfl⟩,F.slot_dict_keyiterator_next.lookup,?_⟩));simpa[rawInt] using hQ
theorem YZ {Q:Option Value->Shared->Prop} (hit:s.heap.IsKeyIter it d i es.size ep) (ho:s.heap.get? d=some o) (hdat:o.data= .dict es ep) (hi:i < es.size)
  (hQ:∀h',h'.IsKeyIter it d (i+1) es.size ep->Heap.SameBut it s.heap h'->Q (some es[i].key) {s with heap:=h'}):wpAny (model prog w) A (pyNext (.ref it)) Q E s:=by
 obtain⟨oi,hoi,hc,hd⟩:=id hit;unfold pyNext;refine wpAny_bind (wpAny_attempt (wpAny_callSpecial?_slot (name:=Str.ofString "__next__") hit.typeIs F.slot_dict_keyiterator_next (wpAny_call_entry F.slot_dict_keyiterator_next hit.typeIs F.entry_dict_keyiterator_next ?_ (F.args_dict_keyiterator_next_1 _))));refine wpAny_bind (wpAny_pure (wpAny_bind (wpAny_bind ?_)))
 first |refine wpAny_bind (wpAny_typeNameOfWhole_keyiter hit.typeIs (wpAny_pure ?_)) |refine wpAny_bind (wpAny_typeNameOf_keyiter hit.typeIs (wpAny_pure ?_))
 refine wpAny_bind (wpAny_fieldsOf hoi hd ?_);simp only[show Builtin.Dict_items.ownsTuple "dict_keyiterator" =false by decide,Bool.false_eq_true,if_false];show wpAny _ _ (if (Value.ref d ==Value.none)=true then _ else _) _ _ s;rw[if_neg (show ¬((Value.ref d ==Value.none)=true) from Bool.false_ne_true)];refine wpAny_bind (wpAny_pure (wpAny_bind (wpAny_dictEntries ho hdat ?_)));rw[if_neg (by simp)];refine wpAny_bind (wpAny_pure (wpAny_bind (wpAny_dictEpoch ho hdat ?_)));rw[if_neg (by simp)];refine wpAny_pure ?_;simp only[show ¬((i:Int) < 0) from by exact ad9,if_false,Int.toNat_natCast,Array.getElem?_eq_getElem hi];refine wpAny_bind ?_
 first |refine wpAny_bind (wpAny_typeNameOfWhole_keyiter hit.typeIs (wpAny_pure ?_)) |refine wpAny_bind (wpAny_typeNameOf_keyiter hit.typeIs (wpAny_pure ?_))
 refine wpAny_bind (wpAny_isOneOf_keyiter hit.typeIs ?_);show wpAny _ _ (setField (.ref it) 1 (rawInt ((i:Int)+1)) >>=_) _ _ s;refine wpAny_bind (wpAny_setField hoi hd (by simp) ?_);have hit':(s.heap.update it (Obj.mapFields (·.setIfInBounds 1 (rawInt ((i:Int)+1))))).IsKeyIter it d (i+1) es.size ep:=
  ⟨_,Heap.get?_update_self _ hoi (Obj.isFreed_of_fields (Obj.data_mapFields hd _)),(Obj.cls_mapFields ..).trans hc,by rw[Obj.data_mapFields hd];simp[rawInt]⟩
 refine wpAny_bind (wpAny_holding ?_);refine wpAny_bind (wpAny_isOneOf_keyiter (s:={s with heap:=s.heap.update it (Obj.mapFields (·.setIfInBounds 1 (rawInt ((i:Int)+1))))}) hit'.typeIs ?_);show wpAny _ _ (pure es[i].key) _ _ _;exact wpAny_pure (wpAny_pure ⟨_,rfl,wpAny_pure (hQ _ hit' (Heap.SameBut.update ..))⟩)
theorem abo {Q:Option Value->Shared->Prop} (hh:A.handled=none) (hit:s.heap.IsKeyIter it d i es.size ep) (ho:s.heap.get? d=some o) (hdat:o.data= .dict es ep) (hi:es.size<=i)
  (hQ:∀h',Heap.ExtBut it s.heap h'->Q none {s with heap:=h'}):wpAny (model prog w) A (pyNext (.ref it)) Q E s:=by
 obtain⟨oi,hoi,hc,hd⟩:=id hit;unfold pyNext;refine wpAny_bind (wpAny_attempt (wpAny_callSpecial?_slot (name:=Str.ofString "__next__") hit.typeIs F.slot_dict_keyiterator_next (wpAny_call_entry F.slot_dict_keyiterator_next hit.typeIs F.entry_dict_keyiterator_next ?_ (F.args_dict_keyiterator_next_1 _))));refine wpAny_bind (wpAny_pure (wpAny_bind (wpAny_bind ?_)))
 first |refine wpAny_bind (wpAny_typeNameOfWhole_keyiter hit.typeIs (wpAny_pure ?_)) |refine wpAny_bind (wpAny_typeNameOf_keyiter hit.typeIs (wpAny_pure ?_))
 refine wpAny_bind (wpAny_fieldsOf hoi hd ?_);simp only[show Builtin.Dict_items.ownsTuple "dict_keyiterator" =false by decide,Bool.false_eq_true,if_false];show wpAny _ _ (if (Value.ref d ==Value.none)=true then _ else _) _ _ s;rw[if_neg (show ¬((Value.ref d ==Value.none)=true) from Bool.false_ne_true)];refine wpAny_bind (wpAny_pure (wpAny_bind (wpAny_dictEntries ho hdat ?_)));rw[if_neg (by simp)];refine wpAny_bind (wpAny_pure (wpAny_bind (wpAny_dictEpoch ho hdat ?_)));rw[if_neg (by simp)];refine wpAny_pure ?_;simp only[show ¬((i:Int) < 0) from by exact ad9,if_false,Int.toNat_natCast,Array.getElem?_eq_none hi];refine wpAny_bind ?_
 first |refine wpAny_bind (wpAny_typeNameOfWhole_keyiter hit.typeIs (wpAny_pure ?_)) |refine wpAny_bind (wpAny_typeNameOf_keyiter hit.typeIs (wpAny_pure ?_))
 show wpAny _ _ (setField (.ref it) 0 .none >>=_) _ _ s;refine wpAny_bind (wpAny_setField hoi hd (by simp) ?_);show wpAny _ _ (newExc (.type "StopIteration") [] >>=_) _ _ _;refine wpAny_bind ?_;simp only[newExc,newTuple];refine wpAny_bind (wpAny_newObj_type ?_ (by size_fits));refine wpAny_bind (m:=firstArgMember _ _) (wpAny_of_eq (a:=Value.none) (by first |rfl |(simp only[firstArgMember];rfl)) ?_);refine wpAny_newObj_type ?_ (by size_fits);simp only[raiseNew];refine wpAny_bind (wpAny_handled ?_);rw[show A.in1.handled=none from hh];refine wpAny_bind (wpAny_pure (wpAny_throw ?_));refine wpAny_bind (wpAny_isInstance (T:= "StopIteration") (b:=true) ⟨_,z1f _ rfl,rfl⟩ isSubtype_stop ?_);exact wpAny_pure (hQ _ (((Heap.SameBut.update ..).extBut.push _).push _))
end
theorem Vm {α β:Type} {R:α->β->Prop} {l:List α} {m:List β} (h:Paired R l m):∀{i:Nat} {a:α},l[i]?=some a->∃b,m[i]?=some b/\R a b:=by
 induction h with
 |nil=>intro i a e;simp at e
 | cons r _ ih=>
  intro i a e;cases i with
  |zero=>simp at e;subst e;exact⟨_,rfl,r⟩
  |succ i=>simpa using ih (by simpa using e)
theorem Y0 {α β:Type} {R S:α->β->Prop} (w:∀a b,R a b->S a b) {l:List α} {m:List β} (h:Paired R l m):Paired S l m:=by
 induction h with
 |nil=>exact .nil
 |cons r _ ih=>exact .cons (w _ _ r) ih
noncomputable def Itd (a:Addr) (o:Obj) (kvs:List (List Key×V)):It:=
 ⟨λ i H=>H a=some (.frz o (.dT kvs))/\i < kvs.length,λ i H x H'=>H'=H/\∃b p,kvs[i]?=some p/\x= .ref b/\H b=some (.tup (p.1.map kV)),λ i H=>H a=some (.frz o (.dT kvs))/\kvs.length<=i⟩
theorem JG {P:Program} {w:World} {H:Hp} {h:Heap} {a:Addr} {o:Obj} {kvs:List (List Key×V)} {es:Array DictEntry} {ep:Nat} (hok:HOk P w H h) (hH:H a=some (.frz o (.dT kvs))) (hdat:o.data= .dict es ep):
  h.get? a=some o/\es.size=kvs.length/\∀(i:Nat) (hi:i < es.size) p,kvs[i]?=some p->∃b,es[i].key= .ref b/\H b=some (.tup (p.1.map kV)):=by
 obtain⟨ho,_,_,xs,pr,o',es',ep',ho',hx',hd',he,_⟩:=(show ObjOk P w H h a (.frz o (.dT kvs)) from hok a _ hH);rw[ho] at ho';cases ho';rw[hdat] at hd';cases hd';have l1:kvs.length=xs.length:=pr.length;have l2:es.size=xs.length:=by rw[<-Array.length_toList,he,z1g]
 refine⟨ho,by omega,λ i hi p hp=>?_⟩;obtain⟨q,hq,q1,q2,_⟩:=Vm pr hp;refine⟨q.2.1,?_,q2⟩;have e1:es.toList[i]?=some (entryOfKey (tupleKind (mixKind P w)) q):=by rw[he,z2b,hq];rfl
 rw[Array.getElem?_toList,Array.getElem?_eq_getElem hi] at e1;rw[Option.some.inj e1];rfl
theorem abp {P:Program} {w:World} {K:PySem.W.Frag} {tg:Expr} {a it:Addr} {o:Obj} {kvs:List (List Key×V)} {es:Array DictEntry} {ep:Nat} (hdat:o.data= .dict es ep):Turn P w K tg (Itd a o kvs) [it] it (λ i h=>h.IsKeyIter it a i es.size ep) where
 mem:=by simp
 obj:=λ i h st b hb=>by
  have e:b=it:=by simpa using hb
  subst e;obtain⟨o,e,c,d⟩:=st;exact⟨o,e,λ v z=>by rw[d] at z;cases z⟩
 keep:=λ i h h' st k=>st.at λ o e=>k it (by simp) o e
 item:=by
  intro X hP hw hK hc i pins s σ H E I hf st hg;subst hP hw hK;obtain⟨hH,hi⟩:=hg;obtain⟨ho,hsz,hkey⟩:=JG I.hok hH hdat;obtain⟨f0,f1,f2,f3,f4,f5⟩:=hf it (by simp);have hi':i < es.size:=by rw[hsz];exact hi
  obtain⟨b,eb,hb⟩:=hkey i hi' kvs[i] (List.getElem?_eq_getElem hi);refine YZ st ho hdat hi' λ h' st' sb=>?_;have I1:Inv X pins σ H {s with heap:=h'}:=I.turned (t':=s.toks) (λ b o hb e=>(sb.2 b hb).trans e) f0 f1 f3 f4 f5;obtain⟨o,e,c,d⟩:=id st';exact⟨_,rfl,go_of (s:={s with heap:=h'}) e c d (by decide) ⟨.ref b,H,I1,eb,⟨rfl,b,_,List.getElem?_eq_getElem hi,rfl,hb⟩,st',λ b hb=>(hf b hb).1⟩⟩
 done:=by
  intro X hP hw hK hc i pins s σ H E I hf st hg;subst hP hw hK;obtain⟨hH,hi⟩:=hg;obtain⟨ho,hsz,_⟩:=JG I.hok hH hdat;obtain⟨f0,f1,f2,f3,f4,f5⟩:=hf it (by simp);exact abo (I.ok.hd hc) st ho hdat (by rw[hsz];exact hi) λ h' eb=>⟨rfl,I.turned (t':=s.toks) (λ b o hb e=>eb b o hb e) f0 f1 f3 f4 f5⟩
 self:=λ _u _u _u _u _u st h=>wpAny_pyIter_keyiter st h
section
variable {X:Cx} {tg:Expr}
theorem agQ {l:Expr} {tl:TE} (hl:PE X l tl):PI X tg l (λ σ H R=>tl σ H λ x H1=>∃a o kvs,x= .ref a/\H1 a=some (.frz o (.dT kvs))/\R (Itd a o kvs) H1):=by
 intro pins s σ H R I h;refine thn (hl pins s σ H _ I h) λ v s1 bh=>?_;obtain⟨x,H1,I1,r1,q1⟩:=bh;obtain⟨a,o,kvs,e,hH,q⟩:=q1;subst e;cases r1;obtain⟨_,_,hsm,_,_,o',es,ep,ho',hx',hd',_,_⟩:=(show ObjOk X.prog X.w H1 s1.heap a (.frz o (.dT kvs)) from I1.hok a _ hH);have ho:s1.heap.get? a=some o:=(show ObjOk X.prog X.w H1 s1.heap a (.frz o (.dT kvs)) from I1.hok a _ hH).1;rw[ho] at ho';cases ho';refine YX hsm ho hx' hd' ?_;refine⟨s1.heap.objs.size,[s1.heap.objs.size],_,_,H1,rfl,I1.kept (t':=s1.toks) λ b o e=>z1a _ e,abp hd',⟨_,z1f _ rfl,rfl,rfl⟩,λ b hb=>?_,q⟩;have e:b=s1.heap.objs.size:=by simpa using hb
 subst e;exact I1.fpOk (z0g _) (I1.hok.fresh (z0g _))
noncomputable def kD:Key->D
 | .inl i=> .int i
 | .inr x=> .str x
theorem Cw {K:PySem.W.Frag} {O:Addr->Prop} {H:Hp}:∀ks:List Key,aK K O H (ks.map kD) (ks.map kV)
 |[]=> .nil
 | .inl i::ks=> .cons (bN i) (Cw ks)
 | .inr x::ks=> .cons (W5 x) (Cw ks)
noncomputable def Rb (i:Nat):ao->R (List D):=λ ρ=>match ρ[i]? with
 |some (some (.obj (.dct _ _ kvs)))=> .ok (kvs.map λ p=> .tup (p.1.map kD))
 |_=> .bad
set_option tactic.hygienic true in
theorem agR (i:Nat) {x:Str} {px:Pos} (hN:autoParam (X.N[i]?=some x) aN._auto_1) (hv:autoParam (Vis X.env.scope x) su._auto_1) (hd:autoParam ((x ==("__debug__" :Str))=false) cD._auto_1) (hcd:autoParam ((x ==("__classdict__" :Str))=false) cD._auto_1):
  DI X tg (.Name x px) (Rb i):=by
 refine PI.imp (agQ (pe_var hN hv hd hcd)) λ σ H Q q=>?_;obtain⟨ρ,O,j,q⟩:=q;unfold Rb at q;split at q
 ·rename_i a o kvs e;obtain⟨v,e1,r⟩:=j.env.get i _ e;obtain⟨rfl,hH⟩:v= .ref a/\H a=some (.frz o (.dT kvs)):=r;refine⟨_,e1,a,o,kvs,rfl,hH,fin q ?_⟩;intro O' H' rc k;have hH':=rc.ext.dts _ _ _ hH;refine⟨λ d hd=>?_,λ hl=>⟨hH',by rw[z1g] at hl;exact hl⟩⟩;rw[z2b] at hd;cases ek:kvs[k]? with
  |none=>rw[ek] at hd;cases hd
  | some p=>
   rw[ek] at hd;have hd:D.tup (p.1.map kD)=d:=Option.some.inj hd;subst hd;refine⟨⟨hH',(z1b ek).1⟩,λ x H2 y=>?_⟩;obtain⟨rfl,b,p',ep,rfl,hb⟩:=y;rw[ek] at ep;cases ep;exact⟨Same.refl _,Fj hb (Cw _)⟩
 ·exact q.elim
noncomputable def keysOf:D->Option (List Key)
 | .tup ds=>if zH ds=true then (intsOf ds).map (·.map Sum.inl) else none
 |_=>none
theorem zX {K:PySem.W.Frag} {O:Addr->Prop} {H:Hp} {d:D} {k:List Key} {v:V} (e:keysOf d=some k) (r:Rep K O H d v):∃b,v= .ref b/\H b=some (.tup (k.map kV)):=by
 cases d with
 | tup ds=>
  have e:(if zH ds=true then (intsOf ds).map (·.map Sum.inl) else none)=some k:=e;by_cases hi:zH ds=true
  ·rw[if_pos hi] at e;cases q:intsOf ds with
   |none=>rw[q] at e;cases e
   | some ns=>
    rw[q] at e;cases e;obtain⟨b,xs,rfl,hb,rs⟩:=r.tupI hi;refine⟨b,rfl,?_⟩;rw[hb,Cj q rs,List.map_map];rfl
  ·rw[if_neg hi] at e;cases e
 |_=>cases e
noncomputable def adH (i:Nat) (f:ao->R D):ao->R D:=λ ρ=>(yS (f ρ)).bind λ d=>match ρ[i]?,keysOf d with
 | some (some (.obj (.dct _ _ kvs))),some k=>match valV kvs k with
  |some (.int c)=> .ok (.int c)
  |_=> .bad
 |_,_=> .bad
set_option tactic.hygienic true in
theorem agS (i:Nat) {x:Str} {px pos:Pos} {e:Expr} {f:ao->R D} (hu:X.A.units+1 < cLine) (he:DE X e f) (hs:autoParam (NoSl e) ap8._auto_1) (hN:autoParam (X.N[i]?=some x) aN._auto_1) (hv:autoParam (Vis X.env.scope x) su._auto_1)
  (hd:autoParam ((x ==("__debug__" :Str))=false) cD._auto_1) (hcd:autoParam ((x ==("__classdict__" :Str))=false) cD._auto_1):DE X (.Subscript (.Name x px) e pos) (adH i f):=by
 refine PE.imp (pe_dget hu (pe_var hN hv hd hcd) he hs) λ σ H Q h=>?_;obtain⟨ρ,O,j,h⟩:=h;have hd':(∃a o kvs,ρ[i]?=some (some (.obj (.dct a o kvs))))\/¬∃a o kvs,ρ[i]?=some (some (.obj (.dct a o kvs))):=Classical.em _;rcases hd' with⟨a,o,kvs,q⟩ |nd
 ·obtain⟨v,e1,r⟩:=j.env.get i _ q;obtain⟨rfl,hH⟩:v= .ref a/\H a=some (.frz o (.dT kvs)):=r;refine⟨_,e1,?_⟩;refine go j (ac9 h) λ d y H1 e2 s1 r1 j1 h1=>?_;simp only[q] at h1;cases ek:keysOf d with
  |none=>rw[ek] at h1;exact h1.elim
  | some k=>
   rw[ek] at h1;simp only at h1;obtain⟨b,rfl,hb⟩:=zX ek r1;split at h1
   ·rename_i c ev;exact⟨a,.int c,rfl,.inr ⟨kvs,k,b,.inr ⟨o,s1 _ _ hH⟩,rfl,hb,ev.symm⟩,fin h1 (bN c)⟩
   ·exact h1.elim
 ·exfalso;unfold adH at h;cases e1:f ρ with
  |bad=>rw[e1] at h;exact h
  |err c=>rw[e1] at h;exact h
  | ok d=>
   rw[e1] at h;simp only[rK,R.aX] at h;split at h
   ·rename_i a o kvs k q1 q2;exact nd ⟨a,o,kvs,q1⟩
   ·exact h
end
noncomputable def lV:List (List Key×V)->List D->Option (List (List Key×V))
 |kvs,[]=>some kvs
 | kvs,d::ds=>match d with
  | .tup [.int c,k]=>match keysOf k with
   | some kk=>match valV kvs kk with
    |none=>if kvs.length < 1000000 then lV (putK kvs kk (.int c)) ds else none
    |some (.int g)=>if kvs.length < 1000000 then lV (putK kvs kk (.int (if g < c then g else c))) ds else none
    |_=>none
   |none=>none
  |_=>none
section
variable {X:Cx} {H H0:Hp} {O O0:Addr->Prop} {ρ:ao} {σ:St}
theorem abq {pos:Pos}:PE X (.Dict [] [] pos) (λ _u H Q=>∀p,H p=none->X.K.lookup p=none->Q (.ref p) (upd H p (.dT []))):=λ pins s σ H Q I h=>
 wpAny_Dict_empty ⟨.ref s.heap.objs.size,_,I.laid (a:=s.heap.objs.size) (o:= .dT []) (t':=s.toks) (λ _u _u q=>z1a _ q) (z0g _) (dt_empty s.heap I.big),rfl,h _ (I.hok.fresh (z0g _)) (Inv.YC I)⟩
theorem At.forget (j:At X H0 O0 O H ρ σ) (i:Nat):At X H0 O0 O H (ρ.set i none) σ:=by
 have un:∀{k:Nat} {e:Ent},(ρ.set i none)[k]?=some (some e)->ρ[k]?=some (some e):=λ {k e} h=>by
  by_cases z:k=i
  ·subst z;by_cases hl:k < ρ.length
   ·rw[z2a hl] at h;cases h
   ·rw[List.getElem?_eq_none (by rw[List.length_set];exact Nat.not_lt.mp hl)] at h;cases h
  ·rw[z1e (Ne.symm z)] at h;exact h
 exact⟨j.same,j.cZ,j.sub,⟨⟨λ k e h=>j.inn.env.get k e (un h),λ k l e e' u hkl hk hl=>j.inn.env.sep k l e e' u hkl (un hk) (un hl)⟩,j.inn.al,j.inn.len,by rw[List.length_set];exact j.inn.ju⟩,λ k e a h=>j.mine k e a (un h)⟩
theorem At.hide (j:At X H0 O0 O H ρ σ) (i:Nat) {p:Addr} {o:HO} (hp:H p=none) (hk:X.K.lookup p=none):At X H0 O0 (λ a=>O a\/a=p) (upd H p o) (ρ.set i none) (σ.set i (some (.ref p)))/\d7 X.K O H (λ a=>O a\/a=p) (upd H p o):=by
 have s1:Same H (upd H p o):=Same.upd hp;have r1:d7 X.K O H (λ a=>O a\/a=p) (upd H p o):=⟨(Same.cZ (K:=X.K) (O:=O) s1).ext,λ a z=>z.elim .inl λ e=> .inr (by rw[e];exact⟨hp,hk⟩),(Same.cZ (K:=X.K) (O:=O) s1).dom⟩;have j1:=j.drop i (.ref p);refine⟨⟨j1.same.trans s1,j1.cZ.trans r1,λ a z=> .inl (j1.sub a z),⟨⟨λ k e h=>?_,j1.inn.env.sep⟩,λ a z=>?_,j1.inn.len,j1.inn.ju⟩,j1.mine⟩,r1⟩
 ·obtain⟨v,q1,q2⟩:=j1.inn.env.get k e h;refine⟨v,q1,?_⟩;cases e with
  |val d=>exact Rep.go r1 q2
  | lst ds=>
   obtain⟨a,xs,e1,o1,e2,r⟩:=q2;exact⟨a,xs,e1,.inl o1,s1 _ _ e2,r.go r1⟩
  | Bt kvs=>
   obtain⟨a,xs,e1,o1,e2,k,r⟩:=q2;exact⟨a,xs,e1,.inl o1,s1 _ _ e2,k,r.go r1⟩
  |obj t=>exact pB.same s1 q2
 ·rcases z with z |z
  ·obtain⟨u,q⟩:=j1.inn.al a z;exact⟨u,s1 _ _ q⟩
  ·rw[z];exact⟨o,upd_same⟩
theorem At.agT (j:At X H0 O0 O H ρ σ) {p:Addr} {kv:List (List Key×V)} {o:HO} (hO:O p) (h0:H0 p=none) (hu:H p=some (.dT kv)):At X H0 O0 O (upd H p o) ρ σ/\d7 X.K O H O (upd H p o):=by
 have ne:∀{b:Addr} {u:HO},H b=some u->u≠.dT kv->b≠p:=λ {b u} h n z=>by
  rw[z,hu] at h;exact n (Option.some.inj h).symm
 have r1:d7 X.K O H O (upd H p o):=by
  refine⟨⟨λ b xs h=>?_,λ b xs n h=>?_,λ b xs h=>?_,λ b q k h=>?_⟩,λ a z=> .inl z,λ a z=>?_⟩
  ·rcases h with h |⟨q,h⟩
   ·exact .inl (by rw[upd_ne (ne h (by intro z;cases z))];exact h)
   ·exact .inr ⟨q,by rw[upd_ne (ne h (by intro z;cases z))];exact h⟩
  ·rcases h with h |⟨q,h⟩
   ·exact .inl (by rw[upd_ne (ne h (by intro z;cases z))];exact h)
   ·exact .inr ⟨q,by rw[upd_ne (ne h (by intro z;cases z))];exact h⟩
  ·rw[upd_ne (ne h (by intro z;cases z))];exact h
  ·rw[upd_ne (ne h (by intro z;cases z))];exact h
  ·by_cases ea:a=p
   ·rw[ea,upd_same] at z;cases z
   ·rw[upd_ne ea] at z;exact z
 refine⟨⟨λ b q z=>?_,j.cZ.trans r1,j.sub,⟨⟨λ k e h=>?_,j.inn.env.sep⟩,λ a z=>?_,j.inn.len,j.inn.ju⟩,j.mine⟩,r1⟩
 ·rw[upd_ne (ne_of_none z h0)];exact j.same _ _ z
 ·obtain⟨v,q1,q2⟩:=j.inn.env.get k e h;refine⟨v,q1,?_⟩;cases e with
  |val d=>exact Rep.go r1 q2
  | lst ds=>
   obtain⟨a,xs,e1,o1,e2,r⟩:=q2;exact⟨a,xs,e1,o1,by rw[upd_ne (ne e2 (by intro z;cases z))];exact e2,r.go r1⟩
  | Bt kvs=>
   obtain⟨a,xs,e1,o1,e2,k,r⟩:=q2;exact⟨a,xs,e1,o1,by rw[upd_ne (ne e2 (by intro z;cases z))];exact e2,k,r.go r1⟩
  |obj t=>exact pB.fz (λ b o' u hb=>by rw[upd_ne (ne hb (by intro z;cases z))];exact hb) q2
 ·by_cases ea:a=p
  ·rw[ea];exact⟨o,upd_same⟩
  ·obtain⟨u,q⟩:=j.inn.al a z;exact⟨u,by rw[upd_ne ea];exact q⟩
theorem adJ {pins:List (Addr×Obj)} {s:Shared} {p:Addr} {kv:List (List Key×V)} (I:Inv X pins σ H s) (hu:H p=some (.dT kv)):∃o,Inv X pins σ (upd H p (.frz o (.dT kv))) s:=by
 obtain⟨z1,z2,xs,pr,o,es,ep,ho,hx,hd,he,nd⟩:=(show ObjOk X.prog X.w H s.heap p (.dT kv) from I.hok p _ hu);refine⟨o,?_⟩;have h:=I.write (x:=p) (e:=p) (o:= .frz o (.dT kv)) (h':=s.heap) (t':=s.toks) (by rw[hu];trivial) (.inl rfl) (λ b u _u q=>q) ⟨o,ho⟩ ⟨ho,z1,z2,xs,?_,o,es,ep,ho,hx,hd,he,nd⟩
 ·exact h
 ·refine Y0 (λ a b q=>⟨q.1,?_,q.2.2⟩) pr;rw[upd_ne (λ e=>by rw[e,hu] at q;cases q.2.1)];exact q.2.1
end
noncomputable def eG (l:List (List Int×Int)):List (List Key×V):=l.map λ p=>(p.1.map Sum.inl,V.int p.2)
noncomputable def rE:List Key->Option (List Int)
 |[]=>some []
 | .inl i::r=>(rE r).map (i:: ·)
 |_=>none
noncomputable def Xv:List (List Key×V)->Option (List (List Int×Int))
 |[]=>some []
 | (k,.int c)::r=>match rE k,Xv r with
  |some k',some r'=>some ((k',c)::r')
  |_,_=>none
 |_=>none
theorem Rc:∀{k:List Key} {l:List Int},rE k=some l->k=l.map Sum.inl
 |[],l,h=>by cases h;rfl
 | .inl i::r,l,h=>by
  have h:(rE r).map (i:: ·)=some l:=h;cases e:rE r with
  |none=>rw[e] at h;cases h
  |some m=>rw[e] at h;cases h;rw[Rc e];rfl
 | .inr _::_,_,h=>by cases h
set_option tactic.hygienic true in
theorem abr:∀{kvs:List (List Key×V)} {l:List (List Int×Int)},Xv kvs=some l->kvs=eG l
 |[],l,h=>by cases h;rfl
 | (k, v)::r,l,h=>by
  cases v with
  | int c=>
   have h:(match rE k,Xv r with
    |some k',some r'=>some ((k',c)::r')
    |_,_=>none)=some l:=h
   split at h
   ·rename_i k' r' e1 e2;cases h;rw[Rc e1,abr e2];rfl
   ·cases h
  |_=>cases h
theorem vZ:∀l:List Int,rE (l.map Sum.inl)=some l
 |[]=>rfl
 |i::l=>by show (rE (l.map Sum.inl)).map (i:: ·)=_;rw[vZ l];rfl
theorem abt:∀l:List (List Int×Int),Xv (eG l)=some l
 |[]=>rfl
 | (k,c)::l=>by
  show (match rE (k.map Sum.inl),Xv (eG l) with
   |some k',some r'=>some ((k',c)::r')
   |_,_=>none)=_
  rw[vZ,abt l]
theorem Nm:∀{l:List Int},l≠[]->zH (l.map D.int)=true
 |[],h=>absurd rfl h
 |[_],_=>rfl
 |_::j::l,_=>Nm (l:=j::l) (by simp)
theorem agU (l:List Int):(l.map Sum.inl).map kD=l.map D.int:=by rw[List.map_map];rfl
theorem Gr {l:List Int} (h:l≠[]):keysOf (.tup (l.map D.int))=some (l.map Sum.inl):=by
 show (if zH (l.map D.int)=true then (intsOf (l.map D.int)).map (·.map Sum.inl) else none)=_;rw[if_pos (Nm h),Cv];rfl
theorem Mi {k k':List Int} (e:k.map (Sum.inl:Int->Key)=k'.map Sum.inl):k=k':=by
 have:=congrArg rE e;rw[vZ,vZ] at this;exact Option.some.inj this
theorem FZ:∀{l:List (List Int×Int)} {k:List Int} {c:Int},(l.map (·.1)).Nodup->(k,c)∈l->valV (eG l) (k.map Sum.inl)=some (.int c)
 |[],_,_,_,h=>by cases h
 | (k',c')::l,k,c,nd,h=>by
  rw[z1h,List.nodup_cons] at nd;by_cases e:k'=k
  ·subst e;rcases List.mem_cons.mp h with h |h
   ·cases h;simp[valV,eG]
   ·exact absurd (List.mem_map.mpr ⟨_,h,rfl⟩) nd.1
  ·rcases List.mem_cons.mp h with h |h
   ·cases h;exact absurd rfl e
   ·have ih:=FZ nd.2 h;have ne:¬(k'.map (Sum.inl:Int->Key)=k.map Sum.inl):=λ z=>e (Mi z);simpa[valV,eG,ne] using ih
noncomputable def fW (p:List Int×Int):D:= .tup [.int p.2,.tup (p.1.map D.int)]
noncomputable abbrev f3 (iB:Nat):ao->R D:=aV 1 [iB] (Rb iB) (aG 0) (λ _u=> .ok true) (iI (ak (adH 1 (λ ρ=>aU ρ 0)) (ak (λ ρ=>aU ρ 0) (λ _u=> .ok []))))
theorem aiq {iB:Nat} {ρ:ao} {a:Addr} {o:Obj} {l:List (List Int×Int)} (hB:ρ[iB]?=some (some (.obj (.dct a o (eG l))))) (nd:(l.map (·.1)).Nodup) (ne:∀p∈l,p.1≠[]) (hl:l.length<=1000000):f3 iB ρ= .ok (.lst (l.map fW)):=by
 have e1:Rb iB ρ= .ok (l.map λ p=>D.tup (p.1.map D.int)):=by
  unfold Rb;rw[hB];show R.ok ((eG l).map λ p=>D.tup (p.1.map kD))=_;unfold eG;rw[List.map_map];exact congrArg R.ok (List.map_congr_left λ p _u=>by show D.tup ((p.1.map Sum.inl).map kD)=_;rw[agU])
 have ep:vR 1 [iB] ρ=[none,some (.obj (.dct a o (eG l)))]:=by
  show List.replicate 1 none++[((ρ.map vQ)[iB]?).join]=_;rw[z2b,hB];rfl
 refine cu (l:=l) (c:=λ p=>D.tup (p.1.map D.int)) e1 hl λ p hp=>?_;rw[ep];refine cM (ρ1:=[some (.val (.tup (p.1.map D.int))),some (.obj (.dct a o (eG l)))]) rfl (f9 (aB (x:= .int p.2) ?_ (aA rfl)));show (yS (R.ok (D.tup (p.1.map D.int)))).bind _=_;simp only[rK,R.aX];rw[Gr (ne p hp)];show (match valV (eG l) (p.1.map Sum.inl) with
  |some (.int c)=>R.ok (D.int c)
  |_=> .bad)=_
 rw[FZ nd hp]
noncomputable def JH (iB iC iW iM iS:Nat):ao->So:=λ ρ=>match ρ[iM]? with
 | some (some (.lst ds))=>match lV [] ds with
  | some kvs=>match Xv kvs with
   |some l=>if (l.map (·.1)).Nodup/\(∀p∈l,p.1≠[])/\l.length<=1000000 then .nx ((((ρ.set iB none).set iC none).set iW none).set iS (some (.val (.lst (l.map fW))))) else .bad
   |none=> .bad
  |none=> .bad
 |_=> .bad
theorem PSs.ghost {X:Cx} {sts:List Stmt} {t t':TS} (h:PSs X sts t') (w:∀pins s σ H E,Inv X pins σ H s->t E σ H->∃H',Inv X pins σ H' s/\t' E σ H'):PSs X sts t:=λ pins s σ H E I q=>
 let ⟨H',I',q'⟩:=w pins s σ H E I q
 h pins s σ H' E I' q'
theorem adK {ρ:ao} {a b:Nat} {x y:Option Ent}:(((((ρ.set a none).set b none).set a x).set b y).set a none).set b none=(ρ.set a none).set b none:=by
 refine List.ext_getElem? λ i=>?_;simp only[List.getElem?_set,List.length_set];by_cases h1:b=i <;> by_cases h2:a=i <;> simp[h1,h2]
set_option tactic.hygienic true in
theorem Y4 {kvs:List (List Key×V)} {kk:List Key} {c:Int} {ds:List D} {F:List (List Key×V)} {d:D} (ek:keysOf d=some kk) (h:lV kvs (.tup [.int c,d]::ds)=some F):
  ∃g:Int,(valV kvs kk=none/\g=c\/valV kvs kk=some (.int g))/\kvs.length < 1000000/\lV (putK kvs kk (.int (if g < c then g else c))) ds=some F:=by
 have h:(match keysOf d with
   | some kk=>match valV kvs kk with
    |none=>if kvs.length < 1000000 then lV (putK kvs kk (.int c)) ds else none
    |some (.int g)=>if kvs.length < 1000000 then lV (putK kvs kk (.int (if g < c then g else c))) ds else none
    |_=>none
   |none=>none)=some F:=h
 rw[ek] at h;simp only at h;split at h
 ·rename_i ev;by_cases hl:kvs.length < 1000000
  ·rw[if_pos hl] at h;exact⟨c,.inl ⟨ev,rfl⟩,hl,by rw[if_neg (Int.lt_irrefl c)];exact h⟩
  ·rw[if_neg hl] at h;cases h
 ·rename_i g ev;by_cases hl:kvs.length < 1000000
  ·rw[if_pos hl] at h;exact⟨g,.inr ev,hl,h⟩
  ·rw[if_neg hl] at h;cases h
 ·cases h
theorem abu {ρ:ao} {a b c t:Nat} {x y:Option Ent} (h1:a≠b) (h2:a≠c) (h3:a≠t):(((((ρ.set a none).set b none).set c none).set a x).set t y).set a none=(((ρ.set a none).set b none).set c none).set t y:=by
 refine List.ext_getElem? λ i=>?_;simp only[List.getElem?_set,List.length_set];by_cases e:a=i
 ·subst e;simp[Ne.symm h1,Ne.symm h2,Ne.symm h3]
 ·simp[e]
set_option tactic.hygienic true in
theorem Y5 {kvs:List (List Key×V)} {d:D} {ds:List D} {F:List (List Key×V)} (h:lV kvs (d::ds)=some F):∃c k kk,d= .tup [.int c,k]/\keysOf k=some kk:=by
 unfold lV at h;split at h
 ·rename_i c k;split at h
  ·rename_i kk ek;exact⟨c,k,kk,rfl,ek⟩
  ·cases h
 ·cases h
section
variable {X:Cx}
set_option tactic.hygienic true in
theorem adL (iB iC iW iM iS:Nat) {tB tC tW tM:Str} {s3:Stmt} {q1 q2 p1 p2 p3 p4 p5 p6 p7 p8 p9 Np Nq Nr Nt p14 p15 p16 pt pf:Pos} {kt:Nat} (hN:X.N.Nodup) (hc:X.calm=true) (hp:PassesOwn (model X.prog X.w) X.A X.env X.xe) (hu:X.A.units+1 < cLine) (hgm:Gl X "min") (hmm:X.mg "min" =none)
  (h3:DS X s3 (aZ (f3 iB) (aG iS)))
  (hB:autoParam (X.N[iB]?=some tB) aN._auto_1) (hC:autoParam (X.N[iC]?=some tC) aN._auto_1) (hW:autoParam (X.N[iW]?=some tW) aN._auto_1) (hM:autoParam (X.N[iM]?=some tM) aN._auto_1) (hd:autoParam (iB≠iC/\iB≠iW/\iB≠iM/\iC≠iW/\iC≠iM/\iW≠iM) cD._auto_1) (hBS:autoParam (iB≠iS) cD._auto_1)
  (lB:autoParam (Loc X.env.scope tB) lJ._auto_1) (lC:autoParam (Loc X.env.scope tC) lJ._auto_1) (lW:autoParam (Loc X.env.scope tW) lJ._auto_1)
  (vB:autoParam (Vis X.env.scope tB) su._auto_1) (vC:autoParam (Vis X.env.scope tC) su._auto_1) (vW:autoParam (Vis X.env.scope tW) su._auto_1) (vM:autoParam (Vis X.env.scope tM) su._auto_1)
  (nB:autoParam (X.fn tB=true\/X.env.scope.names.lookup tB=some .local) lK._auto_1) (nC:autoParam (X.fn tC=true\/X.env.scope.names.lookup tC=some .local) lK._auto_1) (nW:autoParam (X.fn tW=true\/X.env.scope.names.lookup tW=some .local) lK._auto_1)
  (dB:autoParam ((tB ==("__debug__" :Str))=false) cD._auto_1) (dB':(tB ==("__classdict__" :Str))=false:=by decide) (dC:autoParam ((tC ==("__debug__" :Str))=false) cD._auto_1) (dC':(tC ==("__classdict__" :Str))=false:=by decide) (dW:autoParam ((tW ==("__debug__" :Str))=false) cD._auto_1) (dW':(tW ==("__classdict__" :Str))=false:=by decide) (dM:autoParam ((tM ==("__debug__" :Str))=false) cD._auto_1) (dM':(tM ==("__classdict__" :Str))=false:=by decide)
  (m2:M2 X (.Name tB p9) "get" Np (.Name tW Nq) (.Name tC Nr) Nt:=by exact⟨rfl,rfl,rfl,rfl⟩)
  (sa:autoParam (starEach [.Name tC p8,.Call (.Attribute (.Name tB p9) "get" Np) [.Name tW Nq,.Name tC Nr] [] Nt] X.env=(false,eval (.Name tC p8) X.env)::starEach [.Call (.Attribute (.Name tB p9) "get" Np) [.Name tW Nq,.Name tC Nr] [] Nt] X.env) aN._auto_1)
  (sb:starEach [.Call (.Attribute (.Name tB p9) "get" Np) [.Name tW Nq,.Name tC Nr] [] Nt] X.env=(false,eval (.Call (.Attribute (.Name tB p9) "get" Np) [.Name tW Nq,.Name tC Nr] [] Nt) X.env)::starEach [] X.env:=by rfl)
  (hpl:(backTo p14 (starEach [.Call (.Attribute (.Name tB p9) "get" Np) [.Name tW Nq,.Name tC Nr] [] Nt] X.env)).any (·.1)=false:=by rfl)
  (w1:autoParam (swapsWith (.Dict [] [] q2) (some (.Name tB q1)) p1.line X.env=pure false) aN._auto_1)
  (w2:autoParam (swapsWith (.Call (.Name "min" p7) [.Name tC p8,.Call (.Attribute (.Name tB p9) "get" Np) [.Name tW Nq,.Name tC Nr] [] Nt] [] p14) (some (.Subscript (.Name tB p5) (.Name tW p6) p15)) p16.line X.env=pure false) aN._auto_1)
  (hf:autoParam (∀x,foldedSetIterable (.Name tM p4) X.env x=pure x) yN._auto_1):
  c7 X [.Assign [.Name tB q1] (.Dict [] [] q2) p1,.For (.Tuple [.Name tC p2,.Name tW p3] kt pt) (.Name tM p4) [.Assign [.Subscript (.Name tB p5) (.Name tW p6) p15] (.Call (.Name "min" p7) [.Name tC p8,.Call (.Attribute (.Name tB p9) "get" Np) [.Name tW Nq,.Name tC Nr] [] Nt] [] p14) p16] [] pf,s3] (JH iB iC iW iM iS):=by
 obtain⟨aj2,hmin,ajD⟩:=Ce (X:=X) hc;have kB:=(z1b hB).1;have kC:=(z1b hC).1;have kW:=(z1b hW).1;have kM:=(z1b hM).1;refine PSs.imp (pss_cons (ps_set hN hB lB abq w1 nB) (pss_cons (ps_for hp hc (aaR (pe_var hM vM dM dM')) (pg_tup hc (pgs_cons (pg_name hN hC lC nC) (pgs_cons (pg_name hN hW lW nW) pgs_nil)))
  (pss_one (ps_dput hu (pe_var hB vB dB dB') (dv iW hW vW dW dW') (pe_callB hmin hgm hmm boot_min (pa_cons (dv iC hC vC dC dC') (pa_cons (pe_dget2 hu (pe_var hB vB dB dB') (dv iW hW vW dW dW') (dv iC hC vC dC dC') m2) pa_nil sb) sa) (by decide) (by decide) sa hpl) w2)) hf)
  (PSs.ghost (t:=λ E σ H=>∃p kv,H p=some (.dT kv)/\∀o,tS X (aZ (f3 iB) (aG iS)) E σ (upd H p (.frz o (.dT kv)))) (pss_one h3) λ pins s σ H E I q=>by
   obtain⟨p,kv,hu,q⟩:=q;obtain⟨o,I'⟩:=adJ I hu;exact⟨_,I',q o⟩))) λ σ H E h=>?_
 obtain⟨H0,O0,O,ρ,j,h⟩:=h;unfold JH at h;split at h
 case h_2=>exact h.elim
 rename_i ds qM;split at h
 case h_2=>exact h.elim
 rename_i F qF;split at h
 case h_2=>exact h.elim
 rename_i l ql;have eF:=abr ql;subst eF;by_cases hl:(l.map (·.1)).Nodup/\(∀p∈l,p.1≠[])/\l.length<=1000000
 case neg=>rw[if_neg hl] at h;exact h.elim
 rw[if_pos hl] at h;intro p hpn hpk;obtain⟨v0,hv0,aM,xs0,rfl,hOM,hHM,ou⟩:=j.inn.env.get iM _ qM;obtain⟨j1,r1⟩:=j.hide iB (o:= .dT []) hpn hpk;have h0p:H0 p=none:=j.same.free hpn;have j2:=(j1.forget iC).forget iW;have YW:σ.length=X.N.length:=j.inn.len;have qM2:(((ρ.set iB none).set iC none).set iW none)[iM]?=some (some (.lst ds)):=by
  rw[z1e hd.2.2.2.2.2,z1e hd.2.2.2.2.1,z1e hd.2.2.1];exact qM
 have sM:(σ.set iB (some (.ref p)))[iM]?=some (some (.ref aM)):=by rw[z1e hd.2.2.1];exact hv0
 have sB:(σ.set iB (some (.ref p)))[iB]?=some (some (.ref p)):=z2a (by rw[YW];exact kB);have ajE:upd H p (.dT []) aM=some (.lst xs0):=by rw[upd_ne (ne_of_none hHM hpn)];exact hHM
 refine⟨.ref aM,sM,aM,rfl,.inl ⟨⟨xs0,SqL.of ajE⟩,?_⟩⟩;refine⟨λ i m σ' H'=>∃kv,At X H0 O0 (λ a=>O a\/a=p) H' (((ρ.set iB none).set iC none).set iW none) σ'/\d7 X.K O H (λ a=>O a\/a=p) H'/\σ'[iM]?=some (some (.ref aM))/\σ'[iB]?=some (some (.ref p))/\H' p=some (.dT kv)/\i<=ds.length/\m=ds.length - i/\lV kv (ds.drop i)=some (eG l),
  ⟨_,[],j2,r1,sM,sB,upd_same,Nat.zero_le _,rfl,by simpa using qF⟩,?_⟩
 rintro i m σ' H' ⟨kv,j',r',sM',sB',hp',hil,rfl,hb⟩
 obtain⟨v1,hv1,a1,xs,e1,hO1,hH1,rs⟩:=j'.inn.env.get iM _ qM2;rw[sM'] at hv1;cases hv1;cases e1;have hlen:=rs.length;by_cases hlt:i < ds.length
 ·-- a turn
  have ed:ds.drop i=ds[i]::ds.drop (i+1):=List.drop_eq_getElem_cons hlt;rw[ed] at hb;obtain⟨c,k,kk,ec,ek⟩:=Y5 hb;rw[ec] at hb;obtain⟨g,hg,hkl,hb2⟩:=Y4 ek hb;have hix:i < xs.length:=by exact acX hlt hlen
  refine .inr ⟨⟨xs,xs[i],SqL.of hH1,List.getElem?_eq_getElem hix⟩,λ σ2 H2=>∃kv,At X H0 O0 (λ a=>O a\/a=p) H2 (((ρ.set iB none).set iC none).set iW none) σ2/\d7 X.K O H (λ a=>O a\/a=p) H2/\σ2[iM]?=some (some (.ref aM))/\σ2[iB]?=some (some (.ref p))/\H2 p=some (.dT kv)/\lV kv (ds.drop (i+1))=some (eG l),?_,?_⟩
  ·rintro σ2 H2 ⟨kv2,a1,a2,a3,a4,a5,a6⟩
   exact⟨ds.length - (i+1),by exact agb hlt,kv2,a1,a2,a3,a4,a5,by exact agj hlt,rfl,a6⟩
  ·rintro x H2 ⟨rfl,hx⟩
   have hx:=hx xs (SqL.of hH1);obtain⟨d,hd',rd⟩:=rs.aU hx;rw[List.getElem?_eq_getElem hlt] at hd';have hd':=Option.some.inj hd';rw[<-hd',ec] at rd;obtain⟨at_,ys,rfl,hqt,rts⟩:=rd.tup;obtain⟨v1,v2,rfl,rv1,rv2⟩:=rts.two;refine⟨at_,[v1,v2],rfl,hqt,rfl,v1,[v2],rfl,v2,[],rfl,rfl,?_⟩;have j3:=(j'.set kC rv1).set kW rv2;have gC:aU ((((((ρ.set iB none).set iC none).set iW none).set iC (some (.val (.int c)))).set iW (some (.val k)))) iC= .ok (.int c):=by
    unfold aU;rw[z1e (Ne.symm hd.2.2.2.1),z2a (by simp only[List.length_set];rw[j.inn.ju];exact kC)]
   have gW:aU ((((((ρ.set iB none).set iC none).set iW none).set iC (some (.val (.int c)))).set iW (some (.val k)))) iW= .ok k:=by
    unfold aU;rw[z2a (by simp only[List.length_set];rw[j.inn.ju];exact kW)]
   have sB3:((σ'.set iC (some v1)).set iW (some v2))[iB]?=some (some (.ref p)):=by rw[z1e (Ne.symm hd.2.1),z1e (Ne.symm hd.1)];exact sB'
   have sM3:((σ'.set iC (some v1)).set iW (some v2))[iM]?=some (some (.ref aM)):=by rw[z1e hd.2.2.2.2.2,z1e hd.2.2.2.2.1];exact sM'
   refine⟨_,_,j3.inn,?_⟩;show good X (rD X) _ (aU _ iC) _ _ _;rw[gC];intro u1 Ha Xw ra;refine⟨.ref p,sB3,p,rfl,.inr ⟨kv,.inl (Xw _ _ hp')⟩,_,_,j3.inn.same Xw,?_⟩;show good X (rD X) _ (aU _ iW) _ _ _;rw[gW];intro u2 Hb sb' rb;refine⟨_,_,(j3.inn.same Xw).same sb',?_⟩;show good X (rD X) _ (aU _ iC) _ _ _;rw[gC];intro u3 Hc sc' rc;obtain⟨b,rfl,hbt⟩:=zX ek rb;have hpc:Hc p=some (.dT kv):=sc' _ _ (sb' _ _ (Xw _ _ hp'));have hbc:Hc b=some (.tup (kk.map kV)):=sc' _ _ hbt;refine⟨valV kv kk,DGet.t hpc hbc,?_⟩;have ev:(valV kv kk).getD u3= .int g:=by
    rcases hg with⟨e1,e2⟩ |e1
    ·rw[e1,e2];exact rc.int
    ·rw[e1];rfl
   rw[ev,ra.int];have jc:=(((j3.grow Xw).grow sb').grow sc');refine ajD _ _ _ Hc _ [.int c,.int g] [.int c,.int g] jc.inn (.cons (bN c) (.cons (bN g) .nil)) ?_;show good X (rD X) _ (.ok (.int (if g < c then g else c))) _ Hc _;intro u4 Hd sd' rd';rw[rd'.int];refine⟨.ref p,sB3,_,_,jc.inn.same sd',?_⟩;show good X (rD X) _ (aU _ iW) _ _ _;rw[gW];intro u5 He se' re';obtain⟨b2,rfl,ajF⟩:=zX ek re';have hpe:He p=some (.dT kv):=se' _ _ (sd' _ _ hpc);refine⟨p,_,rfl,DPut.t hpe ajF (by have:=mL;omega),?_⟩;have je:=(jc.grow sd').grow se';obtain⟨jf,rf⟩:=je.agT (o:= .dT (putK kv kk (.int (if g < c then g else c)))) (.inr rfl) h0p hpe;refine⟨putK kv kk (.int (if g < c then g else c)),?_,?_,sM3,sB3,upd_same,hb2⟩
   ·have:=(jf.forget iC).forget iW;rw[adK] at this;exact this
   ·exact r'.trans ((Same.cZ (Xw.trans (sb'.trans (sc'.trans (sd'.trans se'))))).trans rf)
 ·-- the end
  have ei:i=ds.length:=by exact Yq hil hlt
  subst ei;rw[List.drop_length] at hb;have hb:some kv=some (eG l):=hb;have hb:=Option.some.inj hb;subst hb;refine .inl ⟨⟨xs,SqL.of hH1,by omega⟩,p,eG l,hp',λ o=>?_⟩;obtain⟨jr,rr⟩:=j'.agT (o:= .frz o (.dT (eG l))) (.inr rfl) h0p hp';have hBl:iB < (((ρ.set iB none).set iC none).set iW none).length:=by simp only[List.length_set];rw[j.inn.ju];exact kB
  have jk:At X H0 O0 (λ a=>O a\/a=p) (upd H' p (.frz o (.dT (eG l)))) ((((ρ.set iB none).set iC none).set iW none).set iB (some (.obj (.dct p o (eG l))))) σ':=by
   have un:∀{m:Nat} {x:Ent},((((ρ.set iB none).set iC none).set iW none).set iB (some (.obj (.dct p o (eG l)))))[m]?=some (some x)->(m=iB/\x= .obj (.dct p o (eG l)))\/(((ρ.set iB none).set iC none).set iW none)[m]?=some (some x):=λ {m x} hh=>by
    by_cases z:m=iB
    ·subst z;rw[z2a hBl] at hh;cases hh;exact .inl ⟨rfl,rfl⟩
    ·rw[z1e (Ne.symm z)] at hh;exact .inr hh
   refine⟨jr.same,jr.cZ,jr.sub,⟨⟨λ m e hh=>?_,λ m n e e' u hmn hm hn om on sm sn=>?_⟩,jr.inn.al,jr.inn.len,by rw[List.length_set];exact jr.inn.ju⟩,λ m e a hh ho hs=>?_⟩
   ·rcases un hh with⟨rfl,rfl⟩ |hh
    ·exact⟨.ref p,sB',rfl,upd_same⟩
    ·exact jr.inn.env.get m e hh
   ·rcases un hm with⟨rfl,rfl⟩ |hm
    ·cases om
    ·rcases un hn with⟨rfl,rfl⟩ |hn
     ·cases on
     ·exact jr.inn.env.sep m n e e' u hmn hm hn om on sm sn
   ·rcases un hh with⟨rfl,rfl⟩ |hh
    ·cases ho
    ·exact jr.mine m e a hh ho hs
  refine⟨H0,O0,_,_,jk,?_⟩;have ef:=aiq (iB:=iB) (a:=p) (o:=o) (z2a hBl) hl.1 hl.2.1 hl.2.2;unfold aZ jA;rw[ef];show tX X H0 O0 _ _ E (.nx (((((((ρ.set iB none).set iC none).set iW none).set iB (some (.obj (.dct p o (eG l))))).set iS (some (.val (.lst (l.map fW))))))));intro σ3 H3 O3 j3 r3;refine h σ3 H3 O3 ?_ ((r'.trans rr).trans r3);have j4:=j3.forget iB;rw[abu hd.1 hd.2.1 hBS] at j4;exact j4
end
section
variable {prog:Program} {w:World} {A:Around} {E:Value->Shared->Prop} {s:Shared} {I S:Addr} {fp wr:List Addr} {n:Nat} {P:Nat->Value->Prop} {St:Nat->Heap->Prop} {R:Result->Shared->Prop} {d:Value}
theorem abv (W:Walks prog w A.in1 I fp wr n P St) (bt:Nat->Nat->Bool) (hcmp:CmpOf prog w A.in1 .Lt P bt) (hSf:S∉fp):
  ∀(k j:Nat) (s:Shared) (vb:Value) (c:Nat),n - (j+1)=k->j+1<=n->St (j+1) s.heap->P (argBest bt j) vb->s.heap.get? S=some {cls:= .type "list",dict:=none,data:= .seq #[vb,vb] c,slots:= #[]}->
  (∀v h' tk,P (argBest bt (n - 1)) v->(∀b o,b∉wr->b≠S->s.heap.get? b=some o->h'.get? b=some o)->R (.ok (.ret v)) {s with heap:=h',toks:=tk})->
  codeAny (model prog w) A (.builtin "min.loop" ⟨[.ref I,.none,.ref S],[(Str.ofString "default",d)]⟩) R s:=by
 have hSw:S∉wr:=λ h=>hSf (W.sub _ h);have hname:(toString "min" ++toString ".loop" :String)= "min.loop" :=by decide
 intro k
 induction k with
 | zero=>
  intro j s vb c hk hj hst hPb hS hR;have hin:j+1=n:=by omega
  refine codeAny_builtin F.entry_min_loop ?_;rw[Around.under_plainId F.plain_min_loop _];show wpAny _ A.in1 (seqItems? (.ref S) >>=_) _ _ s;refine wpAny_bind (wpAny_seqItems hS rfl ?_);show wpAny _ A.in1 (tryCatch (pyNext (.ref I)) _ >>=_) _ _ s;refine wpAny_bind (wpAny_tryCatch (W.done s _ _ (hin▸hst) λ h' tk hk'=>?_));show wpAny _ A.in1 (updateSeq S (λ _u=> #[]) >>=_) _ _ _;refine wpAny_bind (wpAny_updateSeq (hk' S _ hSw hS) rfl (wpAny_bind (wpAny_letGo (wpAny_pure ?_))));exact hR vb _ tk (by rw[<-hin];exact hPb) λ b o hbw hbS e=>(Heap.get?_update_other _ _ (Ne.symm hbS)).trans (hk' b o hbw e)
 | succ k ih=>
  intro j s vb c hk hj hst hPb hS hR;have hlt:j+1 < n:=by omega
  refine codeAny_builtin F.entry_min_loop ?_;rw[Around.under_plainId F.plain_min_loop _];show wpAny _ A.in1 (seqItems? (.ref S) >>=_) _ _ s;refine wpAny_bind (wpAny_seqItems hS rfl ?_);show wpAny _ A.in1 (tryCatch (pyNext (.ref I)) _ >>=_) _ _ s;refine wpAny_bind (wpAny_tryCatch (W.item (j+1) s _ _ hlt hst λ v h' tk hP hst' hk'=>?_));have hS':=hk' S _ hSw hS;show wpAny _ A.in1 (tryCatch (holding [v,v] (richCompare .Lt v vb >>=_)) _ >>=_) _ _ _;refine wpAny_bind (wpAny_tryCatch (wpAny_holding (wpAny_bind (hcmp (j+1) (argBest bt j) v vb _ _ _ hP hPb ?_))));refine wpAny_bind (wpAny_holding (wpAny_truthy_bool (wpAny_bind (wpAny_letGo (wpAny_pure ?_)))));cases hb:bt (j+1) (argBest bt j) with
  | true=>
   simp only[if_true];refine wpAny_bind (wpAny_updateSeq hS' rfl (wpAny_bind (wpAny_letGo ?_)));rw[hname];refine wpAny_pure ⟨plainId_quiet F.plain_min_loop _,ih (j+1) _ v _ (by exact aea hk) hlt (W.frame _ _ _ hst' λ b hbf o e=>?_) (by simp only[argBest,hb,if_true];exact hP) (Heap.get?_update_self _ hS' rfl) λ v' h'' tk'' hP' hk''=>?_⟩
   ·exact (Heap.get?_update_other _ _ (λ h:S=b=>hSf (by rw[h];exact hbf))).trans e
   ·exact hR v' h'' tk'' hP' λ b o hbw hbS e=>hk'' b o hbw hbS ((Heap.get?_update_other _ _ (Ne.symm hbS)).trans (hk' b o hbw e))
  | false=>
   simp only[Bool.false_eq_true,if_false];refine wpAny_bind (wpAny_letGo ?_);rw[hname];refine wpAny_pure ⟨plainId_quiet F.plain_min_loop _,ih (j+1) _ vb c (by exact aea hk) hlt hst' (by simp only[argBest,hb,Bool.false_eq_true,if_false];exact hPb) hS' λ v' h'' tk'' hP' hk''=>?_⟩;exact hR v' h'' tk'' hP' λ b o hbw hbS e=>hk'' b o hbw hbS (hk' b o hbw e)
theorem Y6 (W:Walks prog w A.in1 I fp wr n P St) (bt:Nat->Nat->Bool) (hcmp:CmpOf prog w A.in1 .Lt P bt) (hSf:S∉fp) (hn:0 < n) {c:Nat} (hst:St 0 s.heap) (hS:s.heap.get? S=some {cls:= .type "list",dict:=none,data:= .seq #[] c,slots:= #[]})
  (hR:∀v h' tk,P (argBest bt (n - 1)) v->(∀b o,b∉wr->b≠S->s.heap.get? b=some o->h'.get? b=some o)->R (.ok (.ret v)) {s with heap:=h',toks:=tk}):
  codeAny (model prog w) A (.builtin "min.loop" ⟨[.ref I,.none,.ref S],[(Str.ofString "default",d)]⟩) R s:=by
 have hSw:S∉wr:=λ h=>hSf (W.sub _ h);have hname:(toString "min" ++toString ".loop" :String)= "min.loop" :=by decide
 refine codeAny_builtin F.entry_min_loop ?_;rw[Around.under_plainId F.plain_min_loop _];show wpAny _ A.in1 (seqItems? (.ref S) >>=_) _ _ s;refine wpAny_bind (wpAny_seqItems hS rfl ?_);show wpAny _ A.in1 (tryCatch (pyNext (.ref I)) _ >>=_) _ _ s;refine wpAny_bind (wpAny_tryCatch (W.item 0 s _ _ hn hst λ v h' tk hP hst' hk'=>?_));have hS':=hk' S _ hSw hS;show wpAny _ A.in1 (updateSeq S (λ _u=> #[v,v]) >>=_) _ _ _;refine wpAny_bind (wpAny_updateSeq hS' rfl ?_);rw[hname];refine wpAny_pure ⟨plainId_quiet F.plain_min_loop _,abv W bt hcmp hSf _ 0 _ v _ rfl hn (W.frame _ _ _ hst' λ b hbf o e=>?_) hP (Heap.get?_update_self _ hS' rfl) λ v' h'' tk'' hP' hk''=>?_⟩
 ·exact (Heap.get?_update_other _ _ (λ h:S=b=>hSf (by rw[h];exact hbf))).trans e
 ·exact hR v' h'' tk'' hP' λ b o hbw hbS e=>hk'' b o hbw hbS ((Heap.get?_update_other _ _ (Ne.symm hbS)).trans (hk' b o hbw e))
theorem Y7 (W:Walks prog w A.in1 I fp wr n P St) (hn:n=0) (hSf:S∉fp) {c:Nat} (hst:St 0 s.heap) (hS:s.heap.get? S=some {cls:= .type "list",dict:=none,data:= .seq #[] c,slots:= #[]})
  (hR:∀h' tk,(∀b o,b∉wr->s.heap.get? b=some o->h'.get? b=some o)->R (.ok (.ret d)) {s with heap:=h',toks:=tk}):
  codeAny (model prog w) A (.builtin "min.loop" ⟨[.ref I,.none,.ref S],[(Str.ofString "default",d)]⟩) R s:=by
 refine codeAny_builtin F.entry_min_loop ?_;rw[Around.under_plainId F.plain_min_loop _];show wpAny _ A.in1 (seqItems? (.ref S) >>=_) _ _ s;refine wpAny_bind (wpAny_seqItems hS rfl ?_);show wpAny _ A.in1 (tryCatch (pyNext (.ref I)) _ >>=_) _ _ s;refine wpAny_bind (wpAny_tryCatch (W.done s _ _ (by rw[hn];exact hst) λ h' tk hk'=>?_));refine wpAny_bind (wpAny_rule (wpAny_pure ?_));exact hR h' tk hk'
theorem ae7 {id:String} {b:Builtin} {args:List Value} {kw:List (Str×Value)} {Q:Value->Shared->Prop} (hk:builtinKind id=none) (hp:plainId id=true) (hb:entryFor table id=some b) (ha:argsOk id ⟨args,kw⟩)
  (hc:wpAny (model prog w) A.in1 (b ⟨args,kw⟩) (λ fin s'=>match fin with
   | .done f=>(match (Except.ok f:Result) with | .ok (.ret v)=>Q v s' | .ok _=>False | .error e=>E e s')
   | .again c'=>c'.quiet=true/\codeAny (model prog w) A c' (λ r s'=>match r with | .ok (.ret v)=>Q v s' | .ok _=>False | .error e=>E e s') s') E s):wpAny (model prog w) A (call (.builtin id) args kw) Q E s:=by
 refine wpAny_call (codeAny_call_builtin hp hb ?_);simp only[checkBuiltinCall,hk];cases hsig:Manifest.signature? id with
 |none=>exact wpAny_pure hc
 | some sig=>
  have ha':Bind.checkArgs id sig ⟨args,kw⟩=pure ():=by simpa only[argsOk,hsig] using ha
  simp only[ha'];exact wpAny_pure hc
theorem Oe (a b:Value):argsOk "min" ⟨[a],[(Str.ofString "default",b)]⟩:=by unfold argsOk;kernel_rfl
theorem Og {l:Addr} {xs:Array (Int×Tok)} {Q:Value->Shared->Prop} (hh:A.handled=none) (hl:s.heap.IsList l (intItems xs))
  (h0:xs.size=0->∀h' tk,(∀b o,s.heap.get? b=some o->h'.get? b=some o)->Q d {s with heap:=h',toks:=tk})
  (h1:0 < xs.size->∀v h' tk,(intItems xs)[argBest (λ i j=>decide (numAt xs i < numAt xs j)) (xs.size - 1)]?=some v->(∀b o,s.heap.get? b=some o->h'.get? b=some o)->Q v {s with heap:=h',toks:=tk}):
  wpAny (model prog w) A (call (.builtin "min") [.ref l] [(Str.ofString "default",d)]) Q E s:=by
 have hname:(toString "min" ++toString ".loop" :String)= "min.loop" :=by decide
 refine ae7 PySem.F.kind_min PySem.F.plain_min PySem.F.entry_min (Oe _ _) ?_;show wpAny _ A.in1 (Builtin.Builtins.bindParams "min" ["key","default"] 0 ⟨[],[(Str.ofString "default",d)]⟩ >>=_) _ _ s;refine wpAny_bind (wpAny_of_eq (show Builtin.Builtins.bindParams "min" ["key","default"] 0 ⟨[],[(Str.ofString "default",d)]⟩=pure [none,some d] from rfl) ?_);refine wpAny_bind (wpAny_pure (wpAny_bind (iter_intList hl λ s₂ e st hfp hlI=>?_)));subst e;refine wpAny_bind (wpAny_newObj_type ?_);rw[hname];have W:=Walks.list (prog:=prog) (w:=w) (A:=A.in1) hh s.heap.objs.size l hlI (intItems xs);have hSf:(s.heap.push {cls:= .type "list_iterator",data:= .fields #[.ref l,.int 0 0]}).objs.size∉[s.heap.objs.size,l]:=λ hm=>Nat.lt_irrefl _ (hfp _ hm);refine wpAny_pure ⟨plainId_quiet F.plain_min_loop _,?_⟩;have st':=W.frame 0 _ ((s.heap.push {cls:= .type "list_iterator",data:= .fields #[.ref l,.int 0 0]}).push {cls:= .type "list",data:= .seq ([]:List Value).toArray}) st λ b _u o e=>z1a _ e;by_cases hz:xs.size=0
 ·refine Y7 W (by simpa[intItems] using hz) hSf (s:={s with heap:=_,toks:=_}) st' (z1f _ rfl) λ h' tk hk=>?_;exact h0 hz h' tk λ b o e=>hk b o (λ hm=>by rw[List.mem_singleton] at hm;rw[hm] at e;exact absurd (z2c e) (Nat.lt_irrefl _)) (z1a _ (z1a _ e))
 ·refine Y6 W _ (CmpOf.ints_lt (numAt xs) (λ _u _u=>intItems_at)) hSf (by simpa[intItems] using Nat.pos_of_ne_zero hz) (s:={s with heap:=_,toks:=_}) st' (z1f _ rfl) λ v h' tk hP hk=>?_;refine h1 (Nat.pos_of_ne_zero hz) v h' tk (by simpa[intItems] using hP) λ b o e=>hk b o (λ hm=>?_) (λ hm=>?_) (z1a _ (z1a _ e))
  ·rw[List.mem_singleton] at hm;rw[hm] at e;exact absurd (z2c e) (Nat.lt_irrefl _)
  ·have:=z2c e;rw[hm,Heap.size_push] at this;exact absurd this (Nat.not_lt.mpr (Nat.le_succ _))
end
noncomputable def aeA:Option (List Int)->R D
 |some []=> .ok .non
 |some (n::ns)=> .ok (.int (bestOf ltB (n::ns)))
 |none=> .bad
noncomputable def rF:D->R D
 | .lst ds=>aeA (intsOf ds)
 |_=> .bad
section
variable {X:Cx} {e:Expr} {f:ao->R D} {p pos kpos cpos:Pos} {kk:Nat}
theorem ae8 {jj} (hc:X.calm=true) (hg:Gl X "min") (hm:X.mg "min" =none) (he:DE X e f)
  (h1:autoParam (backTo pos (starEach [e] X.env)=(false,eval e X.env)::backTo pos (starEach [] X.env)) aN._auto_1) (h1':starEach [e] X.env=(false,eval e X.env)::starEach [] X.env:=by rfl) (h2:autoParam ((backTo pos (starEach [e] X.env)).any (·.1)=false) aN._auto_1)
  (h3:autoParam ((backToKw pos (keywordEach [⟨some "default",.Constant .none jj cpos,kpos⟩] X.env)).all (·.1.isSome)=true) aN._auto_1) (h4:autoParam ((backToKw pos (keywordEach [⟨some "default",.Constant .none jj cpos,kpos⟩] X.env)).any (·.1.isNone)=false) aN._auto_1)
  (h5:autoParam ((backToKw pos (keywordEach [⟨some "default",.Constant .none jj cpos,kpos⟩] X.env)).filterMap (·.1)=[("default" :Str)]) aN._auto_1):
  DE X (.Call (.Name "min" p) [e] [⟨some "default",.Constant .none jj cpos,kpos⟩] pos) (λ ρ=>(f ρ).bind rF):=by
 intro pins s σ H Q I h;obtain⟨ρ,O,j,h⟩:=h;refine wpAny_Call_Name_kw (ld_blt I hg hm boot_min ?_ (by decide) (by decide));have hA:PA X [e] (tCons (tG X (rD X) f) tNil):=pa_cons he pa_nil h1';refine PyProof.Rows.callWith_kw (thn (hA pos pins s σ H (λ vs H1=>∃v,vs=[v]/\∃d,f ρ= .ok d/\Rep X.K O H1 d v/\In X O H1 ρ σ/\good X (rD X) O (rF d) σ H1 Q) I (go j h λ d v H1 e1 s1 r1 j1 q1=>⟨v,rfl,d,e1,r1,j1,q1⟩)) λ us s1 ⟨vs,H1,I1,r,q⟩=>?_) h1 h2 h3 h4;obtain⟨v,rfl,d,ed,rd,j1,q⟩:=q;obtain⟨u,rfl,ru⟩:=vals1 r;have hK:PK X [⟨some "default",.Constant .none jj cpos,kpos⟩] (tCons (tC .non) tNil):=pk_cons pe_non pk_nil;refine thn (hK pos pins s1 σ H1 (λ zs H2=>zs=[.non]/\H2=H1) I1 ⟨rfl,rfl⟩) λ ws s2 bh=>?_;obtain⟨zs,H2,I2,rz,ez,eH⟩:=bh;subst ez;subst eH;obtain⟨w1,rfl,rw1⟩:=vals1 rz;rw[h5];have ew:w1= .none:=rw1;subst ew;cases d with
 | lst ds=>
  obtain⟨a,us,rfl,hq,hn,rs⟩:=rd.lst;cases ru;have q:good X (rD X) O (aeA (intsOf ds)) σ H2 Q:=q;cases ei:intsOf ds with
  |none=>rw[ei] at q;exact q.elim
  | some ns=>
   have eu:=Cj ei rs;subst eu;obtain⟨its,r',pl,hz⟩:=I2.list hq;obtain⟨zs,e1,e2⟩:=YD r';have hs:zs.size=ns.length:=by rw[e2];simp
   show wpAny (model X.prog X.w) X.A (call (.builtin "min") [.ref a] [(Str.ofString "default",.none)]) _ _ s2;refine Og (I2.ok.hd hc) (e1▸pl.isList) (λ h0 h' tk hk=>?_) (λ h0 v h' tk hv hk=>?_)
   ·have en:ns=[]:=List.eq_nil_of_length_eq_zero (by omega);subst en;rw[ei] at q;exact⟨.non,H2,I2.kept hk,rfl,fin (a:=D.non) q Fi⟩
   ·obtain⟨t,rfl⟩:=intItems_at hv;have e3:(λ i j=>decide (numAt zs i < numAt zs j))=λ i j=>ltB (ns.getD i 0) (ns.getD j 0):=by
     funext i j;rw[numAt_eq e2,numAt_eq e2]
    rw[e3,hs,numAt_eq e2,adi ltB (by omega)];cases ns with
    |nil=>exact absurd h0 (by rw[hs];exact Nat.lt_irrefl _)
    | cons n0 ns=>
     rw[ei] at q;exact⟨.int _,H2,I2.kept hk,⟨t,rfl⟩,fin (a:=D.int (bestOf ltB (n0::ns))) q (bN _)⟩
 |_=>exact q.elim
end
end Pu
namespace Fl
noncomputable def sm:Nat->(Nat->Int)->Int
 |0,_=>0
 |n+1,f=>sm n f+f n
theorem bw {f g:Nat->Int}:∀{n:Nat},(∀i,i < n->f i=g i)->sm n f=sm n g
 |0,_=>rfl
 | n+1,h=>by
  show sm n f+f n=sm n g+g n;rw[bw λ i hi=>h i (Nat.lt_succ_of_lt hi),h n (Nat.lt_succ_self n)]
theorem fZ {f g:Nat->Int}:∀{n:Nat},(∀i,i < n->f i<=g i)->sm n f<=sm n g
 |0,_=>Int.le_refl _
 |n+1,h=>Int.add_le_add (fZ λ i hi=>h i (Nat.lt_succ_of_lt hi)) (h n (Nat.lt_succ_self n))
theorem jO {f g:Nat->Int}:∀n,sm n (λ i=>f i+g i)=sm n f+sm n g
 |0=>rfl
 | n+1=>by
  show sm n _+(f n+g n)=(sm n f+f n)+(sm n g+g n);rw[jO n];omega
theorem Cy {f:Nat->Int}:∀n,sm n (λ i=> -f i)= -sm n f
 |0=>rfl
 | n+1=>by
  show sm n _+ -f n= -(sm n f+f n);rw[Cy n];omega
theorem Cz {f g:Nat->Int} (n:Nat):sm n (λ i=>f i - g i)=sm n f - sm n g:=by
 have h:=jO (f:=f) (g:=λ i=> -g i) n;rw[Cy n] at h;exact (bw λ i _u=>Int.sub_eq_add_neg).trans (h.trans Int.sub_eq_add_neg.symm)
theorem o7:∀n,sm n (λ _u=>0)=0
 |0=>rfl
 | n+1=>by
  show sm n _+0=0;rw[o7 n];rfl
theorem oW {n:Nat} {f:Nat->Int} (h:∀i,i < n->f i=0):sm n f=0:=(bw h).trans (o7 n)
theorem nq {n:Nat} {f:Nat->Int} (h:∀i,i < n->0<=f i):0<=sm n f:=by
 have:=fZ h;rw[o7 n] at this;exact this
theorem kh {a:Int}:∀n:Nat,sm n (λ _u=>a)=n*a
 |0=>by rw[show ((0:Nat):Int)=0 from rfl,Int.zero_mul];rfl
 | n+1=>by
  show sm n _+a=_;rw[kh n,Int.natCast_succ,Int.add_mul,Int.one_mul]
theorem o8 {f:Nat->Nat->Int} (m:Nat):∀n,sm n (λ i=>sm m λ j=>f i j)=sm m λ j=>sm n λ i=>f i j
 |0=>(o7 m).symm
 | n+1=>by
  show sm n (λ i=>sm m λ j=>f i j)+sm m (λ j=>f n j)=_;rw[o8 m n];exact (jO m).symm
theorem pI {a:Int} {k:Nat}:∀{n:Nat},k < n->sm n (λ i=>if i=k then a else 0)=a
 |0,h=>absurd h (Nat.not_lt_zero _)
 | n+1,h=>by
  show sm n _+(if n=k then a else 0)=a;by_cases e:n=k
  ·rw[if_pos e,oW λ i hi=>if_neg (by omega)];exact aeb
  ·rw[if_neg e,pI (show k < n by omega)];omega
theorem JK {f:Nat->Int} {k:Nat} {n:Nat} (h:k < n):sm n (λ i=>if i=k then f i else 0)=f k:=by
 rw[<-pI (a:=f k) h];exact bw λ i _u=>by
  by_cases e:i=k
  ·rw[if_pos e,if_pos e,e]
  ·rw[if_neg e,if_neg e]
theorem Ga {f:Nat->Int} {n k:Nat} (h:∀i,i < n->0<=f i) (hk:k < n):f k<=sm n f:=by
 rw[<-JK (f:=f) hk];exact fZ λ i hi=>by
  by_cases e:i=k
  ·rw[if_pos e];exact Int.le_refl _
  ·rw[if_neg e];exact h i hi
theorem Rf {f:Nat->Int}:∀n,sm n (λ i=>f (i+1) - f i)=f n - f 0
 |0=>by show (0:Int)=_;omega
 | n+1=>by
  show sm n _+(f (n+1) - f n)=_;rw[Rf n];omega
theorem Gs {f g:Nat->Int} {n:Nat} (h:∀i,i < n->f i<=g i) (e:sm n g<=sm n f):∀i,i < n->f i=g i:=by
 intro i hi;have h1:=Ga (f:=λ i=>g i - f i) (n:=n) (k:=i) (λ j hj=>by have:=h j hj;exact Yt this) hi;rw[Cz n] at h1;have:=h i hi;have h1:g i - f i<=sm n g - sm n f:=h1;omega
noncomputable def inn (W x y:Nat):Nat:=2*(y*W+x+1)
noncomputable def out (W x y:Nat):Nat:=2*(y*W+x+1)+1
section
variable {W x y x' y':Nat}
theorem kj:inn W x y / 2=y*W+x+1:=by unfold inn;omega
theorem jD:out W x y / 2=y*W+x+1:=by unfold out;omega
theorem za (h:x < W):(y*W+x) % W=x:=by rw[Nat.mul_comm,Nat.mul_add_mod];exact Nat.mod_eq_of_lt h
theorem zc (h:x < W):(y*W+x) / W=y:=by
 rw[Nat.mul_comm,Nat.mul_add_div (by omega),Nat.div_eq_of_lt h];rfl
theorem Xx {H:Nat} (h:x < W) (hy:y < H):y*W+x < W*H:=by
 have:(y+1)*W<=H*W:=Nat.mul_le_mul_right W hy;rw[Nat.add_mul,Nat.one_mul,Nat.mul_comm H W] at this;omega
theorem zf {H:Nat} (h:x < W) (hy:y < H):inn W x y < 2*(W*H+1):=by have:=Xx h hy;unfold inn;omega
theorem ux {H:Nat} (h:x < W) (hy:y < H):out W x y < 2*(W*H+1):=by have:=Xx h hy;unfold out;omega
theorem Xy:2<=inn W x y:=by unfold inn;exact Nat.le_add_left _ _
theorem ae9:3<=out W x y:=by unfold out;exact Nat.le_add_left _ _
end
noncomputable def tbl (W:Nat) (a0 a1:Int) (fi fo:Nat->Nat->Int) (v:Nat):Int:=
 if v=0 then a0 else if v=1 then a1 else if v % 2=0 then fi ((v / 2 - 1) % W) ((v / 2 - 1) / W) else fo ((v / 2 - 1) % W) ((v / 2 - 1) / W)
section
variable {W x y:Nat} {a0 a1:Int} {fi fo:Nat->Nat->Int}
theorem Mj (h:x < W):tbl W a0 a1 fi fo (inn W x y)=fi x y:=by
 have hp:=Xy (W:=W) (x:=x) (y:=y);unfold tbl;rw[if_neg (by exact Nat.succ_ne_zero _),if_neg (by exact Nat.ne_of_gt hp),if_pos (by unfold inn;omega),kj,Nat.add_sub_cancel,za h,zc h]
theorem Ml (h:x < W):tbl W a0 a1 fi fo (out W x y)=fo x y:=by
 have hp:=ae9 (W:=W) (x:=x) (y:=y);unfold tbl;rw[if_neg (by exact Nat.succ_ne_zero _),if_neg (by omega),if_neg (by unfold out;omega),jD,Nat.add_sub_cancel,za h,zc h]
end
noncomputable def lM (ahead:Nat->Nat):Nat->Nat->Prop
 |0,v=>v=0
 |d+1,v=>v≠0/\lM ahead d (ahead v)
theorem lM.uniq {ahead:Nat->Nat}:∀{d e v:Nat},lM ahead d v->lM ahead e v->d=e
 |0,0,_,_,_=>rfl
 |0,_+1,_,h,k=>absurd h k.1
 |_+1,0,_,h,k=>absurd k h.1
 |d+1,e+1,_,h,k=>by rw[lM.uniq h.2 k.2]
noncomputable def vis (ahead:Nat->Nat):Nat->Nat->Nat->Bool
 |0,_,_=>false
 |d+1,v,w=>w ==v || vis ahead d (ahead v) w
theorem Xz {ahead:Nat->Nat}:∀{d v w:Nat},lM ahead d v->vis ahead d v w=true->∃e,e < d/\lM ahead (e+1) w
 |0,_,_,_,h=>by cases h
 | d +1,v,w,c,h=>by
  rcases (Bool.or_eq_true _ _).mp h with h |h
  ·have:w=v:=by simpa using h
   subst this;exact⟨d,Nat.lt_succ_self d,c⟩
  ·obtain⟨e,h1,h2⟩:=Xz c.2 h;exact⟨e,Nat.lt_succ_of_lt h1,h2⟩
theorem Mp {ahead:Nat->Nat} {d v:Nat} (c:lM ahead (d+1) v):vis ahead d (ahead v) v=false:=by
 cases h:vis ahead d (ahead v) v with
 |false=>rfl
 | true=>
  obtain⟨e,h1,h2⟩:=Xz c.2 h;have:=lM.uniq c h2;omega
noncomputable def upd {α:Type} (f:Nat->α) (k:Nat) (a:α):Nat->α:=λ i=>if i=k then a else f i
theorem nu {α:Type} {f:Nat->α} {k:Nat} {a:α}:upd f k a k=a:=if_pos rfl
theorem dG {α:Type} {f:Nat->α} {k i:Nat} {a:α} (h:i≠k):upd f k a i=f i:=if_neg h
theorem agV {f:Nat->Int} {k n:Nat} {a:Int} (h:k < n):sm n (upd f k a)=sm n f+(a - f k):=by
 rw[<-pI (a:=a - f k) h,<-jO];exact bw λ i _u=>by
  by_cases e:i=k
  ·rw[e,nu,if_pos rfl];omega
  ·rw[dG e,if_neg e];exact Je
noncomputable def Rt (ahead:Nat->Nat) (least:Nat->Int) (far:Int):Nat->Nat->Prop
 |0,v=>v=0\/least v=far
 |d+1,v=>¬(v=0\/least v=far)/\Rt ahead least far d (ahead v)
structure mX (A:Nat->Nat->Int->Prop) (n:Nat) (far:Int) (q least:Nat->Int) (ahead:Nat->Nat):Prop where
 z:least 0=0
 lo:∀v,v < n->q v<=least v
 hi:∀v,v < n->least v<=far
 ar:∀v,v < n->v≠0->least v < far->∃c,A (ahead v) v c/\least (ahead v)+c<=least v
 ch:∀v,v < n->∃d,Rt ahead least far d v
section
variable {A:Nat->Nat->Int->Prop} {n:Nat} {far:Int} {q least:Nat->Int} {ahead:Nat->Nat}
theorem mX.first (q0:q 0<=0) (hq:∀v,v < n->q v<=far) (h0:0<=far):mX A n far q (λ v=>if v=0 then 0 else far) (λ _u=>0) where
 z:=if_pos rfl
 lo:=λ v hv=>by
  by_cases e:v=0
  ·rw[if_pos e,e];exact q0
  ·rw[if_neg e];exact hq v hv
 hi:=λ v _u=>by
  by_cases e:v=0
  ·rw[if_pos e];exact h0
  ·rw[if_neg e];exact Int.le_refl _
 ar:=λ v _u e h=>by rw[if_neg e] at h;exact absurd h (Int.lt_irrefl _)
 ch:=λ v _u=>⟨0,by
  by_cases e:v=0
  ·exact .inl e
  ·exact .inr (if_neg e)⟩
theorem mX.step (S:mX A n far q least ahead) (hA:∀u v c,A u v c->u < n/\v < n/\v≠0) (hf:∀u v c,A u v c->q v<=q u+c) {u v:Nat} {c:Int} (a:A u v c) (h:least u+c < least v):
  mX A n far q (upd least v (least u+c)) (upd ahead v u):=by
 obtain⟨hu,hv,v0⟩:=hA u v c a;have hqv:=hf u v c a;have hlu:=S.lo u hu;have hvf:=S.hi v hv;have huv:u≠v:=λ e=>by subst e;omega
 have near:∀d w,w < n->Rt ahead least far d w->least w - q w < least v - q v->Rt (upd ahead v u) (upd least v (least u+c)) far d w:=by
  intro d
  induction d with
  | zero=>
   intro w hw r hd;have wv:w≠v:=λ e=>by subst e;exact aec hd
   rcases r with r |r
   ·exact .inl r
   ·exact .inr (by rw[dG wv];exact r)
  | succ d ih=>
   intro w hw r hd;have wv:w≠v:=λ e=>by subst e;exact aec hd
   obtain⟨r1,r2⟩:=r;have hw0:w≠0:=λ e=>r1 (.inl e);have hwf:least w < far:=by
    have h1:=S.hi w hw;have h2:least w≠far:=λ e=>r1 (.inr e);exact aed h1 r1
   obtain⟨c',a',l'⟩:=S.ar w hw hw0 hwf;have f':=hf _ _ _ a';have h':=(hA _ _ _ a').1;refine⟨λ e=>r1 (e.imp id λ e=>by rw[dG wv] at e;exact e),?_⟩;rw[dG wv];exact ih (ahead w) h' r2 (by omega)
 obtain⟨du,ru⟩:=S.ch u hu;have ru':=near du u hu ru (by omega);have rv':Rt (upd ahead v u) (upd least v (least u+c)) far (du+1) v:=by
  refine⟨λ e=>e.elim v0 λ e=>?_,by rw[nu];exact ru'⟩;rw[nu] at e;omega
 refine⟨?_,λ w hw=>?_,λ w hw=>?_,λ w hw w0 hl=>?_,λ w hw=>?_⟩
 ·rw[dG (Ne.symm v0)];exact S.z
 ·by_cases e:w=v
  ·rw[e,nu];omega
  ·rw[dG e];exact S.lo w hw
 ·by_cases e:w=v
  ·rw[e,nu];omega
  ·rw[dG e];exact S.hi w hw
 ·by_cases e:w=v
  ·subst e;rw[nu,nu,dG huv];exact⟨c,a,Int.le_refl _⟩
  ·rw[dG e] at hl;obtain⟨c',a',l'⟩:=S.ar w hw w0 hl;refine⟨c',by rw[dG e];exact a',?_⟩;rw[dG e,dG e];by_cases e2:ahead w=v
   ·rw[e2,nu];rw[e2] at l';omega
   ·rw[dG e2];exact l'
 ·obtain ⟨d,r⟩:=S.ch w hw;have all:∀d w,w < n->Rt ahead least far d w->∃d,Rt (upd ahead v u) (upd least v (least u+c)) far d w:=by
   intro d
   induction d with
   | zero=>
    intro w hw r;by_cases e:w=v
    ·rw[e];exact⟨_,rv'⟩
    ·exact⟨0,r.imp id λ r=>by rw[dG e];exact r⟩
   | succ d ih=>
    intro w hw r;by_cases e:w=v
    ·rw[e];exact⟨_,rv'⟩
    ·obtain⟨r1,r2⟩:=r;have hwf:least w < far:=by
      have h1:=S.hi w hw;have h2:least w≠far:=λ e=>r1 (.inr e);exact aed h1 r1
     obtain⟨c',a',_⟩:=S.ar w hw (λ e=>r1 (.inl e)) hwf;obtain⟨d',r'⟩:=ih (ahead w) (hA _ _ _ a').1 r2;exact⟨d'+1,λ z=>r1 (z.imp id λ z=>by rw[dG e] at z;exact z),by rw[dG e];exact r'⟩
  exact all d w hw r
theorem mX.over (S:mX A n far q least ahead) (hA:∀u v c,A u v c->u < n/\v < n/\v≠0) (hf:∀u v c,A u v c->q v<=q u+c) (ex:∀u v c,A u v c->least v<=least u+c)
  {t:Nat} (ht:t < n) (hb:∀r,r < n->least t - q t < far - q r):
  ∃(d:Nat) (G:Nat->Prop),lM ahead d t/\G t/\∀v,G v->v≠0->G (ahead v)/\∃c,A (ahead v) v c/\least v=least (ahead v)+c:=by
 have go:∀v,v < n/\least v - q v<=least t - q t->v≠0->(ahead v < n/\least (ahead v) - q (ahead v)<=least t - q t)/\∃c,A (ahead v) v c/\least v=least (ahead v)+c:=by
  rintro v ⟨hv,hd⟩ v0
  have hb':=hb v hv;obtain⟨c,a,l⟩:=S.ar v hv v0 (by omega);have f:=hf _ _ _ a;have e:=ex _ _ _ a;exact⟨⟨(hA _ _ _ a).1,by omega⟩,c,a,by omega⟩
 have dn:∀d v,v < n/\least v - q v<=least t - q t->Rt ahead least far d v->lM ahead d v:=by
  intro d
  induction d with
  | zero=>
   rintro v ⟨hv,hd⟩ r
   have hb':=hb v hv;exact r.elim id λ r=>by omega
  | succ d ih=>
   intro v hv r;have v0:v≠0:=λ e=>r.1 (.inl e);exact⟨v0,ih _ (go v hv v0).1 r.2⟩
 obtain⟨d,r⟩:=S.ch t ht;exact⟨d,_,dn d t ⟨ht,Int.le_refl _⟩ r,⟨ht,Int.le_refl _⟩,go⟩
end
structure dX (W H k:Nat) (T:Nat->Nat->Bool) (s:Nat->Nat->Nat):Prop where
 lt:∀i y,i < k->y < H->s i y < W
 srt:∀i y,i+1 < k->y < H->s i y < s (i+1) y
 nr:∀i y,i < k->y+1 < H->s i (y+1)<=s i y+1/\s i y<=s i (y+1)+1
 tk:∀x y,x < W->y < H->(T x y=true↔∃i,i < k/\s i y=x)
inductive gY (W H k:Nat) (c:Nat->Nat->Int) (T:Nat->Nat->Bool) (s:Nat->Nat->Nat):Nat->Nat->Int->Prop
 |st {x:Nat}:x < W->gY W H k c T s 0 (inn W x 0) 0
 |cl {x y:Nat}:x < W->y < H->T x y=false->gY W H k c T s (inn W x y) (out W x y) (c x y)
 |dn {x x' y:Nat}:x < W->x' < W->y+1 < H->x'<=x+1->x<=x'+1->gY W H k c T s (out W x y) (inn W x' (y+1)) 0
 |en {x y:Nat}:x < W->y+1=H->gY W H k c T s (out W x y) 1 0
 |ue {i y:Nat}:i < k->y+1=H->gY W H k c T s 1 (out W (s i y) y) 0
 |up {i y:Nat}:i < k->y+1 < H->gY W H k c T s (inn W (s i (y+1)) (y+1)) (out W (s i y) y) 0
 |bk {i y:Nat}:i < k->y < H->gY W H k c T s (out W (s i y) y) (inn W (s i y) y) (-c (s i y) y)
section
variable {W H k:Nat} {c:Nat->Nat->Int} {T:Nat->Nat->Bool} {s:Nat->Nat->Nat}
theorem dX.mono (S:dX W H k T s) {y:Nat} (hy:y < H):∀{i j:Nat},i < j->j < k->s i y < s j y:=by
 intro i j hij
 induction j with
 |zero=>exact absurd hij (Nat.not_lt_zero _)
 | succ j ih=>
  intro hj;have h1:=S.srt j y hj hy;by_cases e:i=j
  ·rw[e];exact h1
  ·exact Nat.lt_trans (ih (by omega) (by exact z0e hj)) h1
theorem dX.inj (S:dX W H k T s) {y i j:Nat} (hy:y < H) (hi:i < k) (hj:j < k) (e:s i y=s j y):i=j:=by
 rcases Nat.lt_trichotomy i j with h |h |h
 ·have:=S.mono hy h hj;omega
 ·exact h
 ·have:=S.mono hy h hi;omega
theorem dX.row (S:dX W H k T s) {y:Nat} (hy:y < H) (g:Nat->Int):sm W (λ x=>if T x y=true then g x else 0)=sm k λ i=>g (s i y):=by
 have e1:sm W (λ x=>if T x y=true then g x else 0)=sm W λ x=>sm k λ i=>if x=s i y then g x else 0:=bw λ x hx=>by
  by_cases t:T x y=true
  ·rw[if_pos t];obtain⟨j,hj,e⟩:=(S.tk x y hx hy).mp t;refine (pI (a:=g x) hj).symm.trans (bw λ i hi=>?_);by_cases e2:i=j
   ·rw[if_pos e2,if_pos (by rw[e2,e])]
   ·rw[if_neg e2,if_neg λ z=>e2 (S.inj hy hi hj (by omega))]
  ·rw[if_neg t];exact (oW λ i hi=>if_neg λ z=>t ((S.tk x y hx hy).mpr ⟨i,hi,z.symm⟩)).symm
 rw[e1,o8 k W];exact bw λ i hi=>JK (S.lt i y hi hy)
noncomputable def Sf (W H:Nat) (T:Nat->Nat->Bool) (φ:Nat->Int):Int:=sm H λ y=>sm W λ x=>if T x y=true then φ (out W x y) - φ (inn W x y) else 0
theorem dX.Sf (S:dX W H k T s) (φ:Nat->Int):Fl.Sf W H T φ=sm k λ i=>sm H λ y=>φ (out W (s i y) y) - φ (inn W (s i y) y):=by
 unfold Fl.Sf;rw[bw λ y hy=>S.row hy λ x=>φ (out W x y) - φ (inn W x y)];exact o8 k H
noncomputable def dl (W H:Nat) (s:Nat->Nat->Nat) (φ:Nat->Int) (i y:Nat):Int:=(if y+1 < H then φ (inn W (s i (y+1)) (y+1)) else φ 1) - φ (out W (s i y) y)
theorem Rg (hH:0 < H) (φ:Nat->Int) (i:Nat):sm H (λ y=>φ (out W (s i y) y) - φ (inn W (s i y) y))=φ 1 - φ (inn W (s i 0) 0) - sm H (dl W H s φ i):=by
 have h:=Rf (f:=λ y=>if y < H then φ (inn W (s i y) y) else φ 1) H;simp only[Nat.lt_irrefl,if_false,hH,if_true] at h;have e:sm H (λ y=>(if y+1 < H then φ (inn W (s i (y+1)) (y+1)) else φ 1) - (if y < H then φ (inn W (s i y) y) else φ 1))=sm H (λ y=>φ (out W (s i y) y) - φ (inn W (s i y) y))+sm H (dl W H s φ i):=by
  rw[<-jO];exact bw λ y hy=>by rw[if_pos hy];unfold dl;omega
 rw[e] at h;omega
theorem dX.Sf' (S:dX W H k T s) (hH:0 < H) (φ:Nat->Int):Fl.Sf W H T φ=sm k λ i=>φ 1 - φ (inn W (s i 0) 0) - sm H (dl W H s φ i):=by
 rw[S.Sf φ];exact bw λ i _u=>Rg hH φ i
noncomputable def uy (T:Nat->Nat->Bool) (a b:Nat):Nat->Nat->Bool:=λ x y=>if x=a/\y=b then !T x y else T x y
theorem abw {a b:Nat}:uy T a b a b= !T a b:=if_pos ⟨rfl,rfl⟩
theorem tD {a b x y:Nat} (h:¬(x=a/\y=b)):uy T a b x y=T x y:=if_neg h
theorem agW {a b:Nat} (ha:a < W) (hb:b < H) (φ:Nat->Int):Sf W H (uy T a b) φ=Sf W H T φ+(if T a b=true then -(φ (out W a b) - φ (inn W a b)) else φ (out W a b) - φ (inn W a b)):=by
 generalize hd:(if T a b=true then -(φ (out W a b) - φ (inn W a b)) else φ (out W a b) - φ (inn W a b))=dd
 rw[<-pI (a:=dd) hb];unfold Sf;rw[<-jO];refine bw λ y hy=>?_;by_cases e:y=b
 ·rw[if_pos e];subst e;rw[<-pI (a:=dd) ha,<-jO];refine bw λ x hx=>?_;by_cases e2:x=a
  ·subst e2;rw[abw,if_pos rfl,<-hd];cases T x y with
   |false=>simp
   |true=>simp;omega
  ·rw[tD (λ z=>e2 z.1),if_neg e2];exact Je
 ·rw[if_neg e,Int.add_zero];exact bw λ x _u=>by rw[tD (λ z=>e z.2)]
theorem gY.nodes (S:dX W H k T s) (hW:0 < W) (hH:0 < H) {u v:Nat} {w:Int} (a:gY W H k c T s u v w):u < 2*(W*H+1)/\v < 2*(W*H+1)/\v≠0:=by
 have hWH:0 < W*H:=Nat.mul_pos hW hH;cases a with
 |st hx=>exact⟨by exact Nat.succ_pos _,zf hx hH,by have:= @Xy W;unfold inn;exact Nat.succ_ne_zero _⟩
 |cl hx hy t=>exact⟨zf hx hy,ux hx hy,by unfold out;exact Nat.succ_ne_zero _⟩
 |dn hx hx' hy _ _=>exact⟨ux hx (by exact z0e hy),zf hx' hy,by unfold inn;exact Nat.succ_ne_zero _⟩
 |en hx hy=>exact⟨ux hx (by exact z0f hy),by exact Nat.le_add_left _ _,by exact Nat.succ_ne_zero _⟩
 |ue hi hy=>exact⟨by exact Nat.le_add_left _ _,ux (S.lt _ _ hi (by exact z0f hy)) (by exact z0f hy),by unfold out;exact Nat.succ_ne_zero _⟩
 |up hi hy=>exact⟨zf (S.lt _ _ hi hy) hy,ux (S.lt _ _ hi (by exact z0e hy)) (by exact z0e hy),by unfold out;exact Nat.succ_ne_zero _⟩
 |bk hi hy=>exact⟨ux (S.lt _ _ hi hy) hy,zf (S.lt _ _ hi hy) hy,by unfold inn;exact Nat.succ_ne_zero _⟩
theorem XC {x x' y:Nat} (h:x < W):y*W+x+1≠(y+1)*W+x'+1:=by rw[Nat.add_mul];omega
theorem gY.cell (S:dX W H k T s) {u v:Nat} {w:Int} (a:gY W H k c T s u v w) (h:u / 2=v / 2):
  ∃x y,x < W/\y < H/\((u=inn W x y/\v=out W x y/\T x y=false/\w=c x y)\/(u=out W x y/\v=inn W x y/\T x y=true/\w= -c x y)):=by
 cases a with
 |st hx=>rw[kj] at h;omega
 | @cl x y hx hy t=>exact⟨x,y,hx,hy,.inl ⟨rfl,rfl,t,rfl⟩⟩
 |dn hx hx' hy _ _=>rw[kj,jD] at h;exact absurd h (XC hx)
 |en hx hy=>rw[jD] at h;omega
 |ue hi hy=>rw[jD] at h;omega
 | @up i y hi hy=>rw[kj,jD] at h;exact absurd h.symm (XC (S.lt i y hi (by exact z0e hy)))
 | @bk i y hi hy=>exact⟨s i y,y,S.lt i y hi hy,hy,.inr ⟨rfl,rfl,(S.tk _ _ (S.lt i y hi hy) hy).mpr ⟨i,hi,rfl⟩,rfl⟩⟩
theorem gY.air {u v:Nat} {w:Int} (a:gY W H k c T s u v w) (h:u / 2≠v / 2):w=0:=by
 cases a with
 |cl hx hy t=>rw[kj,jD] at h;exact absurd rfl h
 |bk hi hy=>rw[kj,jD] at h;exact absurd rfl h
 |_=>rfl
structure uz (W H:Nat) (φ:Nat->Int):Prop where
 st:∀x,x < W->φ 0<=φ (inn W x 0)
 dn:∀x x' y,x < W->x' < W->y+1 < H->x'<=x+1->x<=x'+1->φ (out W x y)<=φ (inn W x' (y+1))
 en:∀x y,x < W->y+1=H->φ (out W x y)<=φ 1
theorem uz.dl {φ:Nat->Int} (R:uz W H φ) (S:dX W H k T s) {i y:Nat} (hi:i < k) (hy:y < H):0<=Fl.dl W H s φ i y:=by
 unfold Fl.dl;by_cases h:y+1 < H
 ·rw[if_pos h];obtain⟨h1,h2⟩:=S.nr i y hi h;have:=R.dn (s i y) (s i (y+1)) y (S.lt i y hi hy) (S.lt i _ hi h) h h1 h2;exact Yt this
 ·rw[if_neg h];have:=R.en (s i y) y (S.lt i y hi hy) (by exact vP hy h);exact Yt this
noncomputable def gb (W H k:Nat) (s:Nat->Nat->Nat) (φ:Nat->Int) (v:Nat):Int:=sm k λ i=>sm H λ y=>if v=out W (s i y) y then dl W H s φ i y else 0
theorem CG {φ:Nat->Int} (R:uz W H φ) (S:dX W H k T s) (v:Nat):0<=gb W H k s φ v:=nq λ i hi=>nq λ y hy=>by
 by_cases e:v=out W (s i y) y
 ·rw[if_pos e];exact R.dl S hi hy
 ·rw[if_neg e];exact Int.le_refl _
theorem aeB {φ:Nat->Int} (R:uz W H φ) (S:dX W H k T s) {i y:Nat} (hi:i < k) (hy:y < H):dl W H s φ i y<=gb W H k s φ (out W (s i y) y):=by
 have nn:∀j z,j < k->z < H->0<=(if out W (s i y) y=out W (s j z) z then dl W H s φ j z else 0):=λ j z hj hz=>by
  by_cases e:out W (s i y) y=out W (s j z) z
  ·rw[if_pos e];exact R.dl S hj hz
  ·rw[if_neg e];exact Int.le_refl _
 have h1:=Ga (f:=λ z=>if out W (s i y) y=out W (s i z) z then dl W H s φ i z else 0) (n:=H) (λ z hz=>nn i z hi hz) hy;have h2:=Ga (f:=λ j=>sm H λ z=>if out W (s i y) y=out W (s j z) z then dl W H s φ j z else 0) (n:=k) (λ j hj=>nq λ z hz=>nn j z hj hz) hi;have h1:(if out W (s i y) y=out W (s i y) y then dl W H s φ i y else 0)<=_:=h1;rw[if_pos rfl] at h1;exact Int.le_trans h1 h2
theorem agX (S:dX W H k T s) (φ:Nat->Int):sm (2*(W*H+1)) (gb W H k s φ)=sm k λ i=>sm H (dl W H s φ i):=by
 unfold gb;rw[o8 k _];refine bw λ i hi=>?_;rw[o8 H _];exact bw λ y hy=>pI (ux (S.lt i y hi hy) hy)
theorem gY.link {φ:Nat->Int} (R:uz W H φ) (S:dX W H k T s) {u v:Nat} {w:Int} (a:gY W H k c T s u v w) (h:u / 2≠v / 2): -gb W H k s φ v<=φ v - φ u:=by
 have g0:=CG R S v;cases a with
 |cl hx hy t=>rw[kj,jD] at h;exact absurd rfl h
 |bk hi hy=>rw[kj,jD] at h;exact absurd rfl h
 |st hx=>have:=R.st _ hx;exact Yu g0 this
 |dn hx hx' hy h1 h2=>have:=R.dn _ _ _ hx hx' hy h1 h2;exact Yu g0 this
 |en hx hy=>have:=R.en _ _ hx hy;exact Yu g0 this
 | @ue i y hi hy=>
  have:=aeB R S hi (show y < H by exact z0f hy);unfold dl at this;rw[if_neg (by exact PJ hy)] at this;exact aee this
 | @up i y hi hy=>
  have:=aeB R S hi (show y < H by exact z0e hy);unfold dl at this;rw[if_pos hy] at this;exact aee this
end
noncomputable def gk (W:Nat) (ahead:Nat->Nat):Nat->Nat->(Nat->Nat->Bool)->Nat->Nat->Bool
 |0,_,T=>T
 |d+1,v,T=>gk W ahead d (ahead v) (if ahead v / 2=v / 2 then uy T ((v / 2 - 1) % W) ((v / 2 - 1) / W) else T)
noncomputable def Bx (ahead:Nat->Nat) (φ:Nat->Int):Nat->Nat->Int
 |0,_=>0
 |d+1,v=>(if ahead v / 2=v / 2 then 0 else φ v - φ (ahead v))+Bx ahead φ d (ahead v)
theorem aeC {ahead:Nat->Nat} {G:Nat->Prop} (hG:∀v,G v->v≠0->G (ahead v)):∀{d v w:Nat},lM ahead d v->G v->vis ahead d v w=true->G w/\w≠0
 |0,_,_,_,_,h=>by cases h
 | d +1,v,w,c,g,h=>by
  rcases (Bool.or_eq_true _ _).mp h with h |h
  ·have:w=v:=by simpa using h
   subst this;exact⟨g,c.1⟩
  ·exact aeC hG c.2 (hG v g c.1) h
section
variable {W H k:Nat} {c:Nat->Nat->Int} {T0:Nat->Nat->Bool} {s:Nat->Nat->Nat} {ahead:Nat->Nat} {p:Nat->Int} {G:Nat->Prop}
noncomputable def CJ (W H:Nat) (c:Nat->Nat->Int) (p:Nat->Int) (T:Nat->Nat->Bool):Prop:=∀x y,x < W->y < H->(T x y=true->p (inn W x y)+c x y<=p (out W x y))/\(T x y=false->p (out W x y)<=p (inn W x y)+c x y)
theorem XD {u v x y:Nat} (hx:x < W) (h:(u=inn W x y/\v=out W x y)\/(u=out W x y/\v=inn W x y)):(v / 2 - 1) % W=x/\(v / 2 - 1) / W=y:=by
 rcases h with⟨_,rfl⟩ |⟨_,rfl⟩
 ·rw[jD,Nat.add_sub_cancel];exact⟨za hx,zc hx⟩
 ·rw[kj,Nat.add_sub_cancel];exact⟨za hx,zc hx⟩
theorem zY (S:dX W H k T0 s) (hG:∀v,G v->v≠0->G (ahead v)/\∃w,gY W H k c T0 s (ahead v) v w/\p v=p (ahead v)+w):
  ∀ (d v:Nat) (T:Nat->Nat->Bool),lM ahead d v->G v->(∀w,vis ahead d v w=true->ahead w / 2=w / 2->T ((w / 2 - 1) % W) ((w / 2 - 1) / W)=T0 ((w / 2 - 1) % W) ((w / 2 - 1) / W))->CJ W H c p T->
   (∀φ,Sf W H (gk W ahead d v T) φ=Sf W H T φ+(φ v - φ 0) - Bx ahead φ d v)/\CJ W H c p (gk W ahead d v T)
 | 0,v,T,ch,g,ag,co=>by
  have ch:v=0:=ch;subst ch;exact⟨λ φ=>by show Sf W H T φ=Sf W H T φ+(φ 0 - φ 0) - 0;omega,co⟩
 | d + 1,v,T,ch,g,ag,co=>by
  obtain⟨v0,Gu⟩:=id ch;obtain⟨g',w,a,tight⟩:=hG v g v0;have agv:∀w,vis ahead d (ahead v) w=true->vis ahead (d+1) v w=true:=λ w h=>by
   show (w ==v || vis ahead d (ahead v) w)=true;rw[h,Bool.or_true]
  by_cases e:ahead v / 2=v / 2
  ·obtain⟨x,y,hx,hy,hc⟩:=a.cell S e;have hcv:(v / 2 - 1) % W=x/\(v / 2 - 1) / W=y:=XD hx (hc.imp (λ z=>⟨z.1,z.2.1⟩) λ z=>⟨z.1,z.2.1⟩);have tv:T x y=T0 x y:=by
    have:=ag v (by show (v ==v || _)=true;simp) e;rw[hcv.1,hcv.2] at this;exact this
   have step:gk W ahead (d+1) v T=gk W ahead d (ahead v) (uy T x y):=by
    show gk W ahead d (ahead v) (if ahead v / 2=v / 2 then _ else T)=_;rw[if_pos e,hcv.1,hcv.2]
   have ag':∀w,vis ahead d (ahead v) w=true->ahead w / 2=w / 2->uy T x y ((w / 2 - 1) % W) ((w / 2 - 1) / W)=T0 ((w / 2 - 1) % W) ((w / 2 - 1) / W):=λ w hw ew=>by
    rw[<-ag w (agv w hw) ew];refine tD λ z=>?_;have wv:w≠v:=λ z=>by rw[z,Mp ch] at hw;cases hw
    obtain⟨gw,w0⟩:=aeC (λ v g h=>(hG v g h).1) Gu g' hw;obtain⟨_,w',a',_⟩:=hG w gw w0;obtain⟨x',y',hx',hy',hc'⟩:=a'.cell S ew;have hcw:=XD hx' (hc'.imp (λ z=>⟨z.1,z.2.1⟩) λ z=>⟨z.1,z.2.1⟩);have ex:x'=x:=hcw.1.symm.trans z.1;have ey:y'=y:=hcw.2.symm.trans z.2;subst ex ey;have hu:w=ahead v/\ahead w=v:=by
     rcases hc with⟨c1,c2,_⟩ |⟨c1,c2,_⟩ <;> rcases hc' with⟨c3,c4,_⟩ |⟨c3,c4,_⟩
     ·exact absurd (c4.trans c2.symm) wv
     ·exact⟨c4.trans c1.symm,c3.trans c2.symm⟩
     ·exact⟨c4.trans c1.symm,c3.trans c2.symm⟩
     ·exact absurd (c4.trans c2.symm) wv
    have ch2:lM ahead d w:=by rw[hu.1];exact Gu
    cases d with
    |zero=>exact w0 ch2
    | succ d=>
     have ch3:=ch2.2;rw[hu.2] at ch3;have:=lM.uniq ch ch3;omega
   have co':CJ W H c p (uy T x y):=λ x' y' hx' hy'=>by
    by_cases z:x'=x/\y'=y
    ·obtain⟨rfl,rfl⟩:=z;rcases hc with⟨c1,c2,_,c4⟩ |⟨c1,c2,_,c4⟩ <;> rw[c1,c2,c4] at tight
     ·exact⟨λ _u=>by omega,λ _u=>by omega⟩
     ·exact⟨λ _u=>by omega,λ _u=>by omega⟩
    ·rw[tD z];exact co x' y' hx' hy'
   obtain⟨h1,h2⟩:=zY S hG d (ahead v) (uy T x y) Gu g' ag' co';rw[step];refine⟨λ φ=>?_,h2⟩;rw[h1 φ,agW hx hy φ,tv];have el:Bx ahead φ (d+1) v=Bx ahead φ d (ahead v):=by
    show (if ahead v / 2=v / 2 then 0 else φ v - φ (ahead v))+Bx ahead φ d (ahead v)=_;rw[if_pos e];exact aeb
   rw[el];rcases hc with⟨c1,c2,c3,_⟩ |⟨c1,c2,c3,_⟩
   ·rw[c3,if_neg Bool.false_ne_true,c1,c2];omega
   ·rw[c3,if_pos rfl,c1,c2];omega
  ·have step:gk W ahead (d+1) v T=gk W ahead d (ahead v) T:=by
    show gk W ahead d (ahead v) (if ahead v / 2=v / 2 then _ else T)=_;rw[if_neg e]
   obtain⟨h1,h2⟩:=zY S hG d (ahead v) T Gu g' (λ w hw ew=>ag w (agv w hw) ew) co;rw[step];refine⟨λ φ=>?_,h2⟩;rw[h1 φ];have el:Bx ahead φ (d+1) v=φ v - φ (ahead v)+Bx ahead φ d (ahead v):=by
    show (if ahead v / 2=v / 2 then 0 else φ v - φ (ahead v))+Bx ahead φ d (ahead v)=_;rw[if_neg e]
   rw[el];omega
theorem aeD (hG:∀v,G v->v≠0->G (ahead v)/\∃w,gY W H k c T0 s (ahead v) v w/\p v=p (ahead v)+w):∀(d v:Nat),lM ahead d v->G v->Bx ahead p d v=0
 |0,_,_,_=>rfl
 | d +1,v,ch,g=>by
  obtain⟨g',w,a,tight⟩:=hG v g ch.1;show (if ahead v / 2=v / 2 then 0 else p v - p (ahead v))+Bx ahead p d (ahead v)=0;rw[aeD hG d (ahead v) ch.2 g'];by_cases e:ahead v / 2=v / 2
  ·rw[if_pos e];rfl
  ·rw[if_neg e];have:=a.air e;omega
theorem abx (S:dX W H k T0 s) (hW:0 < W) (hH:0 < H) {φ:Nat->Int} (R:uz W H φ) (hG:∀v,G v->v≠0->G (ahead v)/\∃w,gY W H k c T0 s (ahead v) v w/\p v=p (ahead v)+w):
  ∀(d v:Nat),lM ahead d v->G v->-sm (2*(W*H+1)) (λ w=>if vis ahead d v w=true then gb W H k s φ w else 0)<=Bx ahead φ d v
 | 0,_,_,_=>by
  show -sm _ (λ w=>if false=true then gb W H k s φ w else 0)<=0;rw[oW λ i _u=>if_neg Bool.false_ne_true];exact Int.le_refl _
 | d + 1,v,ch,g=>by
  obtain⟨g',w,a,tight⟩:=hG v g ch.1;have ih:=abx S hW hH R hG d (ahead v) ch.2 g';have hv:=(a.nodes S hW hH).2.1;have nv:=Mp ch;have e1:sm (2*(W*H+1)) (λ w=>if vis ahead (d+1) v w=true then gb W H k s φ w else 0)=sm (2*(W*H+1)) (λ w=>if vis ahead d (ahead v) w=true then gb W H k s φ w else 0)+gb W H k s φ v:=by
   rw[<-pI (a:=gb W H k s φ v) hv,<-jO];refine bw λ i _u=>?_;show (if (i ==v || vis ahead d (ahead v) i)=true then gb W H k s φ i else 0)=_;by_cases z:i=v
   ·subst z;rw[nv,if_pos (by simp),if_pos rfl,if_neg Bool.false_ne_true];exact aef
   ·have:(i ==v)=false:=by simpa using z
    rw[this,Bool.false_or,if_neg z];exact Je
  rw[e1];show _<=(if ahead v / 2=v / 2 then 0 else φ v - φ (ahead v))+Bx ahead φ d (ahead v);have g0:=CG R S v;by_cases e:ahead v / 2=v / 2
  ·rw[if_pos e];omega
  ·rw[if_neg e];have:=a.link R S e;omega
theorem afa (S:dX W H k T0 s) (hW:0 < W) (hH:0 < H) {φ:Nat->Int} (R:uz W H φ) (hG:∀v,G v->v≠0->G (ahead v)/\∃w,gY W H k c T0 s (ahead v) v w/\p v=p (ahead v)+w)
  {d:Nat} (ch:lM ahead d 1) (g:G 1) (co:CJ W H c p T0):Sf W H (gk W ahead d 1 T0) φ<=(k+1:Nat)*(φ 1 - φ 0):=by
 obtain⟨h1,_⟩:=zY S hG d 1 T0 ch g (λ _u _u _u=>rfl) co;have h2:=abx S hW hH R hG d 1 ch g;have h3:sm (2*(W*H+1)) (λ w=>if vis ahead d 1 w=true then gb W H k s φ w else 0)<=sm (2*(W*H+1)) (gb W H k s φ):=fZ λ w _u=>by
  by_cases e:vis ahead d 1 w=true
  ·rw[if_pos e];exact Int.le_refl _
  ·rw[if_neg e];exact CG R S w
 rw[agX S φ] at h3;have h4:Sf W H T0 φ<=sm k (λ _u=>φ 1 - φ 0) - sm k λ i=>sm H (dl W H s φ i):=by
  rw[S.Sf' hH φ,<-Cz];exact fZ λ i hi=>by
   have:=R.st (s i 0) (S.lt i 0 hi hH);omega
 rw[kh k] at h4;rw[h1 φ,Int.natCast_succ,Int.add_mul,Int.one_mul];omega
end
noncomputable def cnt (P:Nat->Bool) (t:Nat):Nat->Nat
 |0=>0
 |n+1=>cnt P t n+if P n=true/\n<=t then 1 else 0
noncomputable def pl (P:Nat->Bool) (n:Nat):List Nat:=(List.range n).filter P
section
variable {P:Nat->Bool} {t n:Nat}
theorem Mq:pl P (n+1)=pl P n++if P n=true then [n] else []:=by
 unfold pl;rw[List.range_succ,List.filter_append];cases h:P n <;> simp[h]
theorem Mr (h:n<=t+1):cnt P t n=(pl P n).length:=by
 induction n with
 |zero=>rfl
 | succ n ih=>
  rw[Mq,z1d,<-ih (by exact z0e h)];show cnt P t n+_=_;cases e:P n with
  |false=>simp
  |true=>rw[if_pos ⟨rfl,by exact Nat.le_of_lt_succ h⟩,if_pos rfl];rfl
theorem agY:cnt P t n<=(pl P n).length:=by
 induction n with
 |zero=>exact z0g _
 | succ n ih=>
  rw[Mq,z1d];show cnt P t n+_<=_;cases e:P n with
  |false=>simp;exact ih
  | true=>
   rw[if_pos rfl];by_cases h:n<=t
   ·rw[if_pos ⟨rfl,h⟩];simpa using ih
   ·rw[if_neg λ z=>h z.2];simp;exact Nat.le_succ_of_le ih
theorem aby {x:Nat}:x∈pl P n↔x < n/\P x=true:=by
 unfold pl;rw[List.mem_filter,List.mem_range]
theorem CK:∀{n i:Nat},i < (pl P n).length->((pl P n).getD i 0<=t↔i < cnt P t n)
 |0,i,h=>absurd h (Nat.not_lt_zero _)
 | n + 1,i,h=>by
  have hc:cnt P t (n+1)=cnt P t n+if P n=true/\n<=t then 1 else 0:=rfl;rw[hc];rw[Mq] at h |-;by_cases hi:i < (pl P n).length
  ·rw[List.getD_eq_getElem?_getD,List.getElem?_append_left hi,<-List.getD_eq_getElem?_getD,CK hi];by_cases z:P n=true/\n<=t
   ·rw[if_pos z];have:=Mr (P:=P) (t:=t) (n:=n) (by omega);omega
   ·rw[if_neg z];omega
  ·cases e:P n with
   |false=>rw[e,if_neg Bool.false_ne_true,List.append_nil] at h;exact absurd h hi
   | true=>
    rw[e,if_pos rfl,z1d] at h;have ei:i=(pl P n).length:=by have:i < (pl P n).length+1:=h;exact ahK this hi
    rw[if_pos rfl,ei,List.getD_eq_getElem?_getD,List.getElem?_append_right (z0g _),Nat.sub_self];show n<=t↔_;by_cases z:n<=t
    ·rw[if_pos ⟨rfl,z⟩,Mr (P:=P) (t:=t) (n:=n) (by exact Nat.le_succ_of_le z)];exact⟨λ _u=>Nat.lt_succ_self _,λ _u=>z⟩
    ·rw[if_neg λ q=>z q.2];have:=agY (P:=P) (t:=t) (n:=n);exact⟨λ q=>absurd q z,λ q=>by omega⟩
theorem getD_mem {l:List Nat} {i:Nat} (h:i < l.length):l.getD i 0∈l:=by
 rw[List.getD_eq_getElem?_getD,List.getElem?_eq_getElem h];exact List.getElem_mem h
theorem aeE {i:Nat} (h:i < (pl P n).length):(pl P n).getD i 0 < n/\P ((pl P n).getD i 0)=true:=aby.mp (getD_mem h)
theorem agZ:(pl P n).Pairwise (· < ·):=by
 unfold pl;exact List.Pairwise.filter _ List.pairwise_lt_range
theorem ag0 {i:Nat} (h:i+1 < (pl P n).length):(pl P n).getD i 0 < (pl P n).getD (i+1) 0:=by
 rw[List.getD_eq_getElem?_getD,List.getD_eq_getElem?_getD,List.getElem?_eq_getElem h,List.getElem?_eq_getElem (show i < _ by exact z0e h)];exact List.pairwise_iff_getElem.mp agZ i (i+1) (by exact z0e h) h (by exact z0g _)
theorem ag1 {x:Nat} (h:x∈pl P n):∃i,i < (pl P n).length/\(pl P n).getD i 0=x:=by
 obtain⟨i,hi,e⟩:=List.mem_iff_getElem.mp h;exact⟨i,hi,by rw[List.getD_eq_getElem?_getD,List.getElem?_eq_getElem hi];exact e⟩
theorem CN:∀n,((cnt P t n:Nat):Int)=sm n λ x=>if P x=true then (if x<=t then 1 else 0) else 0
 |0=>rfl
 | n +1=>by
  show ((cnt P t n+(if P n=true/\n<=t then 1 else 0):Nat):Int)=sm n _+(if P n=true then (if n<=t then 1 else 0) else 0);rw[Int.natCast_add,CN n];by_cases h:P n=true
  ·by_cases k:n<=t
   ·rw[if_pos ⟨h,k⟩,if_pos h,if_pos k];rfl
   ·rw[if_neg λ z=>k z.2,if_pos h,if_neg k];rfl
  ·rw[if_neg λ z=>h z.1,if_neg h];rfl
end
section
variable {W H:Nat} {T:Nat->Nat->Bool} {a0 a1:Int} {fi fo:Nat->Nat->Int}
theorem abz:Sf W H T (tbl W a0 a1 fi fo)=sm H λ y=>sm W λ x=>if T x y=true then fo x y - fi x y else 0:=
 bw λ y _u=>bw λ x hx=>by rw[Mj hx,Ml hx]
theorem uz.tbl (st:∀x,x < W->a0<=fi x 0) (dn:∀x x' y,x < W->x' < W->y+1 < H->x'<=x+1->x<=x'+1->fo x y<=fi x' (y+1)) (en:∀x y,x < W->y+1=H->fo x y<=a1) (hH:0 < H):uz W H (tbl W a0 a1 fi fo) where
 st:=λ x hx=>by rw[Mj hx];exact st x hx
 dn:=λ x x' y hx hx' hy h1 h2=>by rw[Ml hx,Mj hx'];exact dn x x' y hx hx' hy h1 h2
 en:=λ x y hx hy=>by rw[Ml hx];exact en x y hx hy
noncomputable def Nu (W H m:Nat) (T:Nat->Nat->Bool):Prop:=∀φ,uz W H φ->Sf W H T φ<=(m:Int)*(φ 1 - φ 0)
theorem Nu.row {m:Nat} (B:Nu W H m T) (hH:0 < H) {y0:Nat} (hy:y0 < H):(pl (λ x=>T x y0) W).length=m:=by
 have e:∀a:Int,sm H (λ y=>sm W λ x=>if T x y=true then (if y0<=y then a else 0) - (if y0 < y then a else 0) else 0)=sm W λ x=>if T x y0=true then a else 0:=λ a=>by
  have h1:sm H (λ y=>sm W λ x=>if T x y=true then (if y0<=y then a else 0) - (if y0 < y then a else 0) else 0)=sm H λ y=>if y=y0 then (λ y=>sm W λ x=>if T x y=true then a else 0) y else 0:=bw λ y _u=>by
   by_cases z:y=y0
   ·subst z;rw[if_pos rfl];exact bw λ x _u=>by rw[if_pos (z0g _),if_neg (Nat.lt_irrefl _),Int.sub_zero]
   ·rw[if_neg z];refine oW λ x _u=>?_;by_cases q:y0<=y
    ·rw[if_pos q,if_pos (c:=y0 < y) (by omega),Int.sub_self];exact ite_self _
    ·rw[if_neg q,if_neg (c:=y0 < y) (by omega),Int.sub_self];exact ite_self _
  rw[h1,JK hy]
 have ris:∀a:Int,uz W H (Fl.tbl W 0 a (λ x y=>if y0 < y then a else 0) (λ x y=>if y0<=y then a else 0)):=λ a=>by
  refine uz.tbl (λ x _u=>?_) (λ x x' y _u _u _u _u _u=>?_) (λ x y _u h=>?_) hH
  ·rw[if_neg (Nat.not_lt_zero _)];exact Int.le_refl _
  ·by_cases q:y0<=y
   ·rw[if_pos q,if_pos (by exact Nat.lt_succ_of_le q)];exact Int.le_refl _
   ·rw[if_neg q,if_neg (by omega)];exact Int.le_refl _
  ·rw[if_pos (by omega)];exact Int.le_refl _
 have ct:∀a:Int,sm W (λ x=>if T x y0=true then a else 0)<=m*a:=λ a=>by
  have h:=B _ (ris a);rw[abz,e a] at h;have e1:Fl.tbl W 0 a (λ x y=>if y0 < y then a else 0) (λ x y=>if y0<=y then a else 0) 1=a:=rfl;have e0:Fl.tbl W 0 a (λ x y=>if y0 < y then a else 0) (λ x y=>if y0<=y then a else 0) 0=0:=rfl;rw[e1,e0,Int.sub_zero] at h;exact h
 have h1:=ct 1;have h2:=ct (-1);have e3:sm W (λ x=>if T x y0=true then (-1:Int) else 0)= -sm W (λ x=>if T x y0=true then (1:Int) else 0):=by
  rw[<-Cy];refine bw λ x _u=>?_;by_cases q:T x y0=true
  ·rw[if_pos q,if_pos q]
  ·rw[if_neg q,if_neg q];rfl
 have e4:=CN (P:=λ x=>T x y0) (t:=W) W;rw[Mr (by exact Nat.le_add_right _ _)] at e4;have e5:sm W (λ x=>if T x y0=true then (if x<=W then (1:Int) else 0) else 0)=sm W (λ x=>if T x y0=true then (1:Int) else 0):=bw λ x hx=>by rw[if_pos (z0e hx)]
 have e4:(((pl (λ x=>T x y0) W).length:Nat):Int)=sm W (λ x=>if T x y0=true then (if x<=W then (1:Int) else 0) else 0):=e4;rw[e5] at e4;rw[e3] at h2;omega
theorem adM {y0:Nat} (hy:y0+1 < H) {f:Nat->Int} (h:∀y,y < H->y≠y0->y≠y0+1->f y=0):sm H f=f y0+f (y0+1):=by
 rw[<-JK (f:=f) (show y0 < H by exact z0e hy),<-JK (f:=f) hy,<-jO];refine bw λ y hy'=>?_;by_cases a:y=y0
 ·rw[if_pos a,if_neg (by omega)];exact Je
 ·rw[if_neg a];by_cases b:y=y0+1
  ·rw[if_pos b];exact aef
  ·rw[if_neg b,h y hy' a b];rfl
theorem Nu.near {m:Nat} (B:Nu W H m T) (hH:0 < H) {y0:Nat} (hy:y0+1 < H) (t:Nat):cnt (λ x=>T x y0) t W<=cnt (λ x=>T x (y0+1)) (t+1) W/\cnt (λ x=>T x (y0+1)) t W<=cnt (λ x=>T x y0) (t+1) W:=by
 have go :∀(a:Int) (t1 t2:Nat),uz W H (Fl.tbl W 0 0 (λ x y=>if y=y0+1/\x<=t2 then a else 0) (λ x y=>if y=y0/\x<=t1 then a else 0))->
   sm W (λ x=>if T x y0=true then (if x<=t1 then a else 0) else 0)<=sm W (λ x=>if T x (y0+1)=true then (if x<=t2 then a else 0) else 0):=λ a t1 t2 R=>by
  have h:=B _ R;rw[abz] at h;have e1:Fl.tbl W 0 0 (λ x y=>if y=y0+1/\x<=t2 then a else 0) (λ x y=>if y=y0/\x<=t1 then a else 0) 1=0:=rfl;have e0:Fl.tbl W 0 0 (λ x y=>if y=y0+1/\x<=t2 then a else 0) (λ x y=>if y=y0/\x<=t1 then a else 0) 0=0:=rfl;rw[e1,e0,Int.sub_self,Int.mul_zero,adM hy λ y _u n1 n2=>oW λ x _u=>by rw[if_neg (c:=y=y0/\x<=t1) (λ z=>n1 z.1),if_neg (c:=y=y0+1/\x<=t2) (λ z=>n2 z.1),Int.sub_self];exact ite_self _] at h;have q1:sm W (λ x=>if T x y0=true then (if y0=y0/\x<=t1 then a else 0) - (if y0=y0+1/\x<=t2 then a else 0) else 0)=sm W (λ x=>if T x y0=true then (if x<=t1 then a else 0) else 0):=bw λ x _u=>by
   rw[if_neg (c:=y0=y0+1/\x<=t2) (λ z=>by omega),Int.sub_zero];by_cases z:x<=t1
   ·rw[if_pos (c:=y0=y0/\x<=t1) ⟨rfl,z⟩,if_pos z]
   ·rw[if_neg (c:=y0=y0/\x<=t1) (λ q=>z q.2),if_neg z]
  have q2:sm W (λ x=>if T x (y0+1)=true then (if y0+1=y0/\x<=t1 then a else 0) - (if y0+1=y0+1/\x<=t2 then a else 0) else 0)= -sm W (λ x=>if T x (y0+1)=true then (if x<=t2 then a else 0) else 0):=by
   rw[<-Cy];exact bw λ x _u=>by
    rw[if_neg (c:=y0+1=y0/\x<=t1) (λ z=>by omega),Int.zero_sub];by_cases z:x<=t2
    ·rw[if_pos (c:=y0+1=y0+1/\x<=t2) ⟨rfl,z⟩,if_pos z];by_cases w:T x (y0+1)=true
     ·rw[if_pos w,if_pos w]
     ·rw[if_neg w,if_neg w];rfl
    ·rw[if_neg (c:=y0+1=y0+1/\x<=t2) (λ q=>z q.2),if_neg z];by_cases w:T x (y0+1)=true
     ·rw[if_pos w,if_pos w]
     ·rw[if_neg w,if_neg w];rfl
  rw[q1,q2] at h;omega
 have ng:∀(P:Nat->Bool) (t:Nat),sm W (λ x=>if P x=true then (if x<=t then (-1:Int) else 0) else 0)= -(cnt P t W:Nat):=λ P t=>by
  rw[CN,<-Cy];exact bw λ x _u=>by
   by_cases w:P x=true
   ·rw[if_pos w,if_pos w];by_cases z:x<=t
    ·rw[if_pos z,if_pos z]
    ·rw[if_neg z,if_neg z];rfl
   ·rw[if_neg w,if_neg w];rfl
 constructor
 ·have h:=go 1 t (t+1) (uz.tbl (λ x _u=>by split <;> decide) (λ x x' y _u _u _u h1 h2=>by
   by_cases z:y=y0/\x<=t
   ·rw[if_pos z,if_pos ⟨by omega,by omega⟩];decide
   ·rw[if_neg z];split <;> decide) (λ x y _u h=>by rw[if_neg (λ z=>by omega)];decide) hH)
  have k1:=CN (P:=λ x=>T x y0) (t:=t) W;have k2:=CN (P:=λ x=>T x (y0+1)) (t:=t+1) W;have k1:((cnt (λ x=>T x y0) t W:Nat):Int)=sm W (λ x=>if T x y0=true then (if x<=t then (1:Int) else 0) else 0):=k1;have k2:((cnt (λ x=>T x (y0+1)) (t+1) W:Nat):Int)=sm W (λ x=>if T x (y0+1)=true then (if x<=t+1 then (1:Int) else 0) else 0):=k2;omega
 ·have h:=go (-1) (t+1) t (uz.tbl (λ x _u=>by rw[if_neg (λ z=>by omega)];decide) (λ x x' y _u _u _u h1 h2=>by
   by_cases z:y+1=y0+1/\x'<=t
   ·rw[if_pos z,if_pos ⟨by omega,by omega⟩];decide
   ·rw[if_neg z];split <;> decide) (λ x y _u h=>by split <;> decide) hH)
  have k1:=ng (λ x=>T x y0) (t+1);have k2:=ng (λ x=>T x (y0+1)) t;have k1:sm W (λ x=>if T x y0=true then (if x<=t+1 then (-1:Int) else 0) else 0)= -(cnt (λ x=>T x y0) (t+1) W:Nat):=k1;have k2:sm W (λ x=>if T x (y0+1)=true then (if x<=t then (-1:Int) else 0) else 0)= -(cnt (λ x=>T x (y0+1)) t W:Nat):=k2;omega
noncomputable def sq (W:Nat) (T:Nat->Nat->Bool) (i y:Nat):Nat:=(pl (λ x=>T x y) W).getD i 0
theorem Nu.sms {m:Nat} (B:Nu W H m T) (hH:0 < H):dX W H m T (sq W T) where
 lt:=λ i y hi hy=>(aeE (by rw[B.row hH hy];exact hi)).1
 srt:=λ i y hi hy=>ag0 (by rw[B.row hH hy];exact hi)
 nr:=λ i y hi hy=>by
  have l0:i < (pl (λ x=>T x y) W).length:=by rw[B.row hH (show y < H by exact z0e hy)];exact hi
  have l1:i < (pl (λ x=>T x (y+1)) W).length:=by rw[B.row hH hy];exact hi
  have n1:=(B.near hH hy (sq W T i y)).1;have n2:=(B.near hH hy (sq W T i (y+1))).2;have c1:=(CK (t:=sq W T i y) l0).mp (z0g _);have c2:=(CK (t:=sq W T i (y+1)) l1).mp (z0g _);exact⟨(CK l1).mpr (z0d c1 n1),(CK l0).mpr (z0d c2 n2)⟩
 tk :=λ x y hx hy=>by
  have el:=B.row hH hy;constructor
  ·intro h;obtain⟨i,hi,e⟩:=ag1 (aby.mpr ⟨hx,h⟩:x∈pl (λ x=>T x y) W);exact⟨i,by exact acX hi el,e⟩
  ·rintro⟨i,hi,e⟩
   have:=(aeE (show i < (pl (λ x=>T x y) W).length by exact ac0 hi el)).2;have e:(pl (λ x=>T x y) W).getD i 0=x:=e;rw[e] at this;exact this
end
section
variable {W H k:Nat} {c:Nat->Nat->Int} {T:Nat->Nat->Bool} {s:Nat->Nat->Nat} {ahead:Nat->Nat} {p:Nat->Int} {G:Nat->Prop}
structure gA (W H k:Nat) (c:Nat->Nat->Int) (T:Nat->Nat->Bool) (s:Nat->Nat->Nat) (p:Nat->Int):Prop where
 z:p 0=0
 nn:∀v,v < 2*(W*H+1)->0<=p v
 ar:∀u v w,gY W H k c T s u v w->p v<=p u+w
theorem gA.cells (P:gA W H k c T s p) (S:dX W H k T s):CJ W H c p T:=λ x y hx hy=>by
 refine⟨λ t=>?_,λ t=>?_⟩
 ·obtain⟨i,hi,e⟩:=(S.tk x y hx hy).mp t;have:=P.ar _ _ _ (.bk hi hy);rw[e] at this;omega
 ·exact P.ar _ _ _ (.cl hx hy t)
theorem gA.top (P:gA W H k c T s p) (hH:0 < H) {x:Nat} (hx:x < W):p (inn W x 0)=0:=by
 have h1:=P.ar _ _ _ (.st hx);have h2:=P.nn _ (zf hx hH);have:=P.z;omega
theorem gA.dl0 (P:gA W H k c T s p) (S:dX W H k T s) {i y:Nat} (hi:i < k) (hy:y < H):dl W H s p i y=0:=by
 unfold dl;by_cases h:y+1 < H
 ·rw[if_pos h];obtain⟨h1,h2⟩:=S.nr i y hi h;have a:=P.ar _ _ _ (.dn (S.lt i y hi hy) (S.lt i _ hi h) h h1 h2);have b:=P.ar _ _ _ (.up hi h);exact aeg a b
 ·rw[if_neg h];have a:=P.ar _ _ _ (.en (S.lt i y hi hy) (show y+1=H by exact vP hy h));have b:=P.ar _ _ _ (.ue hi (show y+1=H by exact vP hy h));exact aeg a b
theorem gA.Sf (P:gA W H k c T s p) (S:dX W H k T s) (hH:0 < H):Fl.Sf W H T p=k*p 1:=by
 rw[S.Sf' hH p,<-kh (a:=p 1) k];exact bw λ i hi=>by rw[P.top hH (S.lt i 0 hi hH),oW λ y hy=>P.dl0 S hi hy];omega
theorem augment (hW:0 < W) (hH:0 < H) (S:dX W H k T s) (P:gA W H k c T s p) (hG:∀v,G v->v≠0->G (ahead v)/\∃w,gY W H k c T s (ahead v) v w/\p v=p (ahead v)+w)
  {d:Nat} (ch:lM ahead d 1) (g:G 1):Nu W H (k+1) (gk W ahead d 1 T)/\gA W H (k+1) c (gk W ahead d 1 T) (sq W (gk W ahead d 1 T)) p:=by
 have co:=P.cells S;obtain⟨h1,co'⟩:=zY S hG d 1 T ch g (λ _u _u _u=>rfl) co;have B:Nu W H (k+1) (gk W ahead d 1 T):=λ φ R=>afa S hW hH R hG ch g co;have S':=B.sms hH;have e:=h1 p;rw[P.Sf S hH,aeD hG d 1 ch g,S'.Sf' hH p] at e;have tops:∀i,i < k+1->p (inn W (sq W (gk W ahead d 1 T) i 0) 0)=0:=λ i hi=>P.top hH (S'.lt i 0 hi hH);have le:∀i,i < k+1->∀y,y < H->dl W H (sq W (gk W ahead d 1 T)) p i y<=0:=λ i hi y hy=>by
  unfold dl;by_cases h:y+1 < H
  ·rw[if_pos h];obtain⟨h1,h2⟩:=S'.nr i y hi h;have a:=P.ar _ _ _ (.dn (S'.lt i y hi hy) (S'.lt i _ hi h) h h1 h2);exact PL a
  ·rw[if_neg h];have a:=P.ar _ _ _ (.en (S'.lt i y hi hy) (show y+1=H by exact vP hy h));exact PL a
 have e2:sm (k+1) (λ i=>p 1 - p (inn W (sq W (gk W ahead d 1 T) i 0) 0) - sm H (dl W H (sq W (gk W ahead d 1 T)) p i))=sm (k+1) (λ _u=>p 1) - sm (k+1) λ i=>sm H (dl W H (sq W (gk W ahead d 1 T)) p i):=by
  rw[<-Cz];exact bw λ i hi=>by rw[tops i hi,Int.sub_zero]
 rw[e2,kh (k+1),Int.natCast_succ,Int.add_mul,Int.one_mul] at e;have z0:=P.z;have tot:sm (k+1) (λ i=>sm H (dl W H (sq W (gk W ahead d 1 T)) p i))=0:=by omega
 have each:∀i,i < k+1->sm H (dl W H (sq W (gk W ahead d 1 T)) p i)=0:=λ i hi=>
  Gs (f:=λ i=>sm H (dl W H (sq W (gk W ahead d 1 T)) p i)) (g:=λ _u=>0) (n:=k+1) (λ i hi=>by
   have:=fZ (le i hi);rw[o7 H] at this;exact this) (by rw[o7,tot];exact Int.le_refl _) i hi
 have dl0:∀i,i < k+1->∀y,y < H->dl W H (sq W (gk W ahead d 1 T)) p i y=0:=λ i hi=>
  Gs (g:=λ _u=>0) (n:=H) (le i hi) (by rw[o7,each i hi];exact Int.le_refl _)
 refine⟨B,P.z,P.nn,λ u v w a=>?_⟩;cases a with
 |st hx=>exact P.ar _ _ _ (.st hx)
 |cl hx hy t=>exact (co' _ _ hx hy).2 t
 |dn hx hx' hy h1 h2=>exact P.ar _ _ _ (.dn hx hx' hy h1 h2)
 |en hx hy=>exact P.ar _ _ _ (.en hx hy)
 | @ue i y hi hy=>
  have:=dl0 i hi y (by exact z0f hy);unfold dl at this;rw[if_neg (by exact PJ hy)] at this;exact aeh this
 | @up i y hi hy=>
  have:=dl0 i hi y (by exact z0e hy);unfold dl at this;rw[if_pos hy] at this;exact aeh this
 | @bk i y hi hy=>
  have:=(co' _ _ (S'.lt i y hi hy) hy).1 ((S'.tk _ _ (S'.lt i y hi hy) hy).mpr ⟨i,hi,rfl⟩);omega
theorem gA.abA (hH:0 < H) (S:dX W H k T s) (P:gA W H k c T s p) (hc:∀x y,x < W->y < H->0<=c x y) (hk:k < W):p 1<=sm H λ y=>sm W λ x=>c x y:=by
 have n0:0<=p 1:=P.nn 1 (by have:=Nat.mul_pos (show 0 < W by omega) hH;exact Nat.le_add_left _ _);have col:∀x,x < W->p 1<=sm H λ y=>p (out W x y) - p (inn W x y):=λ x hx=>by
  have h:=Rf (f:=λ y=>if y < H then p (inn W x y) else p 1) H;simp only[Nat.lt_irrefl,if_false,hH,if_true,P.top hH hx] at h;have:sm H (λ y=>(if y+1 < H then p (inn W x (y+1)) else p 1) - (if y < H then p (inn W x y) else p 1))<=sm H λ y=>p (out W x y) - p (inn W x y):=fZ λ y hy=>by
   rw[if_pos hy];by_cases q:y+1 < H
   ·rw[if_pos q];have:=P.ar _ _ _ (.dn hx hx q (by exact Nat.le_add_right _ _) (by exact Nat.le_add_right _ _));exact aei this
   ·rw[if_neg q];have:=P.ar _ _ _ (.en hx (show y+1=H by exact vP hy q));exact aei this
  omega
 have all:(W:Int)*p 1<=sm W λ x=>sm H λ y=>p (out W x y) - p (inn W x y):=by
  rw[<-kh (a:=p 1) W];exact fZ col
 rw[o8 H W] at all;have split:sm H (λ y=>sm W λ x=>p (out W x y) - p (inn W x y))<=Fl.Sf W H T p+sm H λ y=>sm W λ x=>c x y:=by
  unfold Fl.Sf;rw[<-jO];refine fZ λ y hy=>?_;rw[<-jO];refine fZ λ x hx=>?_;have c0:=hc x y hx hy;cases t:T x y with
  |true=>rw[if_pos rfl];omega
  | false=>
   rw[if_neg Bool.false_ne_true];have:=P.ar _ _ _ (.cl hx hy t);omega
 rw[P.Sf S hH] at split;have hm:((k:Int)+1)*p 1<=W*p 1:=Int.mul_le_mul_of_nonneg_right (by exact Int.ofNat_lt.mpr hk) n0;rw[Int.add_mul,Int.one_mul] at hm;omega
theorem gA.XF (S:dX W H k T s) (P:gA W H k c T s p) (hc:∀x y,x < W->y < H->0<=c x y) {i:Nat} (hi:i < k):∀(m y:Nat),y+m+1=H->p (out W (s i y) y)<=p 1
 | 0,y,h=>by
  have:=P.ar _ _ _ (.ue hi (show y+1=H by assumption));omega
 | m+1,y,h=>by
  have ih:=gA.XF S P hc hi m (y+1) (by omega);have a:=P.ar _ _ _ (.up hi (show y+1 < H by exact PN h));have b:=P.ar _ _ _ (.bk hi (show y+1 < H by exact PN h));have:=hc _ (y+1) (S.lt i (y+1) hi (by exact PN h)) (by exact PN h);omega
theorem gA.abB (hW:0 < W) (hH:0 < H) (S:dX W H k T s) (P:gA W H k c T s p) (hc:∀x y,x < W->y < H->0<=c x y) {x:Nat} (hx:x < W):∀y,y < H->p (inn W x y)<=p 1+sm y (c x)/\p (out W x y)<=p 1+sm (y+1) (c x):=by
 have n0:0<=p 1:=P.nn 1 (by have:=Nat.mul_pos hW hH;exact Nat.le_add_left _ _);have ob:∀y,y < H->p (inn W x y)<=p 1+sm y (c x)->p (out W x y)<=p 1+sm (y+1) (c x):=λ y hy h=>by
  have e:sm (y+1) (c x)=sm y (c x)+c x y:=rfl;have c0:=hc x y hx hy;have s0:0<=sm y (c x):=nq λ j hj=>hc x j hx (by exact ahL hj hy);cases t:T x y with
  |false=>have:=P.ar _ _ _ (.cl hx hy t);omega
  | true=>
   obtain⟨i,hi,e2⟩:=(S.tk x y hx hy).mp t;have:=P.XF S hc hi (H - 1 - y) y (by omega);rw[e2] at this;omega
 intro y
 induction y with
 | zero=>
  intro hy;have h:p (inn W x 0)<=p 1+sm 0 (c x):=by rw[P.top hH hx];show 0<=p 1+0;omega
  exact⟨h,ob 0 hy h⟩
 | succ y ih=>
  intro hy;have h:=(ih (by exact z0e hy)).2;have a:=P.ar _ _ _ (.dn hx hx hy (by exact Nat.le_add_right _ _) (by exact Nat.le_add_right _ _));have h2:p (inn W x (y+1))<=p 1+sm (y+1) (c x):=by omega
  exact⟨h2,ob (y+1) hy h2⟩
theorem XH {f:Nat->Int} {n:Nat}:∀{m:Nat},(∀i,i < m->0<=f i)->n<=m->sm n f<=sm m f
 |0,_,h=>by rw[Nat.le_zero.mp h];exact Int.le_refl _
 | m +1,hf,h=>by
  by_cases e:n=m+1
  ·rw[e];exact Int.le_refl _
  ·have:=XH (n:=n) (m:=m) (λ i hi=>hf i (by exact Nat.lt_succ_of_lt hi)) (by omega);have:=hf m (Nat.lt_succ_self m);show sm n f<=sm m f+f m;omega
theorem Y8 {v:Nat} (hW:0 < W) (hv:v < 2*(W*H+1)):v=0\/v=1\/∃x y,x < W/\y < H/\(v=inn W x y\/v=out W x y):=by
 by_cases h0:v=0
 ·exact .inl h0
 by_cases h1:v=1
 ·exact .inr (.inl h1)
 refine .inr (.inr ⟨(v / 2 - 1) % W,(v / 2 - 1) / W,Nat.mod_lt _ hW,Nat.div_lt_of_lt_mul (by omega),?_⟩);have e:=Nat.div_add_mod (v / 2 - 1) W;rw[Nat.mul_comm] at e;unfold inn out;rw[e];omega
theorem gA.le (hW:0 < W) (hH:0 < H) (S:dX W H k T s) (P:gA W H k c T s p) (hc:∀x y,x < W->y < H->0<=c x y) (hk:k < W) {v:Nat} (hv:v < 2*(W*H+1)):p v<=2*sm H λ y=>sm W λ x=>c x y:=by
 have e1:=P.abA hH S hc hk;have n0:0<=p 1:=P.nn 1 (by have:=Nat.mul_pos hW hH;exact Nat.le_add_left _ _);have ag2:∀x y,x < W->y<=H->sm y (c x)<=sm H λ y=>sm W λ x=>c x y:=λ x y hx hy=>
  Int.le_trans (XH (λ j hj=>hc x j hx hj) hy) (fZ λ j hj=>Ga (f:=λ x=>c x j) (λ x hx=>hc x j hx hj) hx)
 rcases Y8 hW hv with rfl |rfl |⟨x,y,hx,hy,rfl |rfl⟩
 ·rw[P.z];omega
 ·omega
 ·have:=(P.abB hW hH S hc hx y hy).1;have:=ag2 x y hx (by exact z0e hy);exact aej (by assumption) e1 this
 ·have:=(P.abB hW hH S hc hx y hy).2;have:=ag2 x (y+1) hx hy;exact aej (by assumption) e1 this
theorem gA.none (hc:∀x y,x < W->y < H->0<=c x y) (hT:∀x y,T x y=false):gA W H 0 c T s (λ _u=>0) where
 z:=rfl
 nn:=λ _u _u=>Int.le_refl _
 ar:=λ u v w a=>by
  cases a with
  |cl hx hy t=>have:=hc _ _ hx hy;show (0:Int)<=0+_;exact ahM this
  |ue hi _=>exact absurd hi (Nat.not_lt_zero _)
  |up hi _=>exact absurd hi (Nat.not_lt_zero _)
  |bk hi _=>exact absurd hi (Nat.not_lt_zero _)
  |_=>exact Int.le_refl _
theorem dX.none (hT:∀x y,T x y=false):dX W H 0 T s:=⟨λ _u _u h=>absurd h (Nat.not_lt_zero _),λ _u _u h=>absurd h (Nat.not_lt_zero _),λ _u _u h=>absurd h (Nat.not_lt_zero _),λ x y _u _u=>⟨λ h=>(by rw[hT x y] at h;cases h),λ ⟨_,h,_⟩=>absurd h (Nat.not_lt_zero _)⟩⟩
theorem searched (hW:0 < W) (hH:0 < H) (S:dX W H k T s) {q:Nat->Int} (Q:gA W H k c T s q) (hc:∀x y,x < W->y < H->0<=c x y) (hk:k < W) {far:Int} (aj3:3*(sm H λ y=>sm W λ x=>c x y) < far)
  (Sc:mX (gY W H k c T s) (2*(W*H+1)) far q p ahead) (ex:∀u v w,gY W H k c T s u v w->p v<=p u+w):
  gA W H k c T s p/\∃(d:Nat) (G:Nat->Prop),lM ahead d 1/\G 1/\∀v,G v->v≠0->G (ahead v)/\∃w,gY W H k c T s (ahead v) v w/\p v=p (ahead v)+w:=by
 have P:gA W H k c T s p:=⟨Sc.z,λ v hv=>Int.le_trans (Q.nn v hv) (Sc.lo v hv),ex⟩;have h1:1 < 2*(W*H+1):=by have:=Nat.mul_pos hW hH;exact Nat.le_add_left _ _
 refine⟨P,Sc.over (λ u v w a=>a.nodes S hW hH) Q.ar ex h1 λ r hr=>?_⟩;have a:=P.abA hH S hc hk;have b:=Q.le hW hH S hc hk hr;have:=Q.nn 1 h1;omega
end
end Fl
namespace jP
open PySem PySem.Spec L2 Pu
open PyProof.Rows hiding St
noncomputable abbrev gv (n:Nat):ao->R D:=λ ρ=>aU ρ n
noncomputable abbrev ci (i:Int):ao->R D:=λ _=> .ok (.int i)
noncomputable abbrev nA:ao->R (List D):=λ _=> .ok []
noncomputable abbrev tT:ao->R Bool:=λ _=> .ok true
noncomputable def jF (c t:Str):Bool:=(c == "NoPicture" && (["NoPicture","SeamError","ValueError"]:List Str).contains t) || (c == "NoNumber" && (["NoNumber","SeamError","ValueError"]:List Str).contains t) || false
theorem CP {c t:Str} (h:jF c t=true):c= "NoPicture"\/c= "NoNumber" :=by
 unfold jF at h;simp only[Bool.or_eq_true,Bool.and_eq_true,beq_iff_eq,Bool.false_eq_true,or_false] at h;rcases h with h |h
 ·exact .inl h.1
 ·exact .inr (h.1)
noncomputable def CQ:ao->So:=(retS (bin (bin (gv 0) (aF maxD (ak (ci 0) (ak (aF minD (ak (bin (aF bW (ak (gv 0) nA)) (ci 1) fX) (ak (gv 2) nA))) nA))) bD) (aF maxD (ak (ci 0) (ak (aF minD (ak (bin (aF bW (ak (bin (gv 0) (ci 0) bD) nA)) (ci 1) fX) (ak (gv 1) nA))) nA))) bD))
noncomputable def gZ:List D->R D:=bY 0 CQ
noncomputable def wL:ao->So:=(aP (aZ (aF Hj (ak (bin (aF (bC gZ 3) (ak (gv 0) (ak (bin (gv 2) (ci 1) fX) (ak (gv 3) nA)))) (aF (bC gZ 3) (ak (gv 0) (ak (bin (gv 2) (ci 1) cR) (ak (gv 3) nA)))) fX) nA)) (aG 5)) (aP (jB (bH (bin (gv 1) (λ _u=> .ok (.str "worth")) qm)) (retS (bin (gv 5) (aF Hj (ak (bin (aF (bC gZ 3) (ak (gv 0) (ak (gv 2) (ak (bin (gv 3) (ci 1) fX) nA)))) (aF (bC gZ 3) (ak (gv 0) (ak (gv 2) (ak (bin (gv 3) (ci 1) cR) nA)))) fX) nA)) cR)) So.nx) (aP (jB (nQ (bH (bin (gv 4) (λ _u=> .ok .non) QB)) (bH (bin (gv 4) (gv 2) m9))) (aZ (bin (gv 5) (aF Hj (ak (bin (bin (bin (gv 0) (bin (gv 3) (ci 1) fX) bD) (gv 2) bD) (bin (bin (gv 0) (gv 3) bD) (ifV (bH (bin (gv 4) (gv 2) ltI)) (bin (gv 2) (ci 1) fX) (bin (gv 2) (ci 1) cR)) bD) fX) nA)) cR) (aG 5)) So.nx) (retS (gv 5)))))
noncomputable def mO:List D->R D:=bY 1 wL
noncomputable def wM:ao->So:=(aP (aZ (bin (iI (ak (λ _u=> .ok .non) nA)) (Jv (gv 2) (λ _u=> .ok none) (λ ρ=>(((zR (ci 1)):ao->R D) ρ).bind asI)) cR) (aG 3)) (retS (aF Lj (ak (aV 2 [3,1,0] (λ ρ=>((ak (gv 2) nA) ρ).bind pH) (eU (eV 2 (bB (aG 0) (bB (aG 1) nilG)))) tT (aF (bC mO 5) (ak (gv 4) (ak (gv 3) (ak (gv 1) (ak (gv 0) (ak (bin (gv 2) (gv 0) bD) nA))))))) nA))))
noncomputable def eY:List D->R D:=bY 1 wM
noncomputable def uD:ao->So:=(aP (aZ (bin (ci 7) (gv 1) jw) (aG 3)) (aP (jB (bH (bin (gv 0) (jM nA) m9)) (aP (aZ (bin (gv 0) (bin (gv 1) (aF bW (ak (gv 0) nA)) gn) bD) (aG 3)) (aP (aZ (bin (gv 1) (aF bW (ak (gv 0) nA)) eN) (aG 4)) (aP (jB (nQ (bH (bin (gv 3) (bin (ci 10) (ci 18) wG) M5)) (bH (bin (gv 4) (ci 60) ltI))) (aP (aZ (bin (gv 3) (bin (ci 10) (ci 18) wG) eN) (aG 5)) (aP (iw (nQ (bH (bin (gv 5) (ci 0) pC)) (bH (bin (gv 4) (ci 0) pC))) (aP (aZ (bin (gv 5) (ci 1000000) eN) (aG 5)) (aZ (bin (gv 4) (ci 1) fX) (aG 4))) 64) (jB (bH (bin (gv 5) (ci 0) pC)) (retS (bin (bin (gv 5) (ci 1000000) gn) (gv 2) gn)) So.nx))) So.nx) (aZ (bin (gv 3) (bin (ci 6553) (bin (gv 1) (aF bW (ak (gv 0) nA)) eN) jw) fY) (aG 3))))) So.nx) (aP (aZ (bin (bin (bin (bin (gv 3) (ci 2147483563) gn) (ci 69069) jw) (bin (ci 104723) (bin (gv 1) (ci 1) fY) jw) fY) (ci 2147483563) gn) (aG 3)) (aP (aZ (bin (bin (bin (gv 3) (gv 3) jw) (bin (gv 3) (ci 3) eN) fY) (ci 2147483399) gn) (aG 3)) (retS (bin (bin (bin (bin (bin (gv 3) (gv 3) jw) (bin (gv 3) (ci 7) eN) fY) (ci 2147483647) gn) (ci 11) eN) (gv 2) gn))))))
noncomputable def bZ:List D->R D:=bY 3 uD
noncomputable def wyI:ao->So:=(aZ (bin (gv 4) (aV 1 [0,5] (eO (iI (ak (bin (bin (gv 5) (zR (ci 1)) bD) (ci 1) fX) (ak (bin (gv 5) (zR (ci 1)) bD) (ak (bin (bin (gv 5) (zR (ci 1)) bD) (ci 1) cR) nA))))) (aG 0) (nQ (bH (bin (ci 0) (gv 0) BX)) (bH (bin (gv 0) (gv 1) ltI))) (bin (gv 2) (iI (ak (gv 0) nA)) cR)) cR) (aG 4))
noncomputable def wyO:ao->So:=(aP (aZ (jM nA) (aG 4)) (aP (oV (eO (gv 2)) (aG 5) wyI) (aZ (gv 4) (aG 2))))
noncomputable def wN:ao->So:=(aP (aZ (aV 1 [] (λ ρ=>((ak (gv 0) nA) ρ).bind gq) (aG 0) tT (iI (ak (gv 0) nA))) (aG 2)) (aP (oV (λ ρ=>((ak (bin (gv 1) (ci 1) fX) nA) ρ).bind gq) (aG 3) wyO) (retS (gv 2))))
noncomputable def mQ:List D->R D:=bY 4 wN
noncomputable def leC:ao->So:=(jB (bH (bin (aV 2 [] (λ ρ=>((ak (gv 8) (ak (gv 10) nA)) ρ).bind zip2) (eU (eV 2 (bB (aG 0) (bB (aG 1) nilG)))) (bH (bin (gv 0) (gv 1) M5)) (ci 1)) (jM nA) qm)) (wI 6 (iI (ak (bin (gv 7) (gv 9) cR) (ak (gv 10) nA)))) So.nx)
noncomputable def leB:ao->So:=(oV (eO (gv 3)) (eU (eV 2 (bB (aG 9) (bB (aG 10) nilG)))) leC)
noncomputable def leA:ao->So:=(aP (newL nA 6) (aP (oV (eO (gv 4)) (eU (eV 2 (bB (aG 7) (bB (aG 8) nilG)))) leB) (JH 11 7 10 6 4)))
noncomputable def uE:ao->So:=(aP (aZ (aF (bC mQ 2) (ak (aF bW (ak (bin (gv 0) (ci 0) bD) nA)) (ak (aF bW (ak (gv 0) nA)) nA))) (aG 2)) (aP (aZ (aV 1 [0] (eO (gv 2)) (aG 0) tT (iI (ak (aF (bC eY 3) (ak (gv 1) (ak (λ _u=> .ok (.str "worth")) (ak (gv 0) nA)))) (ak (gv 0) nA)))) (aG 3)) (aP (aZ (gv 3) (aG 4)) (aP (oV (λ ρ=>((ak (bin (gv 1) (ci 1) fX) nA) ρ).bind gq) (aG 5) leA) (retS (λ ρ=>((aV 2 [] (eO (gv 4)) (eU (eV 2 (bB (aG 0) (bB (aG 1) nilG)))) tT (gv 0)) ρ).bind rF))))))
noncomputable def ig:List D->R D:=bY 10 uE
noncomputable def Rh:ao->So:=(retS (aF YS (ak (aF maxD (ak (bin (gv 0) (ci 1) fX) (ak (ci 0) nA))) (ak (aF minD (ak (bin (gv 0) (ci 2) cR) (ak (gv 1) nA))) nA))))
noncomputable def zj:List D->R D:=bY 0 Rh
noncomputable def wO:ao->So:=(retS (bin (ci 2) (bin (bin (bin (gv 1) (gv 2) Ho) (gv 0) cR) (ci 1) cR) Ho))
noncomputable def cO:List D->R D:=bY 0 wO
noncomputable def adI:ao->So:=(aP (aZ (aF (bC cO 3) (ak (gv 6) (ak (gv 4) (ak (gv 2) nA)))) (aG 8)) (aP (jB (rW (bH (bin (bin (gv 1) (gv 4) bD) (gv 6) bD))) (wI 3 (iI (ak (gv 8) (ak (bin (gv 8) (ci 1) cR) (ak (gv 7) nA))))) So.nx) (jB (bH (bin (bin (gv 4) (ci 1) cR) (aF bW (ak (gv 0) nA)) ltI)) (LK 3 (aV 1 [8,2,4] (eO (aF (bC zj 2) (ak (gv 6) (ak (gv 2) nA)))) (aG 0) tT (iI (ak (bin (gv 1) (ci 1) cR) (ak (aF (bC cO 3) (ak (gv 0) (ak (bin (gv 3) (ci 1) cR) (ak (gv 2) nA)))) (ak (ci 0) nA)))))) (wI 3 (iI (ak (bin (gv 8) (ci 1) cR) (ak (ci 1) (ak (ci 0) nA))))))))
noncomputable def adO:ao->So:=(oV (λ ρ=>((ak (gv 5) nA) ρ).bind pH) (eU (eV 2 (bB (aG 6) (bB (aG 7) nilG)))) adI)
noncomputable def wQ:ao->So:=(aP (aZ (aF bW (ak (bin (gv 0) (ci 0) bD) nA)) (aG 2)) (aP (zV (aV 1 [2] (λ ρ=>((ak (gv 2) nA) ρ).bind gq) (aG 0) tT (iI (ak (ci 0) (ak (aF (bC cO 3) (ak (gv 0) (ak (ci 0) (ak (gv 1) nA)))) (ak (ci 0) nA))))) 3) (aP (oV (λ ρ=>((ak (gv 0) nA) ρ).bind pH) (eU (eV 2 (bB (aG 4) (bB (aG 5) nilG)))) adO) (retS (gv 3)))))
noncomputable def mR:List D->R D:=bY 7 wQ
noncomputable def auI:ao->So:=(aP (aZ (aF (bC cO 3) (ak (bin (gv 3) (gv 5) bD) (ak (gv 5) (ak (aF bW (ak (bin (gv 0) (ci 0) bD) nA)) nA)))) (aG 6)) (aP (LK 2 (jM (ak (iI (ak (gv 4) (ak (bin (gv 6) (ci 1) cR) (ak (ci 0) nA)))) (ak (iI (ak (bin (gv 6) (ci 1) cR) (ak (gv 6) (ak (zR (bin (bin (gv 0) (gv 5) bD) (bin (gv 3) (gv 5) bD) bD)) nA)))) nA)))) (aZ (gv 6) (aG 4))))
noncomputable def auO:ao->So:=(aP (aZ (ci 1) (aG 4)) (oV (λ ρ=>((ak (aF bW (ak (gv 3) nA)) nA) ρ).bind QX) (aG 5) auI))
noncomputable def CV:ao->So:=(aP (newL nA 2) (aP (oV (eO (gv 1)) (aG 3) auO) (retS (gv 2))))
noncomputable def o9:List D->R D:=bY 5 CV
noncomputable def caI:ao->So:=(Q8 (bH (bin (bin (gv 4) (ci 2) eN) (bin (gv 3) (ci 2) eN) qm)) (aP (zW (bin (bin (gv 3) (ci 2) eN) (ci 1) fX) 5) (aP (Q7 6 7 (bin (gv 5) (gv 2) eN) (bin (gv 5) (gv 2) gn)) (JC 6 7 (Lf (bin (bin (gv 0) (gv 6) bD) (gv 7) bD))))) So.nx)
noncomputable def caB:ao->So:=(aP (zW (bin (gv 1) (gv 3) bD) 4) (aP caI (zW (gv 4) 3)))
noncomputable def dI:ao->So:=(aP (zW (aF bW (ak (bin (gv 0) (ci 0) bD) nA)) 2) (aP (zW (ci 1) 3) (Gp (bH (bin (gv 3) (ci 0) m9)) caB 1000)))
noncomputable def pJ:ao->So:=(aP (aZ (aV 1 [] (eO (gv 0)) (aG 0) tT (aV 2 [] (λ ρ=>((ak (gv 0) nA) ρ).bind pH) (eU (eV 2 (bB (aG 0) (bB (aG 1) nilG)))) (bH (gv 1)) (gv 0))) (aG 2)) (retS (aV 1 [2] (λ ρ=>((ak (gv 1) nA) ρ).bind gq) (aG 0) tT (aF qw (ak (aV 1 [0] (eO (gv 1)) (aG 0) tT (bin (gv 0) (gv 1) bD)) nA)))))
noncomputable def iz:List D->R D:=bY 1 pJ
noncomputable def seB:ao->So:=(jB (bH (bin (bin (bin (gv 2) (gv 5) bD) (gv 7) cR) (bin (gv 2) (gv 6) bD) ltI)) (aP (Cr 2 (gv 6) (bin (ixO 2 (gv 5)) (gv 7) cR)) (aP (Cr 3 (gv 6) (gv 5)) (aZ (λ _u=> .ok (.bl true)) (aG 4)))) So.nx)
noncomputable def Nv:ao->So:=(aP (aZ (λ _u=> .ok (.bl false)) (aG 4)) (oV (eO (gv 0)) (eU (eV 3 (bB (aG 5) (bB (aG 6) (bB (aG 7) nilG))))) seB))
noncomputable def zZ:ao->So:=(aP (zV (bin (jM (ak (ci 0) nA)) (bin (jM (ak (ci 1000000) nA)) (bin (gv 1) (ci 1) fX) mulL) adA) 2) (aP (zV (bin (jM (ak (ci 0) nA)) (gv 1) adB) 3) (aP (aZ (λ _u=> .ok (.bl true)) (aG 4)) (aP (iw (bH (gv 4)) Nv 1000000000) (retS (iI (ak (gv 2) (ak (gv 3) nA))))))))
noncomputable def nO:List D->R D:=bY 6 zZ
noncomputable def Y9:ao->So:=(aP (aZ (aV 1 [0] (λ ρ=>((ak (gv 2) nA) ρ).bind gq) (aG 0) tT (aV 1 [0] (eO (gv 1)) (aG 0) tT (bin (gv 0) (gv 1) bD))) (aG 3)) (retS (aV 1 [1] (eO (gv 3)) (aG 0) tT (aV 1 [0] (λ ρ=>((ak (gv 1) nA) ρ).bind gq) (aG 0) tT (bin (gv 0) (gv 1) (Xg false))))))
noncomputable def nP:List D->R D:=bY 1 Y9
noncomputable def flB:ao->So:=(JF 6 7 5 8 4 (ak (gv 4) (ak (gv 2) (ak (gv 3) nA))) 3 nP (bin (aF (bC mR 2) (ak (gv 0) (ak (gv 6) nA))) (aF (bC o9 2) (ak (gv 0) (ak (gv 4) nA))) cR) (aF (bC nO 2) (ak (gv 7) (ak (bin (ci 2) (bin (bin (gv 2) (gv 3) Ho) (ci 1) cR) Ho) nA))) dI 6 (aF (bC iz 2) (ak (gv 6) (ak (bin (aF bW (ak (gv 4) nA)) (ci 1) cR) nA))))
noncomputable def Ri:ao->So:=(aP (Lp 2 3 (aF bW (ak (bin (gv 0) (ci 0) bD) nA)) (aF bW (ak (gv 0) nA))) (aP (aZ (jM nA) (aG 4)) (aP (aZ (jM nA) (aG 5)) (aP (iw (bH (bin (aF bW (ak (gv 4) nA)) (gv 1) ltI)) flB 64) (retS (iI (ak (gv 4) (ak (gv 5) nA))))))))
noncomputable def oA:List D->R D:=bY 7 Ri
noncomputable def Aa:ao->So:=(retS (G7 (P0 Fz (gv 0)) (Lf (P0 zO (gv 0)))))
noncomputable def gD:List D->R D:=bY 0 Aa
noncomputable def CW:ao->So:=(retS (G7 (P0 vX (gv 0)) (Jh (ci 1) (aF bW (ak (gv 0) nA)) (ci 20) BX BX)))
noncomputable def jh:List D->R D:=bY 0 CW
noncomputable def CZ:ao->So:=(retS (G7 (aF (bC gD 1) (ak (gv 0) nA)) (Jh (ci 0) (gv 0) (ci 99) BX BX)))
noncomputable def pq:List D->R D:=bY 0 CZ
noncomputable def Hu:ao->So:=(retS (G7 (aF (bC jh 1) (ak (gv 0) nA)) (aF Hg (ak (aV 1 [] (eO (gv 0)) (aG 0) tT (aF (bC pq 1) (ak (gv 0) nA))) nA))))
noncomputable def qD:List D->R D:=bY 0 Hu
noncomputable def uF:ao->So:=(aP (jB (Qi (rW (bH (aF (bC jh 1) (ak (gv 0) nA)))) (rW (bH (aF Hg (ak (aV 1 [] (eO (gv 0)) (aG 0) tT (aF (bC qD 1) (ak (gv 0) nA))) nA))))) (retS (λ _u=> .ok (.bl false))) So.nx) (retS (aF Hg (ak (aV 1 [0] (eO (gv 0)) (aG 0) tT (bin (aF bW (ak (gv 0) nA)) (aF bW (ak (bin (gv 1) (ci 0) bD) nA)) qm)) nA))))
noncomputable def jG:List D->R D:=bY 0 uF
noncomputable def qG:ao->So:=(jB (rW (bH (aF (bC jG 1) (ak (gv 0) nA)))) (λ ρ=> .ex "NoPicture" ρ) So.nx)
noncomputable def cU:List D->R D:=bY 0 qG
noncomputable def wR:ao->So:=(aP (mW (aF (okN cU 1) (ak (gv 0) nA))) (jB (Qi (rW (bH (aF (bC gD 1) (ak (gv 1) nA)))) (rW (bH (Jh (ci 1) (gv 1) (ci 6) BX BX)))) (λ ρ=> .ex "NoNumber" ρ) So.nx))
noncomputable def dY:List D->R D:=bY 0 wR
noncomputable def Ab:ao->So:=(retS (aF maxD (ak (bin (bin (bin (gv 1) (bin (gv 2) (ci 1) cR) bD) (bin (gv 1) (gv 2) bD) fX) (gv 0) fX) (ak (ci 0) nA))))
noncomputable def pK:List D->R D:=bY 0 Ab
noncomputable def Rj:ao->So:=(aP (aZ (bin (aF bW (ak (gv 0) nA)) (ci 1) fX) (aG 1)) (retS (aV 1 [1,0] (λ ρ=>((ak (aF bW (ak (gv 0) nA)) nA) ρ).bind gq) (aG 0) tT (aF Hj (ak (bin (bin (gv 2) (aF maxD (ak (bin (gv 0) (ci 1) fX) (ak (ci 0) nA))) bD) (bin (gv 2) (aF minD (ak (bin (gv 0) (ci 1) cR) (ak (gv 1) nA))) bD) fX) nA)))))
noncomputable def uG:List D->R D:=bY 1 Rj
noncomputable def Dc:ao->So:=(aP (mW (aF (okN cU 1) (ak (gv 0) nA))) (retS (iI (ak (aF bW (ak (bin (gv 0) (ci 0) bD) nA)) (ak (aF bW (ak (gv 0) nA)) nA)))))
noncomputable def jQ:List D->R D:=bY 0 Dc
noncomputable def Hv:ao->So:=(aP (aZ (aF (okN jQ 1) (ak (gv 0) nA)) (eU (eV 2 (bB (aG 1) (bB (aG 2) nilG))))) (retS (aF qw (ak (aV 1 [2,0] (λ ρ=>((ak (gv 1) nA) ρ).bind gq) (aG 0) tT (aF qw (ak (aV 1 [2,0] (λ ρ=>((ak (gv 1) nA) ρ).bind gq) (aG 0) tT (bin (bin (gv 1) (gv 0) bD) (gv 2) bD)) nA))) nA))))
noncomputable def qH:List D->R D:=bY 2 Hv
noncomputable def Hw:ao->So:=(aP (aZ (aF (okN jQ 1) (ak (gv 0) nA)) (eU (eV 2 (bB (aG 1) (bB (aG 2) nilG))))) (aP (aZ (aV 1 [] (eO (gv 0)) (aG 0) tT (aF (bC uG 1) (ak (gv 0) nA))) (aG 3)) (aP (aZ (aV 1 [] (eO (aF (okN qH 1) (ak (gv 0) nA))) (aG 0) tT (aF (bC uG 1) (ak (gv 0) nA))) (aG 4)) (retS (aF qw (ak (aV 1 [3,4,1] (λ ρ=>((ak (gv 2) nA) ρ).bind gq) (aG 0) tT (aF qw (ak (aV 1 [1,2,0] (λ ρ=>((ak (gv 3) nA) ρ).bind gq) (aG 0) tT (bin (bin (bin (gv 1) (gv 3) bD) (gv 0) bD) (bin (bin (gv 2) (gv 0) bD) (gv 3) bD) cR)) nA))) nA))))))
noncomputable def lX:List D->R D:=bY 4 Hw
noncomputable def Hx:ao->So:=(aP (mW (aF (okN dY 2) (ak (gv 0) (ak (gv 1) nA)))) (aP (aZ (aF bW (ak (bin (gv 0) (ci 0) bD) nA)) (aG 2)) (aP (jB (bH (bin (gv 1) (gv 2) pC)) (retS (λ _u=> .ok .non)) So.nx) (aP (aZ (aF (okN lX 1) (ak (gv 0) nA)) (aG 3)) (aP (aZ (aF (bC oA 2) (ak (gv 3) (ak (gv 1) nA))) (eU (eV 2 (bB (aG 4) (bB (aG 5) nilG))))) (aP (aZ (aV 2 [5,2] (λ ρ=>((ak (gv 3) nA) ρ).bind pH) (eU (eV 2 (bB (aG 0) (bB (aG 1) nilG)))) tT (aF qw (ak (aV 2 [2,3,0] (λ ρ=>((ak (gv 1) nA) ρ).bind pH) (eU (eV 2 (bB (aG 0) (bB (aG 1) nilG)))) tT (aF (bC pK 3) (ak (gv 1) (ak (gv 2) (ak (aF (bC cO 3) (ak (gv 0) (ak (gv 4) (ak (gv 3) nA)))) nA))))) nA))) (aG 6)) (retS (iI (ak (aF qw (ak (gv 6) nA)) (ak (bin (gv 5) (ci 1) bD) nA))))))))))
noncomputable def iK:List D->R D:=bY 5 Hx
noncomputable def Ad:ao->So:=(aP (mW (aF (okN dY 2) (ak (gv 0) (ak (gv 1) nA)))) (aP (jB (bH (bin (gv 1) (aF bW (ak (bin (gv 0) (ci 0) bD) nA)) pC)) (retS (λ _u=> .ok .non)) So.nx) (retS (bin (aF (bC oA 2) (ak (aF (okN lX 1) (ak (gv 0) nA)) (ak (gv 1) nA))) (ci 0) bD))))
noncomputable def dJ:List D->R D:=bY 0 Ad
noncomputable def Df:ao->So:=(aP (QM jF "SeamError" 3 (jB (bH (bin (gv 0) (ci 0) qm)) (mW (aF (okN dJ 2) (ak (gv 1) (ak (gv 2) nA)))) (mW (aF (okN iK 2) (ak (gv 1) (ak (gv 2) nA))))) (retS (jM (ak (FN jF 3 "NoPicture") (ak (FN jF 3 "NoNumber") nA))))) (retS (jM nA)))
noncomputable def pA:List D->R D:=bY 1 Df
noncomputable def qI:ao->So:=(aP (Qv 4 5 (bin (jM (ak (ci 2) (ak (ci 5) (ak (ci 100) (ak (ci 10) nA))))) (aF (bC bZ 3) (ak (gv 0) (ak (gv 1) (ak (ci 4) nA)))) bD) nA) (aP (oV (λ ρ=>((ak (gv 3) nA) ρ).bind gq) (aG 6) (wI 5 (aF qw (ak (aV 1 [1,2,4,0,6] (λ ρ=>((ak (gv 2) nA) ρ).bind gq) (aG 0) tT (aF (bC bZ 3) (ak (gv 4) (ak (bin (bin (bin (gv 1) (ci 1) fY) (bin (gv 2) (gv 5) jw) fY) (gv 0) fY) (ak (gv 3) nA))))) nA)))) (retS (aF qw (ak (gv 5) nA)))))
noncomputable def jt:List D->R D:=bY 3 qI
noncomputable def wU:ao->So:=(retS (aF (bC jt 4) (ak (gv 0) (ak (bin (gv 1) (ci 2) fY) (ak (bin (ci 1) (aF (bC bZ 3) (ak (gv 0) (ak (gv 1) (ak (gv 2) nA)))) fY) (ak (bin (ci 1) (aF (bC bZ 3) (ak (gv 0) (ak (bin (gv 1) (ci 1) fY) (ak (gv 3) nA)))) fY) nA))))))
noncomputable def oE:List D->R D:=bY 0 wU
noncomputable def lwT:ao->So:=(aP (aZ (bin (jM (ak (ci 0) (ak (ci 7) (ak (λ _u=> .ok .non) (ak (λ _u=> .ok (.bl true)) (ak (λ _u=> .ok (.str "2")) (ak (iI (ak (ci 1) nA)) nA))))))) (aF (bC bZ 3) (ak (gv 0) (ak (ci 41) (ak (ci 6) nA)))) bD) (aG 5)) (aP (jB (bH (bin (aV 1 [5,1] (λ ρ=>((ak (ci 2) nA) ρ).bind gq) (aG 0) tT (aF (bC pA 3) (ak (gv 0) (ak (gv 2) (ak (gv 1) nA))))) (bin (jM (ak (jM (ak (λ _u=> .ok (.bl false)) (ak (λ _u=> .ok (.bl true)) nA))) nA)) (ci 2) mulL) m9)) (retS (λ _u=> .ok (.bl false))) So.nx) (aP (jB (bH (bin (aV 1 [5] (λ ρ=>((ak (ci 2) nA) ρ).bind gq) (aG 0) tT (aF (bC pA 3) (ak (gv 0) (ak (iI (ak (iI (ak (ci 100) nA)) nA)) (ak (gv 1) nA))))) (bin (jM (ak (jM (ak (λ _u=> .ok (.bl true)) (ak (λ _u=> .ok (.bl false)) nA))) nA)) (ci 2) mulL) m9)) (retS (λ _u=> .ok (.bl false))) So.nx) (retS (bin (aF (okN iK 2) (ak (gv 1) (ak (ci 6) nA))) (λ _u=> .ok .non) isD)))))
noncomputable def aeF:ao->So:=(aP (aZ (aF (bC oE 4) (ak (gv 0) (ak (ci 0) (ak (ci 4) (ak (ci 3) nA))))) (aG 1)) (aP (aZ (bin (ci 1) (aF (bC bZ 3) (ak (gv 0) (ak (ci 40) (ak (ci 3) nA)))) cR) (aG 2)) (aP (Lp 3 4 (aF (okN dJ 2) (ak (gv 1) (ak (gv 2) nA))) (aF (bC ig 2) (ak (gv 1) (ak (gv 2) nA)))) (aP (jB (Qi (bH (bin (bin (gv 3) (λ _u=> .ok .non) isD) (bin (gv 4) (λ _u=> .ok .non) isD) m9)) (bH (bin (bin (gv 3) (λ _u=> .ok .non) isD) (bin (gv 2) (aF bW (ak (bin (gv 1) (ci 0) bD) nA)) pC) m9))) (retS (λ _u=> .ok (.bl false))) So.nx) (aP (jB (nQ (bH (bin (gv 3) (λ _u=> .ok .non) QB)) (bH (bin (aF Lj (ak (aV 1 [1] (eO (gv 3)) (aG 0) tT (aF (bC eY 3) (ak (gv 1) (ak (λ _u=> .ok (.str "worth")) (ak (gv 0) nA))))) nA)) (gv 4) m9))) (retS (λ _u=> .ok (.bl false))) So.nx) lwT)))))
noncomputable def Qd:List D->R D:=bY 5 aeF
end jP
namespace jP
open PySem PySem.Spec L2 Pu
noncomputable def row (w:Nat) (f:Nat->Int):D:= .tup ((List.range w).map λ x=> .int (f x))
noncomputable def cC (w h:Nat) (f:Nat->Nat->Int):D:= .tup ((List.range h).map λ y=>row w (f y))
structure Ok (w h:Nat) (f:Nat->Nat->Int):Prop where
 w1:1<=w
 w2:w<=20
 h1:1<=h
 h2:h<=20
 c:∀y < h,∀x < w,0<=f y x/\f y x<=99
theorem Ae {i j:Int} (h:i<=j):BX (.int i) (.int j)= .ok (.bl true):=by
 show R.ok (D.bl (decide (i<=j)))=_;rw[decide_eq_true h]
theorem JL {ds:List D} (h1:1<=ds.length) (h2:ds.length<=20):jh [.tup ds]= .ok (.bl true):=
 cN (cH (Qx rfl (Qy rfl (aY (aA rfl) rfl) (Ae (by exact Int.ofNat_lt.mpr h1)) rfl (Ae (by exact Int.ofNat_le.mpr h2)))))
theorem Gv {i:Int}:gD [.int i]= .ok (.bl true):=rfl
theorem Za {i:Int} (h0:0<=i) (h1:i<=99):pq [.int i]= .ok (.bl true):=by
 exact cN (cH (Qx (bR (aA rfl) Gv) (Qy rfl rfl (Ae h0) rfl (Ae h1))))
theorem abC {w:Nat} {f:Nat->Int} (h1:1<=w) (h2:w<=20) (hc:∀x < w,0<=f x/\f x<=99):qD [row w f]= .ok (.bl true):=by
 refine cN (cH (Qx (bR (aA rfl) (JL (by simpa using h1) (by simpa using h2))) (aY (aA (cu (c:=λ x=> .int (f x)) (h:=λ _u=> .bl true) (l:=List.range w) (sV rfl) (by rw[z2d];exact gB h2) λ x hx=>?_)) Ls)));obtain⟨a,b⟩:=hc x (z2e hx);exact cM rfl (bR (aA rfl) (Za a b))
section
variable {w h:Nat} {f:Nat->Nat->Int}
theorem Oh (o:Ok w h f):jG [cC w h f]= .ok (.bl true):=by
 have e1:jh [cC w h f]= .ok (.bl true):=JL (by simpa using o.h1) (by simpa using o.h2);refine cN (aL (fD (Jp (uo (bf (bR (aA rfl) e1))) (uo (bf (aY (aA (cu (c:=λ y=>row w (f y)) (h:=λ _u=> .bl true) (l:=List.range h) (sV rfl) (by rw[z2d];have:=o.h2;exact gB this) λ y hy=>?_)) Ls)))) rfl) (cH (aY (aA (cu (c:=λ y=>row w (f y)) (h:=λ _u=> .bl true) (l:=List.range h) (sV rfl) (by rw[z2d];have:=o.h2;exact gB this) λ y hy=>?_)) Ls)))
 ·exact cM rfl (bR (aA rfl) (abC o.w1 o.w2 (o.c y (z2e hy))))
 ·refine cM rfl (aq (aY (aA rfl) rfl) (aY (aA (aq rfl rfl (vY (i:=0) (d:=row w (f 0)) ?_))) rfl) (ada ?_ ?_))
  ·rw[z2b,List.getElem?_range o.h1];rfl
  ·simp
  ·simp[dep]
theorem Ms (o:Ok w h f):cU [cC w h f]= .ok .non:=aew (fD (uo (bf (bR (aA rfl) (Oh o)))) rfl)
theorem size_eq (o:Ok w h f):jQ [cC w h f]= .ok (.tup [.int w,.int h]):=by
 refine cN (aL (sX (eE (aA rfl) (Ms o))) (cH (f9 (aB (aY (aA (aq rfl rfl (vY (i:=0) (d:=row w (f 0)) ?_))) ?_) (aA (aY (aA rfl) ?_))))))
 ·rw[z2b,List.getElem?_range o.h1];rfl
 ·simp[row,bW]
 ·simp[cC,bW]
theorem abD (o:Ok w h f):qH [cC w h f]= .ok (cC h w λ y x=>f x y):=by
 refine cN (aL (bx (eE (aA rfl) (size_eq o)) rfl) (cH (aY (aA (cu (c:=λ (x:Nat)=> .int (x:Int)) (h:=λ x=>row h λ y=>f y x) (l:=List.range w) (iU (aA rfl) (by have:=o.w2;exact sI this)) (by rw[z2d];have:=o.w2;exact gB this) λ x hx=>?_)) rfl)));refine cM rfl (aY (aA (cu (c:=λ (y:Nat)=> .int (y:Int)) (h:=λ y=> .int (f y x)) (l:=List.range h) (iU (aA rfl) (by have:=o.h2;exact sI this)) (by rw[z2d];have:=o.h2;exact gB this) λ y hy=>?_)) rfl);refine cM rfl (aq (aq rfl rfl (vY (i:=y) (d:=row w (f y)) ?_)) rfl (vY (i:=x) ?_))
 ·rw[z2b,List.getElem?_range (z2e hy)];rfl
 ·rw[z2b,List.getElem?_range (z2e hx)];rfl
theorem abE {α:Type} {n:Nat} {g:Nat->α}:((List.range n).map g).reverse=(List.range n).map λ i=>g (n - 1 - i):=by
 refine List.ext_getElem (by simp) λ i h1 h2=>?_;simp
end
noncomputable def adN:ao->So:=(wI 5 (aF qw (ak (aV 1 [1,2,4,0,6] (λ ρ=>((ak (gv 2) nA) ρ).bind gq) (aG 0) tT (aF (bC bZ 3) (ak (gv 4) (ak (bin (bin (bin (gv 1) (ci 1) fY) (bin (gv 2) (gv 5) jw) fY) (gv 0) fY) (ak (gv 3) nA))))) nA)))
section
variable {ns:List Int} {a m:Int} {w h:Nat}
noncomputable def vA (d:D):Option Ent:=some (.val d)
theorem ag3 (hns:ns.length<=1000000) (ha:0<=a) (hm:0 < m) (hw:w<=20) {acc:List D} {y:Nat} {tl:Option Ent} (hl:acc.length < 1000000):
  adN [vA (.lst (ns.map .int)),vA (.int a),vA (.int (w:Int)),tl,vA (.int m),some (.lst acc),vA (.int (y:Int))] =
   .nx [vA (.lst (ns.map .int)),vA (.int a),vA (.int (w:Int)),tl,vA (.int m),some (.lst (acc++[row w λ x=>dr ns (a+1+(w:Int)*(y:Int)+(x:Int)) m])),vA (.int (y:Int))]:=by
 have e:aF qw (ak (aV 1 [1,2,4,0,6] (λ ρ=>((ak (gv 2) nA) ρ).bind gq) (aG 0) tT (aF (bC bZ 3) (ak (gv 4) (ak (bin (bin (bin (gv 1) (ci 1) fY) (bin (gv 2) (gv 5) jw) fY) (gv 0) fY) (ak (gv 3) nA))))) nA)
   [vA (.lst (ns.map .int)),vA (.int a),vA (.int (w:Int)),tl,vA (.int m),some (.lst acc),vA (.int (y:Int))]= .ok (row w λ x=>dr ns (a+1+(w:Int)*(y:Int)+(x:Int)) m):=by
  refine aY (aA (cu (c:=λ (x:Nat)=>D.int (x:Int)) (h:=λ (x:Nat)=>D.int (dr ns (a+1+(w:Int)*(y:Int)+(x:Int)) m)) (l:=List.range w) (iU (aA rfl) (by omega)) (by rw[z2d];exact gB hw) λ x hx=>?_)) rfl;refine cM rfl (bR (aB rfl (aB (aq (aq (aq rfl rfl rfl) (aq rfl rfl (nZ (.inl ⟨by exact z0a _,by omega⟩))) rfl) rfl rfl) (aA rfl))) ?_);have hp:(0:Int)<=(w:Int)*(y:Int):=Int.mul_nonneg (by exact z0a _) (by exact z0a _);exact (zQ hns (by omega) hm).1
 unfold adN wI;rw[e];show (if acc.length < 1000000 then So.nx _ else .bad)=_;rw[if_pos hl];rfl
theorem Rk (hns:ns.length<=1000000) (ha:0<=a) (hm:0 < m) (hw:w<=20) {tl:Option Ent}:∀{ys:List Nat} {acc:List D} {x:Option Ent},acc.length+ys.length<=1000000->
  ∃ x',forL (aG 6) adN (ys.map λ (y:Nat)=>D.int (y:Int)) [vA (.lst (ns.map .int)),vA (.int a),vA (.int (w:Int)),tl,vA (.int m),some (.lst acc),x] =
   .nx [vA (.lst (ns.map .int)),vA (.int a),vA (.int (w:Int)),tl,vA (.int m),some (.lst (acc++ys.map λ (y:Nat)=>row w λ x=>dr ns (a+1+(w:Int)*(y:Int)+(x:Int)) m)),x']
 |[],acc,x,_=>⟨x,by rw[List.map_nil,List.map_nil,List.append_nil];rfl⟩
 | y::ys,acc,x,hl=>by
  rw[List.length_cons] at hl;obtain⟨x',e⟩:=Rk hns ha hm hw (tl:=tl) (ys:=ys) (acc:=acc++[row w λ x=>dr ns (a+1+(w:Int)*(y:Int)+(x:Int)) m]) (x:=vA (.int (y:Int))) (by rw[z1d];simp only[List.length_cons,List.length_nil];exact ahN hl);refine⟨x',?_⟩;rw[List.append_assoc] at e;rw[z1h,z1h];exact fV rfl (ag3 hns ha hm hw (by omega)) e
theorem Zb (hns:ns.length<=1000000) (ha:0<=a) (hw:w<=20) (hw1:1<=w) (hh:h<=20) (hh1:1<=h):∃f,jt [.lst (ns.map .int),.int a,.int (w:Int),.int (h:Int)]= .ok (cC w h f)/\Ok w h f:=by
 obtain⟨e1,h0,h4⟩:=zQ (k:=a) (m:=4) hns ha (by exact z0a _);obtain⟨d,hd,ed⟩:=Lr (xs:=[D.int 2,.int 5,.int 100,.int 10]) h0 h4;have hm:∃m,d= .int m/\0 < m/\m<=100:=by
  simp only[List.mem_cons,List.not_mem_nil,or_false] at hd;rcases hd with rfl |rfl |rfl |rfl
  ·exact⟨_,rfl,by exact z0a _,by exact z0a _⟩
  ·exact⟨_,rfl,by exact z0a _,by exact z0a _⟩
  ·exact⟨_,rfl,by exact z0a _,by exact z0a _⟩
  ·exact⟨_,rfl,by exact z0a _,by exact z0a _⟩
 obtain⟨m,rfl,hm0,hm1⟩:=hm;obtain⟨x',er⟩:=Rk hns ha hm0 hw (tl:=vA (.int (h:Int))) (ys:=List.range h) (acc:=[]) (x:=none) (by rw[z2d,List.length_nil];exact ahO hh);refine⟨λ y x=>dr ns (a+1+(w:Int)*(y:Int)+(x:Int)) m,cN (aL (ρ':=[vA (.lst (ns.map .int)),vA (.int a),vA (.int (w:Int)),vA (.int (h:Int)),vA (.int m),some (.lst []),none]) ?_ (aL (nj (iU (m:=h) (aA rfl) (by omega)) er) (cH (aY (aA (x:= .lst ((List.range h).map λ (y:Nat)=>row w λ x=>dr ns (a+1+(w:Int)*(y:Int)+(x:Int)) m)) rfl) rfl)))),hw1,hw,hh1,hh,λ y hy x hx=>?_⟩
 ·exact aeR (aq (x:= .lst [D.int 2,.int 5,.int 100,.int 10]) (y:= .int (dr ns a 4)) (gj rfl) (bR (aB rfl (aB rfl (aA rfl))) e1) (Jr ed)) rfl
 ·have hp:(0:Int)<=(w:Int)*(y:Int):=Int.mul_nonneg (by exact aek) (by exact aek);have:=(zQ (k:=a+1+(w:Int)*(y:Int)+(x:Int)) (m:=m) hns (by exact ahP ha hp) hm0).2;show 0<=dr _ _ _/\dr _ _ _<=99;exact ahQ this hm1
theorem afb (hns:ns.length<=1000000):∃w h f,oE [.lst (ns.map .int),.int 0,.int 4,.int 3]= .ok (cC w h f)/\Ok w h f/\w<=4/\h<=3:=by
 obtain⟨e1,h1,h2⟩:=zQ (k:=0) (m:=4) hns (by exact z0a _) (by exact z0a _);obtain⟨e2,h3,h4⟩:=zQ (k:=0+1) (m:=3) hns (by exact z0a _) (by exact z0a _);obtain⟨w,hw⟩:=Int.eq_ofNat_of_zero_le (show 0<=1+dr ns 0 4 by exact ael h1);obtain⟨h,hh⟩:=Int.eq_ofNat_of_zero_le (show 0<=1+dr ns (0+1) 3 by exact ael h3);obtain⟨f,e,o⟩:=Zb (ns:=ns) (a:=0+2) (w:=w) (h:=h) hns (by exact z0a _) (by exact ahS hw h2) (by exact aem hw h1) (by exact ahR hh h4) (by exact aem hh h3);refine⟨w,h,f,cN (cH (bR (aB rfl (aB (aq rfl rfl rfl) (aB (aq rfl (bR (aB rfl (aB rfl (aA rfl))) e1) (congrArg (λ z=>R.ok (D.int z)) hw)) (aA (aq rfl (bR (aB rfl (aB (aq rfl rfl rfl) (aA rfl))) e2) (congrArg (λ z=>R.ok (D.int z)) hh)))))) e)),o,by exact ahU hw h2,by exact ahT hh h4⟩
end
section
variable {w h:Nat} {f g:Nat->Nat->Int}
end
structure qJ (w h:Nat) (s:Nat->Nat):Prop where
 lt:∀y < h,s y < w
 st:∀y,y+1 < h->s (y+1)<=s y+1/\s y<=s (y+1)+1
noncomputable abbrev sm (h:Nat) (s:Nat->Nat):D:=row h λ y=>((s y:Nat):Int)
section
variable {ρ:ao} {fa:ao->R (List D)} {α:Type} {l:List α} {p q r:α->D} {x y z:D}
theorem afc (e:fa ρ= .ok [x,y]) (h1:mH x= .ok (l.map p)) (h2:mH y= .ok (l.map q)):(λ ρ=>(fa ρ).bind zip2) ρ= .ok (l.map λ a=> .tup [p a,q a]):=by
 show (fa ρ).bind zip2=_;rw[e,R.aX,zip2,h1,R.aX,h2,R.aX,Lz,List.zip_map',List.map_map];rfl
theorem XJ {i j:Int} (h:i=j):m9 (.int i) (.int j)= .ok (.bl false):=um (by rw[h]) (by simp[dep])
theorem Mt {i j:Int}:qm (.int i) (.int j)= .ok (.bl (decide (i=j))):=by
 rw[qm,if_pos (by simp[dep])];show R.ok (D.bl (gU (.int i) (.int j)))=_;by_cases h:i=j <;> simp[tY,tZ,uc,ud,uf,mJ,iR,h]
theorem ag4 {n d:Nat}:HT.sIx n d none=d:=rfl
theorem XM {xs ys:List D} (h:xs.length+ys.length<=1000000):cR (.tup xs) (.tup ys)= .ok (.tup (xs++ys)):=by
 rw[cR,if_pos h]
theorem XQ {xs ys:List D} (h:xs.length+ys.length<=1000000):cR (.lst xs) (.lst ys)= .ok (.lst (xs++ys)):=by
 rw[cR,if_pos h]
end
section
variable {w h:Nat} {g:Nat->Int} {n:Nat} {c:Int}
end
section
variable {w h:Nat} {f:Nat->Nat->Int} {s:Nat->Nat}
theorem len0 (o:Ok w h f) {ρ:ao} {u:ao->R D} (e:u ρ= .ok (cC w h f)):aF bW (ak (bin u (ci 0) bD) nA) ρ= .ok (.int (w:Int)):=by
 refine aY (aA (aq e rfl (vY (i:=0) (d:=row w (f 0)) ?_))) ?_
 ·rw[z2b,List.getElem?_range o.h1];rfl
 ·simp[row,bW]
noncomputable def more (s:Nat->Nat) (c:Nat->Int) (f:Nat->Nat->Int):Nat->Nat->Int:=λ y x=>if x < s y then f y x else if x=s y then c y else f y (x - 1)
end
theorem XR {ρ:ao} {fa:ao->R (List D)} {ds:List D} {i:Nat} (e:fa ρ= .ok ds) (h:autoParam (ds.length<=1000000) ap9._auto_1):newL fa i ρ= .nx (ρ.set i (some (.lst ds))):=by
 unfold newL;rw[e];show (if _ then _ else _)=_;rw[if_pos h]
section
variable {ns:List Int} {a:Int} {w h:Nat} {t:Option Ent}
end
section
variable {w h:Nat} {f:Nat->Nat->Int}
end
section
variable {w h:Nat} {f:Nat->Nat->Int} {s:Nat->Nat} {c:Nat->Int}
end
noncomputable def ab (i:Int):Int:=if i < 0 then -i else i
noncomputable def gap (n:Nat) (g:Nat->Int) (x:Nat):Int:=ab (g (x - 1) - g (min (x+1) (n - 1)))
noncomputable def lN (w h:Nat) (f:Nat->Nat->Int) (y x:Nat):Int:=gap w (f y) x+gap h (λ y=>f y x) y
section
variable {n w h:Nat} {g:Nat->Int} {f:Nat->Nat->Int} {s:Nat->Nat} {ρ:ao}
theorem Gb:bW [row n g]= .ok (.int (n:Int)):=by simp[row,bW]
theorem Gd:bW [cC w h f]= .ok (.int (h:Int)):=by simp[cC,bW]
theorem Rn {n:Nat} (h1:1<=n):fX (.int (n:Int)) (.int 1)= .ok (.int ((n - 1:Nat):Int)):=by
 show R.ok (D.int ((n:Int) - 1))=_;rw[show (n:Int) - 1=((n - 1:Nat):Int) by exact ahV h1]
theorem ag5 {x:Nat}:maxD [.int ((x:Int) - 1),.int 0]= .ok (.int ((x - 1:Nat):Int)):=by
 show R.ok (D.int (if (0:Int) > (x:Int) - 1 then 0 else (x:Int) - 1))=_;congr 2;split <;> (first |exact ahW (by assumption) |exact ahX (by assumption))
theorem min1 {x n:Nat}:minD [.int ((x+1:Nat):Int),.int (n:Int)]= .ok (.int ((min (x+1) n:Nat):Int)):=by
 show R.ok (D.int (if (n:Int) < ((x+1:Nat):Int) then (n:Int) else ((x+1:Nat):Int)))=_;congr 2;split <;> (first |exact ahY (by assumption) |exact ahZ (by assumption))
theorem uH {x:Nat} (hx:x < n):bD (row n g) (.int (x:Int))= .ok (.int (g x)):=by
 refine vY (i:=x) ?_;rw[z2b,List.getElem?_range hx];rfl
theorem Ro {y:Nat} (hy:y < h):bD (cC w h f) (.int (y:Int))= .ok (row w (f y)):=by
 refine vY (i:=y) ?_;rw[z2b,List.getElem?_range hy];rfl
theorem rO {α:Type} {p:Nat->D} {x:Nat} (hx:x < n):bD (.lst ((List.range n).map p)) (.int (x:Int))= .ok (p x):=by
 refine aa0 (i:=x) ?_;rw[z2b,List.getElem?_range hx];rfl
theorem XS (h1:1<=n) (cg:n<=20):uG [row n g]= .ok (.lst ((List.range n).map λ x=> .int (gap n g x))):=by
 refine cN (aL (bx (aq (aY (aA rfl) Gb) rfl (Rn h1)) rfl) (cH (cu (c:=λ (x:Nat)=>D.int (x:Int)) (h:=λ x=> .int (gap n g x)) (l:=List.range n) (iU (aA (aY (aA rfl) Gb)) (by exact sI cg)) (by rw[z2d];exact gB cg) λ x hx=>?_)));have hx:=z2e hx;exact cM rfl (aY (aA (aq (x:= .int (g (x - 1))) (y:= .int (g (min (x+1) (n - 1)))) (aq rfl (aY (aB (aq rfl rfl rfl) (aA rfl)) ag5) (uH (by exact PX hx))) (aq rfl (aY (aB (x:= .int ((x+1:Nat):Int)) (aq rfl rfl rfl) (aA rfl)) min1) (uH (by exact ah0 h1))) rfl)) rfl)
theorem abF (o:Ok w h f):lX [cC w h f]= .ok (cC w h (lN w h f)):=by
 have cg:=o.h2;have w20:=o.w2;refine cN (aL (bx (eE (aA rfl) (size_eq o)) rfl)
  (aL (bx (cu (c:=λ y=>row w (f y)) (h:=λ y=> .lst ((List.range w).map λ x=> .int (gap w (f y) x))) (l:=List.range h) (sV rfl) (by rw[z2d];exact gB cg) λ y hy=>cM rfl (bR (aA rfl) (XS o.w1 o.w2))) rfl)
  (aL (bx (cu (c:=λ x=>row h λ y=>f y x) (h:=λ x=> .lst ((List.range h).map λ y=> .int (gap h (λ y=>f y x) y))) (l:=List.range w) (sV (eE (aA rfl) (abD o))) (by rw[z2d];exact gB w20) λ y hy=>cM rfl (bR (aA rfl) (XS o.h1 o.h2))) rfl)
  (cH (aY (aA (cu (c:=λ (y:Nat)=>D.int (y:Int)) (h:=λ y=>row w (lN w h f y)) (l:=List.range h) (iU (aA rfl) (by exact sI cg)) (by rw[z2d];exact gB cg) λ y hy=>?_)) rfl)))))
 have hy:=z2e hy;refine cM rfl (aY (aA (cu (c:=λ (x:Nat)=>D.int (x:Int)) (h:=λ x=> .int (lN w h f y x)) (l:=List.range w) (iU (aA rfl) (by exact sI w20)) (by rw[z2d];exact gB w20) λ x hx=>?_)) rfl);have hx:=z2e hx;exact cM rfl (aq (x:= .int (gap w (f y) x)) (y:= .int (gap h (λ y=>f y x) y)) (aq (aq rfl rfl (rO (α:=D) hy)) rfl (rO (α:=D) hx)) (aq (aq rfl rfl (rO (α:=D) hx)) rfl (rO (α:=D) hy)) rfl)
theorem Rp {i:Nat} {u:ao->R D} {d:D} {ds:List D} (e:u ρ= .ok d) (h:ρ[i]?=some (some (.lst ds))) (hl:ds.length < 1000000):wI i u ρ= .nx (ρ.set i (some (.lst (ds++[d])))):=by
 unfold wI;rw[e];simp only[rK,jA,h];rw[if_pos hl]
theorem Nx {p:Nat->D}:∀{n m:Nat},pG m ((List.range' m n).map p)=(List.range' m n).map λ (x:Nat)=>D.tup [.int (x:Int),p x]
 |0,_=>rfl
 |n+1,m=>by rw[List.range'_succ,z1h,z1h,pG,Nx]
theorem Ge {fa:ao->R (List D)} {x:D} {n:Nat} {p:Nat->D} (e:fa ρ= .ok [x]) (h:mH x= .ok ((List.range n).map p)):(λ ρ=>(fa ρ).bind pH) ρ= .ok ((List.range n).map λ (y:Nat)=>D.tup [.int (y:Int),p y]):=by
 show (fa ρ).bind pH=_;rw[e,R.aX,pH,h,R.aX,List.range_eq_range',Nx]
theorem afd {a b:Str}:qm (.str a) (.str b)= .ok (.bl (a ==b)):=by
 rw[qm,if_pos (by simp[dep])];show R.ok (D.bl (gU (.str a) (.str b)))=_;simp[tY,tZ,uc,ud,uf,mJ,iR]
noncomputable def ajG (T:Nat->Nat->Nat->Int) (s:Nat->Nat) (y:Nat):Int:=T y (s y) (s (y - 1)+1 - s y)
noncomputable def cost (h:Nat) (T:Nat->Nat->Nat->Int) (s:Nat->Nat):Int:=T 0 (s 0) 1+((List.range (h - 1)).map λ y=>ajG T s (y+1)).sum
end
section
variable {n w h:Nat} {g:Nat->Int} {f:Nat->Nat->Int} {s:Nat->Nat} {c:Int} {m:Str} {ρ:ao}
noncomputable abbrev clip (n:Nat) (X:Int):Int:=if (if X < ((n - 1:Nat):Int) then X else ((n - 1:Nat):Int)) > 0 then (if X < ((n - 1:Nat):Int) then X else ((n - 1:Nat):Int)) else 0
theorem Qe {X Y:Int} {x y:Nat} (o:Ok w h f) (hy:clip h Y=(y:Int)) (hyh:y < h) (hx:clip w X=(x:Int)) (hxw:x < w):gZ [cC w h f,.int X,.int Y]= .ok (.int (f y x)):=by
 refine cN (cH (aq (x:=row w (f y)) (y:= .int (x:Int)) (aq rfl (aY (aB rfl (aA (aY (aB (aq (aY (aA rfl) Gd) rfl (Rn o.h1)) (aA rfl)) rfl))) ?_) (Ro hyh)) (aY (aB rfl (aA (aY (aB (aq (len0 o rfl) rfl (Rn o.w1)) (aA rfl)) rfl))) ?_) (uH hxw)))
 ·exact congrArg (λ z=>R.ok (D.int z)) hy
 ·exact congrArg (λ z=>R.ok (D.int z)) hx
theorem Gf {x:Nat} (hx:x < n):clip n (x:Int)=(x:Int):=by unfold clip;split <;> split <;> omega
theorem X3 {x:Nat} (hx:x < n):clip n ((x+1:Nat):Int)=((min (x+1) (n - 1):Nat):Int):=by unfold clip;split <;> split <;> omega
theorem X4 {x:Nat} (hx:x < n):clip n ((x:Int) - 1)=((x - 1:Nat):Int):=by unfold clip;split <;> split <;> omega
theorem adP (o:Ok w h f) {x y:Nat} (hx:x < w) (hy:y < h) {e1 e4 e5:Option Ent}:aF Hj (ak (bin (aF (bC gZ 3) (ak (gv 0) (ak (bin (gv 2) (ci 1) fX) (ak (gv 3) nA)))) (aF (bC gZ 3) (ak (gv 0) (ak (bin (gv 2) (ci 1) cR) (ak (gv 3) nA)))) fX) nA)
  [vA (cC w h f),e1,vA (.int (x:Int)),vA (.int (y:Int)),e4,e5]= .ok (.int (gap w (f y) x)):=
 aY (aA (aq (x:= .int (f y (x - 1))) (y:= .int (f y (min (x+1) (w - 1)))) (bR (aB rfl (aB (x:= .int ((x:Int) - 1)) (aq rfl rfl rfl) (aA rfl))) (Qe o (Gf hy) hy (X4 hx) (by exact PX hx))) (bR (aB rfl (aB (x:= .int ((x+1:Nat):Int)) (aq rfl rfl rfl) (aA rfl))) (Qe o (Gf hy) hy (X3 hx) (by exact Yv hx))) rfl)) rfl
theorem ag6 (o:Ok w h f) {x y:Nat} (hx:x < w) (hy:y < h) {d:D}:mO [cC w h f,.str "worth",.int (x:Int),.int (y:Int),d]= .ok (.int (lN w h f y x)):=by
 refine cN (aL (bx (adP o hx hy) rfl) (sY (jC (bf (b:=true) (aq rfl rfl afd)) (cH (aq (x:= .int (gap w (f y) x)) (y:= .int (gap h (λ y=>f y x) y)) rfl (aY (aA (aq (x:= .int (f (y - 1) x)) (y:= .int (f (min (y+1) (h - 1)) x)) ?_ ?_ rfl)) rfl) rfl)))))
 ·exact bR (aB rfl (aB rfl (aA (x:= .int ((y:Int) - 1)) (aq rfl rfl rfl)))) (Qe o (X4 hy) (by exact PX hy) (Gf hx) hx)
 ·exact bR (aB rfl (aB rfl (aA (x:= .int ((y+1:Nat):Int)) (aq rfl rfl rfl)))) (Qe o (X3 hy) (by exact Yv hy) (Gf hx) hx)
theorem ais {i j:Int}:m9 (.int i) (.int j)= .ok (.bl (!decide (i=j))):=by
 rw[m9,if_pos (by simp[dep])];show R.ok (D.bl (!gU (.int i) (.int j)))=_;by_cases h:i=j <;> simp[tY,tZ,uc,ud,uf,mJ,iR,h]
noncomputable def bef (h:Nat) (s:Nat->Nat):List D:=D.non::(List.range (h - 1)).map λ y=>D.int ((s y:Nat):Int)
theorem ag7 (hh:1<=h) (cg:h<=20) {e0 e1 e3:Option Ent}:bin (iI (ak (λ _u=> .ok .non) nA)) (Jv (gv 2) (λ _u=> .ok none) (λ ρ=>(((zR (ci 1)):ao->R D) ρ).bind asI)) cR [e0,e1,vA (sm h s),e3]= .ok (.tup (bef h s)):=by
 have e:Jv (gv 2) (λ _u=> .ok none) (λ ρ=>(((zR (ci 1)):ao->R D) ρ).bind asI) [e0,e1,vA (sm h s),e3]= .ok (.tup ((List.range (h - 1)).map λ y=>D.int ((s y:Nat):Int))):=by
  show R.ok (D.tup (Ci ((List.range h).map λ y=>D.int ((s y:Nat):Int)) none (some (-1))))=_;have e2:∀{n d:Nat},HT.sIx n d (some (-1))=n - 1:=λ {n d}=>by
   show (if (-1:Int) < 0 then ((-1:Int)+(n:Int)).toNat else min (-1:Int).toNat n)=n - 1;rw[if_pos (by decide)];omega
  rw[Ci,e2,ag4,Nat.sub_zero,z1g,z2d,List.drop_zero,<-List.map_take,List.take_range,Nat.min_eq_left (by exact Nat.sub_le _ _)]
 exact aq (f9 (aA rfl)) e (XM (by simp;exact ah1 cg))
theorem ag8 {y:Nat} (hy:y < h):bD (.tup (bef h s)) (.int (y:Int))= .ok (if y=0 then .non else .int ((s (y - 1):Nat):Int)):=by
 refine vY (i:=y) ?_;cases y with
 |zero=>rfl
 | succ y=>
  show ((List.range (h - 1)).map λ y=>D.int ((s y:Nat):Int))[y]?=_;rw[z2b,List.getElem?_range (by exact ah2 hy)];rfl
theorem Gw (o:Ok w h f) (q:qJ w h s):eY [cC w h f,.str "worth",sm h s]= .ok (.int ((List.range h).map λ y=>lN w h f y (s y)).sum):=by
 have cg:=o.h2;refine cN (aL (bx (ag7 o.h1 cg) rfl) (cH (aY (aA (cu (c:=λ (y:Nat)=>D.tup [.int (y:Int),.int ((s y:Nat):Int)]) (h:=λ y=> .int (lN w h f y (s y))) (l:=List.range h) (Ge (aA rfl) rfl) (by rw[z2d];exact gB cg) λ y hy=>?_)) Xc)));have hy:=z2e hy;exact cM rfl (bR (aB rfl (aB rfl (aB rfl (aB rfl (aA (aq rfl rfl (ag8 hy))))))) (ag6 o (q.lt y hy) hy))
end
section
variable {n w h:Nat} {g:Nat->Int} {f:Nat->Nat->Int} {ρ:ao}
theorem X5 {i:Nat} {u:ao->R D} {ds es:List D} (h:ρ[i]?=some (some (.lst ds))) (e:u ρ= .ok (.lst es)) (hl:ds.length+es.length<=1000000):LK i u ρ= .nx (ρ.set i (some (.lst (ds++es)))):=by
 unfold LK;simp only[h,e,rK,jA];rw[if_pos hl]
theorem ag9 {i:Nat} {u:ao->R D} {ds:List D} {k:Int} {d:D} (h:ρ[i]?=some (some (.lst ds))) (e:u ρ= .ok (.int k)) (e2:bD (.lst ds) (.int k)= .ok d):ixO i u ρ= .ok d:=by
 unfold ixO;simp only[h,e,R.aX,e2]
noncomputable def nr (w x:Nat):List Nat:=List.range' (x - 1) (min (x+2) w - (x - 1))
theorem abG {x p:Nat} (hx:x < w):p∈nr w x↔p < w/\p<=x+1/\x<=p+1:=by
 unfold nr;rw[List.mem_range'_1,Nat.add_sub_cancel' (Nat.le_min.mpr ⟨z0b (Nat.sub_le x 1) (Nat.le_add_right x 2),z0b (Nat.sub_le x 1) (z0e hx)⟩),Nat.lt_min];exact⟨λ h=>⟨h.2.2,Nat.le_of_lt_succ h.2.1,Nat.le_add_of_sub_le h.1⟩,λ h=>⟨Nat.sub_le_of_le_add h.2.2,Nat.lt_succ_of_le h.2.1,h.1⟩⟩
theorem Rq {x:Nat}:(nr w x).length<=3:=by unfold nr;rw[List.length_range'];exact ah3
theorem afe {x:Nat} (hx:x < w) (hw:w<=20):zj [.int (x:Int),.int (w:Int)]= .ok (.lst ((nr w x).map λ (p:Nat)=>D.int (p:Int))):=by
 have e2:minD [.int ((x+2:Nat):Int),.int (w:Int)]= .ok (.int ((min (x+2) w:Nat):Int)):=by
  show R.ok (D.int (if (w:Int) < ((x+2:Nat):Int) then (w:Int) else ((x+2:Nat):Int)))=_;congr 2;by_cases hz:w < x+2
  ·rw[if_pos (Int.ofNat_lt.mpr hz),Nat.min_eq_right (z0e hz)]
  ·rw[if_neg (λ q=>hz (Int.ofNat_lt.mp q)),Nat.min_eq_left (Nat.le_of_not_lt hz)]
 refine cN (cH (aY (aB (x:= .int ((x - 1:Nat):Int)) (aY (aB (aq rfl rfl rfl) (aA rfl)) ag5) (aA (x:= .int ((min (x+2) w:Nat):Int)) (aY (aB (x:= .int ((x+2:Nat):Int)) (aq rfl rfl rfl) (aA rfl)) e2))) ?_));show (if _ then _ else _)=_;have b1:x - 1<=1000:=z0b (Nat.sub_le x 1) (z0b (z0e hx) (z0b hw (by decide)));have b2:min (x+2) w<=1000:=z0b (Nat.min_le_right _ _) (z0b hw (by decide));rw[if_pos ⟨Int.le_trans (by decide) (z0a _),Int.ofNat_le.mpr b1,Int.le_trans (by decide) (z0a _),Int.ofNat_le.mpr b2⟩];congr 2;unfold upto nr;rw[Int.toNat_sub,List.range'_eq_map_range,List.map_map];refine List.map_congr_left λ i _u=>?_;simp
end
end jP
namespace jP
open PySem PySem.Spec L2 Pu
open Fl (inn out)
section
variable {w h k:Nat} {C:Nat->Nat->Int} {T:Nat->Nat->Bool} {s:Nat->Nat->Nat} {ρ:ao}
theorem Af {a b:Nat} (h:a < 2 ^ 64):Ho (.int (a:Int)) (.int (b:Int))= .ok (.int ((a*b:Nat):Int)):=by
 show jw (.int (a:Int)) (.int (b:Int))=_;rw[nZ (.inl ⟨by exact z0a _,by omega⟩),Int.natCast_mul]
theorem Gg {x y:Nat} (hy:y<=20):cO [.int (x:Int),.int (y:Int),.int (w:Int)]= .ok (.int ((inn w x y:Nat):Int)):=
 cN (cH (aq rfl (aq (y:= .int 1) (aq (aq rfl rfl (Af (a:=y) (b:=w) (by exact aen hy))) rfl rfl) rfl rfl) (Af (a:=2) (b:=y*w+x+1) (by exact Nat.le_add_left _ _))))
noncomputable abbrev Ar:=Nat×Nat×Int
noncomputable def fG (a:Ar):D:= .tup [.int (a.1:Int),.int (a.2.1:Int),.int a.2.2]
noncomputable def cI (w h:Nat) (T:Nat->Nat->Bool):List (List Bool):=(List.range h).map λ y=>(List.range w).map λ x=>T x y
theorem zm:tk (cI w h T)= .lst ((List.range h).map λ y=> .lst ((List.range w).map λ x=> .bl (T x y))):=by
 unfold tk cI;rw[List.map_map];refine congrArg D.lst (List.map_congr_left λ y _u=>?_);show D.lst (((List.range w).map λ x=>T x y).map D.bl)=_;rw[List.map_map];rfl
theorem Zc {y:Nat} (hy:y < h):bD (tk (cI w h T)) (.int (y:Int))= .ok (.lst ((List.range w).map λ x=> .bl (T x y))):=by
 rw[zm];exact rO (α:=Nat) hy
noncomputable def cA (w h:Nat) (C:Nat->Nat->Int) (T:Nat->Nat->Bool) (y x:Nat):List Ar:=
 (if T x y=true then [] else [(inn w x y,out w x y,C y x)])++if y+1 < h then (nr w x).map λ p=>(out w x y,inn w p (y+1),0) else [(out w x y,1,0)]
theorem Rr {y x:Nat}:(cA w h C T y x).length<=4:=by
 unfold cA;rw[z1d];have:=Rq (w:=w) (x:=x);split <;> split <;> simp <;> omega
noncomputable def X6 {a b:Nat}:ltI (.int (a:Int)) (.int (b:Int))= .ok (.bl (decide (a < b))):=by
 show R.ok (D.bl (decide ((a:Int) < (b:Int))))=_;simp
theorem aha {y x:Nat} (hy:y < h) (hx:x < w) (cg:h<=20) (w20:w<=20) {acc:List D} (hl:acc.length+4<=1000000) {e8:Option Ent}:
  adI [vA (cC w h C),vA (tk (cI w h T)),vA (.int (w:Int)),some (.lst acc),vA (.int (y:Int)),vA (row w (C y)),vA (.int (x:Int)),vA (.int (C y x)),e8] =
   .nx [vA (cC w h C),vA (tk (cI w h T)),vA (.int (w:Int)),some (.lst (acc++(cA w h C T y x).map fG)),vA (.int (y:Int)),vA (row w (C y)),vA (.int (x:Int)),vA (.int (C y x)),vA (.int ((inn w x y:Nat):Int))]:=by
 refine aL (ρ':=[vA (cC w h C),vA (tk (cI w h T)),vA (.int (w:Int)),some (.lst acc),vA (.int (y:Int)),vA (row w (C y)),vA (.int (x:Int)),vA (.int (C y x)),vA (.int ((inn w x y:Nat):Int))]) (bx (bR (aB rfl (aB rfl (aA rfl))) (Gg (by exact Jf hy cg))) rfl) ?_;refine aL (ρ':=[vA (cC w h C),vA (tk (cI w h T)),vA (.int (w:Int)),some (.lst (acc++(if T x y=true then [] else [(inn w x y,out w x y,C y x)]).map fG)),vA (.int (y:Int)),vA (row w (C y)),vA (.int (x:Int)),vA (.int (C y x)),vA (.int ((inn w x y:Nat):Int))]) ?_ ?_
 ·have e:(rW (bH (bin (bin (gv 1) (gv 4) bD) (gv 6) bD))) (cG [vA (cC w h C),vA (tk (cI w h T)),vA (.int (w:Int)),some (.lst acc),vA (.int (y:Int)),vA (row w (C y)),vA (.int (x:Int)),vA (.int (C y x)),vA (.int ((inn w x y:Nat):Int))])= .ok (!T x y):=
   uo (bf (aq (aq rfl rfl (Zc hy)) rfl (rO (α:=Nat) (p:=λ x=>D.bl (T x y)) hx)))
  cases t:T x y with
  | true=>
   rw[t] at e;rw[if_pos rfl,List.map_nil,List.append_nil];exact fD e rfl
  | false=>
   rw[t] at e;rw[if_neg Bool.false_ne_true];exact jC e (Rp (f9 (aB rfl (aB (x:= .int ((out w x y:Nat):Int)) (aq rfl rfl rfl) (aA rfl)))) rfl (by omega))
 ·have hl2:(acc++(if T x y=true then [] else [(inn w x y,out w x y,C y x)]).map fG).length<=acc.length+1:=by
   rw[z1d];split <;> simp
  generalize ha:acc++(if T x y=true then [] else [(inn w x y,out w x y,C y x)]).map fG=ahb at hl2
  have e:(bH (bin (bin (gv 4) (ci 1) cR) (aF bW (ak (gv 0) nA)) ltI)) (cG [vA (cC w h C),vA (tk (cI w h T)),vA (.int (w:Int)),some (.lst ahb),vA (.int (y:Int)),vA (row w (C y)),vA (.int (x:Int)),vA (.int (C y x)),vA (.int ((inn w x y:Nat):Int))])= .ok (decide (y+1 < h)):=
   bf (aq (x:= .int ((y+1:Nat):Int)) (aq rfl rfl rfl) (aY (aA rfl) Gd) X6)
  have ec:(acc++(cA w h C T y x).map fG)=ahb++(if y+1 < h then (nr w x).map λ p=>(out w x y,inn w p (y+1),0) else [(out w x y,1,0)]).map fG:=by
   rw[<-ha];unfold cA;rw[List.map_append,List.append_assoc]
  rw[ec];by_cases hy1:y+1 < h
  ·rw[decide_eq_true hy1] at e;rw[if_pos hy1];refine jC e (X5 rfl ?_ (es:=((nr w x).map λ p=>((out w x y,inn w p (y+1),0):Ar)).map fG) ?_)
   ·rw[List.map_map];refine cu (l:=nr w x) (c:=λ (p:Nat)=>D.int (p:Int)) (jq (bR (aB rfl (aA rfl)) (afe hx w20))) (by have:=Rq (w:=w) (x:=x);omega) λ p hp=>?_;exact cM rfl (f9 (aB (x:= .int ((out w x y:Nat):Int)) (aq rfl rfl rfl) (aB (bR (aB rfl (aB (x:= .int ((y+1:Nat):Int)) (aq rfl rfl rfl) (aA rfl))) (Gg (by exact aeo hy cg))) (aA rfl))))
   ·rw[z1g,z1g];have:=Rq (w:=w) (x:=x);omega
  ·rw[decide_eq_false hy1] at e;rw[if_neg hy1];exact fD e (Rp (f9 (aB (x:= .int ((out w x y:Nat):Int)) (aq rfl rfl rfl) (aB rfl (aA rfl)))) rfl (by omega))
theorem Ru {y:Nat} (hy:y < h) (cg:h<=20) (w20:w<=20):∀{xs:List Nat} {acc:List D} {e6 e7 e8:Option Ent},(∀x∈xs,x < w)->acc.length+4*xs.length<=1000000->
  ∃ nD rP JM,forL (eU (eV 2 (bB (aG 6) (bB (aG 7) nilG)))) adI (xs.map λ (x:Nat)=>D.tup [.int (x:Int),.int (C y x)]) [vA (cC w h C),vA (tk (cI w h T)),vA (.int (w:Int)),some (.lst acc),vA (.int (y:Int)),vA (row w (C y)),e6,e7,e8] =
   .nx [vA (cC w h C),vA (tk (cI w h T)),vA (.int (w:Int)),some (.lst (acc++(xs.flatMap (cA w h C T y)).map fG)),vA (.int (y:Int)),vA (row w (C y)),nD,rP,JM]
 |[],acc,e6,e7,e8,_,_=>⟨e6,e7,e8,by rw[List.flatMap_nil,List.map_nil,List.map_nil,List.append_nil];rfl⟩
 | x::xs,acc,e6,e7,e8,hx,hl=>by
  rw[List.length_cons] at hl;have hc:=Rr (w:=w) (h:=h) (C:=C) (T:=T) (y:=y) (x:=x);obtain⟨nD,rP,JM,e⟩:=Ru hy cg w20 (xs:=xs) (acc:=acc++(cA w h C T y x).map fG) (e6:=vA (.int (x:Int))) (e7:=vA (.int (C y x))) (e8:=vA (.int ((inn w x y:Nat):Int))) (λ z hz=>hx z (z2f _ hz)) (by rw[z1d,z1g];omega);refine⟨nD,rP,JM,?_⟩;rw[z1h,List.flatMap_cons,List.map_append,<-List.append_assoc];exact fV rfl (aha hy (hx x (List.mem_cons_self ..)) cg w20 (by omega)) e
theorem kI {α β:Type} {f:α->List β} {m:Nat}:∀{l:List α},(∀a∈l,(f a).length<=m)->(l.flatMap f).length<=m*l.length
 |[],_=>Nat.zero_le _
 | a::l,hf=>by
  rw[List.flatMap_cons,z1d,List.length_cons,Nat.mul_succ];have h1:=hf a (List.mem_cons_self ..);have h2:=kI (l:=l) λ b hb=>hf b (z2f _ hb);omega
theorem X7 (cg:h<=20) (w20:w<=20):∀{ys:List Nat} {acc:List D} {e4 e5 e6 e7 e8:Option Ent},(∀y∈ys,y < h)->acc.length+80*ys.length<=1000000->
  ∃ e4' e5' nD rP JM,forL (eU (eV 2 (bB (aG 4) (bB (aG 5) nilG)))) adO (ys.map λ (y:Nat)=>D.tup [.int (y:Int),row w (C y)]) [vA (cC w h C),vA (tk (cI w h T)),vA (.int (w:Int)),some (.lst acc),e4,e5,e6,e7,e8] =
   .nx [vA (cC w h C),vA (tk (cI w h T)),vA (.int (w:Int)),some (.lst (acc++(ys.flatMap λ y=>(List.range w).flatMap (cA w h C T y)).map fG)),e4',e5',nD,rP,JM]
 |[],acc,e4,e5,e6,e7,e8,_,_=>⟨e4,e5,e6,e7,e8,by rw[List.flatMap_nil,List.map_nil,List.map_nil,List.append_nil];rfl⟩
 | y ::ys,acc,e4,e5,e6,e7,e8,hy,hl=>by
  rw[List.length_cons] at hl;have hf:((List.range w).flatMap (cA w h C T y)).length<=4*w:=by
   have:=kI (f:=cA w h C T y) (m:=4) (l:=List.range w) λ _u _u=>Rr;rw[z2d] at this;exact this
  obtain⟨a6,a7,a8,e1⟩:=Ru (C:=C) (T:=T) (hy y (List.mem_cons_self ..)) cg w20 (xs:=List.range w) (acc:=acc) (e6:=e6) (e7:=e7) (e8:=e8) (λ x hx=>z2e hx) (by rw[z2d];omega);obtain⟨b4,b5,b6,b7,b8,e2⟩:=X7 cg w20 (ys:=ys) (acc:=acc++((List.range w).flatMap (cA w h C T y)).map fG) (e4:=vA (.int (y:Int))) (e5:=vA (row w (C y))) (e6:=a6) (e7:=a7) (e8:=a8) (λ z hz=>hy z (z2f _ hz)) (by rw[z1d,z1g];omega);refine⟨b4,b5,b6,b7,b8,?_⟩;rw[z1h,List.flatMap_cons,List.map_append,<-List.append_assoc];exact fV rfl (nj (Ge (aA rfl) (n:=w) (p:=λ x=>D.int (C y x)) rfl) e1) e2
noncomputable def AD (w h:Nat) (C:Nat->Nat->Int) (T:Nat->Nat->Bool):List Ar:=((List.range w).map λ x=>(0,inn w x 0,0))++(List.range h).flatMap λ y=>(List.range w).flatMap (cA w h C T y)
theorem wg (h1:1<=h) {ρ:ao} {u:ao->R D} (e:u ρ= .ok (cC w h C)):aF bW (ak (bin u (ci 0) bD) nA) ρ= .ok (.int (w:Int)):=
 aY (aA (aq (y:= .int ((0:Nat):Int)) e rfl (Ro (by assumption)))) Gb
theorem Rv {f:ao->R D} {i:Nat} {ds:List D} (e:f ρ= .ok (.lst ds)):zV f i ρ= .nx (ρ.set i (some (.lst ds))):=by unfold zV;rw[e];rfl
theorem Rw (h1:1<=h) (cg:h<=20) (w20:w<=20):mR [cC w h C,tk (cI w h T)]= .ok (.lst ((AD w h C T).map fG)):=by
 obtain⟨b4,b5,b6,b7,b8,e⟩:=X7 (C:=C) (T:=T) cg w20 (ys:=List.range h) (acc:=((List.range w).map λ x=>((0,inn w x 0,0):Ar)).map fG) (e4:=none) (e5:=none) (e6:=none) (e7:=none) (e8:=none) (λ y hy=>z2e hy) (by rw[z1g,z1g,z2d,z2d];omega);rw[<-List.map_append] at e;refine cN (aL (bx (wg h1 rfl) rfl) (aL (ρ':=[vA (cC w h C),vA (tk (cI w h T)),vA (.int (w:Int)),some (.lst (((List.range w).map λ x=>((0,inn w x 0,0):Ar)).map fG)),none,none,none,none,none]) (Rv ?_) (aL (nj (Ge (aA rfl) (n:=h) (p:=λ y=>row w (C y)) rfl) e) ?_)))
 rotate_left
 ·exact cH rfl
 rw[List.map_map];exact cu (l:=List.range w) (iU (aA rfl) (by exact sI w20)) (by rw[z2d];exact gB w20) λ x _u=>cM rfl (f9 (aB rfl (aB (bR (aB rfl (aB (x:= .int ((0:Nat):Int)) rfl (aA rfl))) (Gg (by exact Nat.zero_le _))) (aA rfl))))
end
section
variable {w h k:Nat} {C:Nat->Nat->Int} {T:Nat->Nat->Bool} {s:Nat->Nat->Nat} {ρ:ao}
noncomputable def sG (h k:Nat) (s:Nat->Nat->Nat):D:= .lst ((List.range k).map λ i=>sm h (s i))
noncomputable def bn (w h:Nat) (s:Nat->Nat) (m:Nat):Nat:=if m < h then inn w (s m) m else 1
noncomputable def uA (w h:Nat) (C:Nat->Nat->Int) (s:Nat->Nat) (y:Nat):List Ar:=[(bn w h s (y+1),out w (s y) y,0),(out w (s y) y,inn w (s y) y,-C y (s y))]
theorem ahc {q:Nat->Nat} {y:Nat} {d1:D} (h1:1<=h) (hy:y < h) (hq:q y < w) (cg:h<=20) {acc:List D} (hl:acc.length+2<=1000000) {b:Nat} {e6:Option Ent}:
  auI [vA (cC w h C),vA d1,some (.lst acc),vA (sm h q),vA (.int (b:Int)),vA (.int (y:Int)),e6] =
   .nx [vA (cC w h C),vA d1,some (.lst (acc++[fG (b,out w (q y) y,0),fG (out w (q y) y,inn w (q y) y,-C y (q y))])),vA (sm h q),vA (.int ((inn w (q y) y:Nat):Int)),vA (.int (y:Int)),vA (.int ((inn w (q y) y:Nat):Int))]:=by
 refine aL (ρ':=[vA (cC w h C),vA d1,some (.lst acc),vA (sm h q),vA (.int (b:Int)),vA (.int (y:Int)),vA (.int ((inn w (q y) y:Nat):Int))]) (bx (bR (aB (x:= .int ((q y:Nat):Int)) (aq rfl rfl (uH hy)) (aB rfl (aA (wg h1 rfl)))) (Gg (by exact Jf hy cg))) rfl) ?_;refine aL (X5 rfl (gj (aB (f9 (aB rfl (aB (x:= .int ((out w (q y) y:Nat):Int)) (aq rfl rfl rfl) (aA rfl)))) (aA (f9 (aB (x:= .int ((out w (q y) y:Nat):Int)) (aq rfl rfl rfl) (aB rfl (aA (x:= .int (-C y (q y))) ?_))))))) hl) (bx rfl rfl);have e:(bin (bin (gv 0) (gv 5) bD) (bin (gv 3) (gv 5) bD) bD) [vA (cC w h C),vA d1,some (.lst acc),vA (sm h q),vA (.int (b:Int)),vA (.int (y:Int)),vA (.int ((inn w (q y) y:Nat):Int))]= .ok (.int (C y (q y))):=
  aq (aq rfl rfl (Ro hy)) (aq (r:= .ok (.int ((q y:Nat):Int))) rfl rfl (uH hy)) (uH hq)
 rw[zR,e];rfl
theorem Rx {q:Nat->Nat} {d1:D} (h1:1<=h) (hq:∀y < h,q y < w) (cg:h<=20):∀{m:Nat} {acc:List D} {e5 e6:Option Ent},m<=h->acc.length+2*m<=1000000->
  ∃ e4' e5' nD,forL (aG 5) auI ((List.range m).reverse.map λ (y:Nat)=>D.int (y:Int)) [vA (cC w h C),vA d1,some (.lst acc),vA (sm h q),vA (.int ((bn w h q m:Nat):Int)),e5,e6] =
   .nx [vA (cC w h C),vA d1,some (.lst (acc++((List.range m).reverse.flatMap (uA w h C q)).map fG)),vA (sm h q),e4',e5',nD]
 | 0,acc,e5,e6,_,_=>⟨_,e5,e6,by
  show So.nx _=So.nx _;rw[show (List.range 0).reverse=[] from rfl,List.flatMap_nil,List.map_nil,List.append_nil]⟩
 | m+1,acc,e5,e6,hm,hl=>by
  have eb:bn w h q m=inn w (q m) m:=if_pos (by assumption);obtain⟨e4',e5',nD,e⟩:=Rx (d1:=d1) h1 hq cg (m:=m) (acc:=acc++(uA w h C q m).map fG) (e5:=vA (.int (m:Int))) (e6:=vA (.int ((inn w (q m) m:Nat):Int))) (by exact z0e hm) (by rw[z1d];show _+2+_<=_;omega);refine⟨e4',e5',nD,?_⟩;rw[List.range_succ,List.reverse_append,List.reverse_singleton,List.singleton_append,z1h,List.flatMap_cons,List.map_append,<-List.append_assoc];rw[eb] at e;exact fV rfl (ahc h1 (by assumption) (hq m (by assumption)) cg (by omega)) e
theorem abH {n:Nat}:rN ((n:Int) - 1) n=(List.range n).reverse.map λ (y:Nat)=>D.int (y:Int):=by
 unfold rN;rw[List.map_reverse,abE (g:=λ (y:Nat)=>D.int (y:Int))];refine List.map_congr_left λ i hi=>?_;have:=z2e hi;exact congrArg D.int (by omega)
theorem afg {fa:ao->R (List D)} {n:Nat} (e:fa ρ= .ok [.int (n:Int)]) (h:n<=1000):(λ ρ=>(fa ρ).bind QX) ρ= .ok ((List.range n).reverse.map λ (y:Nat)=>D.int (y:Int)):=by
 show (fa ρ).bind QX=_;rw[e];show (if 0<=(n:Int)/\(n:Int)<=1000 then R.ok (rN ((n:Int) - 1) (n:Int).toNat) else .bad)=_;rw[if_pos ⟨by exact z0a _,by exact Int.ofNat_le.mpr h⟩,Int.toNat_natCast,abH]
theorem X8 {d1:D} (h1:1<=h) (cg:h<=20):∀{is:List Nat} {acc:List D} {e3 e4 e5 e6:Option Ent},(∀i∈is,∀y < h,s i y < w)->acc.length+40*is.length<=1000000->
  ∃ e3' e4' e5' nD,forL (aG 3) auO (is.map λ i=>sm h (s i)) [vA (cC w h C),vA d1,some (.lst acc),e3,e4,e5,e6] =
   .nx [vA (cC w h C),vA d1,some (.lst (acc++(is.flatMap λ i=>(List.range h).reverse.flatMap (uA w h C (s i))).map fG)),e3',e4',e5',nD]
 |[],acc,e3,e4,e5,e6,_,_=>⟨e3,e4,e5,e6,by rw[List.flatMap_nil,List.map_nil,List.map_nil,List.append_nil];rfl⟩
 | i ::is,acc,e3,e4,e5,e6,hs,hl=>by
  rw[List.length_cons] at hl;have hf:((List.range h).reverse.flatMap (uA w h C (s i))).length<=2*h:=by
   have:=kI (f:=uA w h C (s i)) (m:=2) (l:=(List.range h).reverse) λ _u _u=>z0g _;rw[List.length_reverse,z2d] at this;exact this
  have eb:bn w h (s i) h=1:=if_neg (Nat.lt_irrefl _);obtain⟨a4,a5,a6,e1⟩:=Rx (C:=C) (d1:=d1) h1 (hs i (List.mem_cons_self ..)) cg (m:=h) (acc:=acc) (e5:=e5) (e6:=e6) (z0g _) (by omega);rw[eb] at e1;obtain⟨b3,b4,b5,b6,e2⟩:=X8 (d1:=d1) h1 cg (is:=is) (acc:=acc++((List.range h).reverse.flatMap (uA w h C (s i))).map fG) (e3:=vA (sm h (s i))) (e4:=a4) (e5:=a5) (e6:=a6) (λ j hj=>hs j (z2f _ hj)) (by rw[z1d,z1g];omega);refine⟨b3,b4,b5,b6,?_⟩;rw[z1h,List.flatMap_cons,List.map_append,<-List.append_assoc];exact fV rfl (aL (bx rfl rfl) (nj (afg (aA (aY (aA rfl) Gb)) (by exact ah4 cg)) e1)) e2
noncomputable def AU (w h k:Nat) (C:Nat->Nat->Int) (s:Nat->Nat->Nat):List Ar:=(List.range k).flatMap λ i=>(List.range h).reverse.flatMap (uA w h C (s i))
theorem Zd (h1:1<=h) (cg:h<=20) (k20:k<=20) (hs:∀i < k,∀y < h,s i y < w):o9 [cC w h C,sG h k s]= .ok (.lst ((AU w h k C s).map fG)):=by
 obtain⟨b3,b4,b5,b6,e⟩:=X8 (C:=C) (d1:=sG h k s) h1 cg (is:=List.range k) (acc:=[]) (e3:=none) (e4:=none) (e5:=none) (e6:=none) (λ i hi=>hs i (z2e hi)) (by rw[z2d];show 0+_<=_;omega);rw[List.nil_append] at e;refine cN (aL (XR rfl) (aL (nj (jq rfl) e) ?_));exact cH rfl
noncomputable def TT (k:Nat) (s:Nat->Nat->Nat) (x y:Nat):Bool:=((List.range k).map λ i=>D.int ((s i y:Nat):Int)).any λ d=>gU d (.int (x:Int))
theorem abI {x y:Nat}:TT k s x y=true↔∃i,i < k/\s i y=x:=by
 unfold TT;rw[List.any_map,List.any_eq_true];constructor
 ·rintro⟨i,hi,e⟩
  have e:(((s i y:Nat):Int) ==(x:Int))=true:=e;exact⟨i,z2e hi,by have:=eq_of_beq e;exact ah5 this⟩
 ·rintro⟨i,hi,e⟩
  refine⟨i,List.mem_range.mpr hi,?_⟩;show (((s i y:Nat):Int) ==(x:Int))=true;rw[e];exact beq_self_eq_true _
theorem adQ (cg:h<=20) (w20:w<=20) (k20:k<=20):nP [sG h k s,.int (w:Int),.int (h:Int)]= .ok (tk (cI w h (TT k s))):=by
 rw[zm];refine cN (aL (ρ':=[vA (sG h k s),vA (.int (w:Int)),vA (.int (h:Int)),vA (.lst ((List.range h).map λ y=> .lst ((List.range k).map λ i=> .int ((s i y:Nat):Int))))]) (bx ?_ rfl) (cH ?_))
 ·refine cu (l:=List.range h) (iU (aA rfl) (by exact sI cg)) (by rw[z2d];exact gB cg) λ y hy=>cM rfl ?_;refine cu (l:=List.range k) (c:=λ i=>sm h (s i)) (jq rfl) (by rw[z2d];exact gB k20) λ i _u=>cM rfl (aq rfl rfl (uH (z2e hy)))
 ·refine cu (l:=List.range h) (c:=λ y=> .lst ((List.range k).map λ i=> .int ((s i y:Nat):Int))) (jq rfl) (by rw[z2d];exact gB cg) λ y hy=>cM rfl ?_;refine cu (l:=List.range w) (iU (aA rfl) (by exact sI w20)) (by rw[z2d];exact gB w20) λ x _u=>cM rfl (aq rfl rfl ?_);show (if jK (.int (x:Int))=true/\((List.range k).map λ i=>D.int ((s i y:Nat):Int)).all jK=true then R.ok (D.bl (if false=true then _ else ((List.range k).map λ i=>D.int ((s i y:Nat):Int)).any λ d=>gU d (.int (x:Int)))) else .bad)=_;rw[if_pos ⟨rfl,by rw[List.all_map,List.all_eq_true];exact λ _u _u=>rfl⟩];rfl
theorem Ny {α:Type} {kf:D->R (Option D)} {c g:α->D} {P:α->Bool}:∀{l:List α},(∀a∈l,kf (c a)= .ok (if P a=true then some (g a) else none))->lg kf (l.map c)= .ok ((l.filter P).map g)
 |[],_=>rfl
 | a::l,q=>by
  rw[z1h,lg,q a (by simp),rK,R.aX,Ny λ b hb=>q b (by simp[hb]),R.aX,List.filter_cons];cases P a <;> rfl
theorem Nz {α:Type} {n:Nat} {caps:List Nat} {fi:ao->R (List D)} {gt:D->ao->R ao} {ft:ao->R Bool} {fe:ao->R D} {c g:α->D} {P:α->Bool} {l:List α} (e1:fi ρ= .ok (l.map c)) (hl:l.length<=1000000)
  (e2:∀a∈l,nR gt ft fe (vR n caps ρ) (c a)= .ok (if P a=true then some (g a) else none)):aV n caps fi gt ft fe ρ= .ok (.lst ((l.filter P).map g)):=by
 rw[aV,e1,R.aX,Ny e2,R.aX,cap,if_pos (by rw[z1g];exact z0b (List.length_filter_le ..) hl)]
theorem Yb {gt:D->ao->R ao} {ft:ao->R Bool} {fe:ao->R D} {x:D} {ρ1:ao} {b:Bool} {d:D} (e1:gt x ρ= .ok ρ1) (e2:ft ρ1= .ok b) (e3:fe ρ1= .ok d):nR gt ft fe ρ x= .ok (if b=true then some d else none):=by
 rw[nR,e1,R.aX,e2,R.aX,e3];cases b <;> rfl
theorem Ze {m:Nat} (cg:h<=20) (w20:w<=20) (m20:m<=20) (hr:∀y < h,(Fl.pl (λ x=>T x y) w).length=m):iz [tk (cI w h T),.int (m:Int)]= .ok (sG h m (Fl.sq w T)):=by
 rw[zm];refine cN (aL (ρ':=[vA (.lst ((List.range h).map λ y=> .lst ((List.range w).map λ x=> .bl (T x y)))),vA (.int (m:Int)),vA (.lst ((List.range h).map λ y=> .lst ((Fl.pl (λ x=>T x y) w).map λ (x:Nat)=>D.int (x:Int))))]) (bx ?_ rfl) (cH ?_))
 ·refine cu (l:=List.range h) (c:=λ y=> .lst ((List.range w).map λ x=> .bl (T x y))) (jq rfl) (by rw[z2d];exact gB cg) λ y hy=>cM rfl ?_;refine Nz (l:=List.range w) (c:=λ (x:Nat)=>D.tup [.int (x:Int),.bl (T x y)]) (P:=λ x=>T x y) (Ge (aA rfl) (n:=w) (p:=λ x=> .bl (T x y)) rfl) (by rw[z2d];exact gB w20) λ x _u=>Yb rfl (bf rfl) rfl
 ·refine cu (l:=List.range m) (iU (aA rfl) (by exact sI m20)) (by rw[z2d];exact gB m20) λ i hi=>cM rfl (aY (aA (x:= .lst ((List.range h).map λ y=>D.int ((Fl.sq w T i y:Nat):Int))) ?_) rfl);refine cu (l:=List.range h) (c:=λ y=> .lst ((Fl.pl (λ x=>T x y) w).map λ (x:Nat)=>D.int (x:Int))) (jq rfl) (by rw[z2d];exact gB cg) λ y hy=>cM rfl (aq rfl rfl (aa0 ?_));have hl:i < (Fl.pl (λ x=>T x y) w).length:=by rw[hr y (z2e hy)];exact z2e hi
  rw[z2b,List.getElem?_eq_getElem hl];unfold Fl.sq;rw[List.getD_eq_getElem?_getD,List.getElem?_eq_getElem hl];rfl
end
end jP
namespace jP
open PySem PySem.Spec L2 Pu
open Fl (inn out gY dX mX gA)
section
variable {w h k:Nat} {C:Nat->Nat->Int} {T:Nat->Nat->Bool} {s:Nat->Nat->Nat} {ρ:ao}
theorem Mu {a:Ar} (ha:a∈AD w h C T++AU w h k C s):gY w h k (λ x y=>C y x) T s a.1 a.2.1 a.2.2:=by
 rcases List.mem_append.mp ha with ha |ha
 ·unfold AD at ha;rcases List.mem_append.mp ha with ha |ha
  ·obtain⟨x,hx,rfl⟩:=List.mem_map.mp ha;exact .st (z2e hx)
  ·obtain⟨y,hy,ha⟩:=List.mem_flatMap.mp ha;obtain⟨x,hx,ha⟩:=List.mem_flatMap.mp ha;have hy:=z2e hy;have hx:=z2e hx;unfold cA at ha;rcases List.mem_append.mp ha with ha |ha
   ·cases t:T x y with
    |true=>rw[t,if_pos rfl] at ha;cases ha
    | false=>
     rw[t,if_neg Bool.false_ne_true,List.mem_singleton] at ha;subst ha;exact .cl hx hy t
   ·by_cases hy1:y+1 < h
    ·rw[if_pos hy1] at ha;obtain⟨p,hp,rfl⟩:=List.mem_map.mp ha;obtain⟨h1,h2,h3⟩:=(abG hx).mp hp;exact .dn hx h1 hy1 h2 h3
    ·rw[if_neg hy1,List.mem_singleton] at ha;subst ha;exact .en hx (by exact vP hy hy1)
 ·unfold AU at ha;obtain⟨i,hi,ha⟩:=List.mem_flatMap.mp ha;obtain⟨y,hy,ha⟩:=List.mem_flatMap.mp ha;have hi:=z2e hi;have hy:=z2e (List.mem_reverse.mp hy);unfold uA at ha;rcases List.mem_cons.mp ha with ha |ha
  ·subst ha;unfold bn;by_cases hy1:y+1 < h
   ·rw[if_pos hy1];exact .up hi hy1
   ·rw[if_neg hy1];exact .ue hi (by exact vP hy hy1)
  ·rw[List.mem_singleton] at ha;subst ha;exact .bk hi hy
theorem afh {u v:Nat} {c:Int} (a:gY w h k (λ x y=>C y x) T s u v c):(u,v,c)∈AD w h C T++AU w h k C s:=by
 have cell:∀{x y:Nat} {b:Ar},x < w->y < h->b∈cA w h C T y x->b∈AD w h C T++AU w h k C s:=λ {x y b} hx hy hb=>
  List.mem_append_left _ (List.mem_append_right _ (List.mem_flatMap.mpr ⟨y,List.mem_range.mpr hy,List.mem_flatMap.mpr ⟨x,List.mem_range.mpr hx,hb⟩⟩))
 have upw:∀{i y:Nat} {b:Ar},i < k->y < h->b∈uA w h C (s i) y->b∈AD w h C T++AU w h k C s:=λ {i y b} hi hy hb=>
  List.mem_append_right _ (List.mem_flatMap.mpr ⟨i,List.mem_range.mpr hi,List.mem_flatMap.mpr ⟨y,List.mem_reverse.mpr (List.mem_range.mpr hy),hb⟩⟩)
 cases a with
 | @st x hx=>exact List.mem_append_left _ (List.mem_append_left _ (List.mem_map.mpr ⟨x,List.mem_range.mpr hx,rfl⟩))
 | @cl x y hx hy t=>exact cell hx hy (List.mem_append_left _ (by rw[t,if_neg Bool.false_ne_true];exact List.mem_singleton.mpr rfl))
 | @dn x x' y hx hx' hy h1 h2=>exact cell hx (show y < h by exact z0e hy) (List.mem_append_right _ (by rw[if_pos hy];exact List.mem_map.mpr ⟨x',(abG hx).mpr ⟨hx',h1,h2⟩,rfl⟩))
 | @en x y hx hy=>exact cell hx (show y < h by exact z0f hy) (List.mem_append_right _ (by rw[if_neg (by exact PJ hy)];exact List.mem_singleton.mpr rfl))
 | @ue i y hi hy=>
  refine upw hi (show y < h by exact z0f hy) (List.mem_cons.mpr (.inl ?_));unfold bn;rw[if_neg (by exact PJ hy)]
 | @up i y hi hy=>
  refine upw hi (show y < h by exact z0e hy) (List.mem_cons.mpr (.inl ?_));unfold bn;rw[if_pos hy]
 | @bk i y hi hy=>exact upw hi hy (List.mem_cons.mpr (.inr (List.mem_singleton.mpr rfl)))
end
section
variable {n:Nat} {ρ:ao} {far:Int} {q least:Nat->Int} {ahead:Nat->Nat} {A:List Ar}
noncomputable def LI (n:Nat) (f:Nat->Int):List D:=(List.range n).map λ v=>D.int (f v)
theorem abJ {f:Nat->Int}:(LI n f).length=n:=by unfold LI;rw[z1g,z2d]
theorem abK {f:Nat->Int} {v:Nat} {a:Int}:(LI n f).set v (.int a)=LI n (Fl.upd f v a):=by
 unfold LI;refine List.ext_getElem (by simp) λ i h1 h2=>?_;rw[List.getElem_set,List.getElem_map,List.getElem_map,List.getElem_range];by_cases e:v=i
 ·rw[if_pos e,e,Fl.nu]
 ·rw[if_neg e,Fl.dG (Ne.symm e)]
theorem Qf {f:Nat->Int} {v:Nat} (hv:v < n):bD (.lst (LI n f)) (.int (v:Int))= .ok (.int (f v)):=rO (α:=Nat) hv
noncomputable def cst (a:Nat->Nat):Nat->Int:=λ v=>((a v:Nat):Int)
theorem afi {a:Nat->Nat} {v u:Nat}:Fl.upd (cst a) v (u:Int)=cst (Fl.upd a v u):=funext λ i=>by
 unfold cst;by_cases e:i=v
 ·rw[e,Fl.nu,Fl.nu]
 ·rw[Fl.dG e,Fl.dG e]
theorem Yc {i:Nat} {fk fv:ao->R D} {ds:List D} {k:Nat} {d:D} (h:ρ[i]?=some (some (.lst ds))) (e1:fv ρ= .ok d) (e2:fk ρ= .ok (.int (k:Int))) (hk:k < ds.length):Cr i fk fv ρ= .nx (ρ.set i (some (.lst (ds.set k d)))):=by
 unfold Cr;simp only[e1,rK,jA,h,e2];rw[if_pos ⟨by exact z0a _,by exact Int.ofNat_lt.mpr hk⟩,Int.toNat_natCast]
noncomputable def sH (A:List Ar) (n:Nat) (least:Nat->Int) (ahead:Nat->Nat) (ch:Bool) (e5 e6 e7:Option Ent):ao:=[vA (.lst (A.map fG)),vA (.int (n:Int)),some (.lst (LI n least)),some (.lst (LI n (cst ahead))),vA (.bl ch),e5,e6,e7]
theorem ahd {u v:Nat} {c:Int} {ch:Bool} (hu:u < n) (hv:v < n):
  seB (sH A n least ahead ch (vA (.int (u:Int))) (vA (.int (v:Int))) (vA (.int c)))= .nx (if least u+c < least v then sH A n (Fl.upd least v (least u+c)) (Fl.upd ahead v u) true (vA (.int (u:Int))) (vA (.int (v:Int))) (vA (.int c)) else sH A n least ahead ch (vA (.int (u:Int))) (vA (.int (v:Int))) (vA (.int c))):=by
 have e:(bH (bin (bin (bin (gv 2) (gv 5) bD) (gv 7) cR) (bin (gv 2) (gv 6) bD) ltI)) (cG (sH A n least ahead ch (vA (.int (u:Int))) (vA (.int (v:Int))) (vA (.int c))))= .ok (decide (least u+c < least v)):=
  bf (aq (x:= .int (least u+c)) (y:= .int (least v)) (aq (aq rfl rfl (Qf hu)) rfl rfl) (aq rfl rfl (Qf hv)) rfl)
 by_cases hc:least u+c < least v
 ·rw[if_pos hc];rw[decide_eq_true hc] at e;refine jC e (aL (ρ':=[vA (.lst (A.map fG)),vA (.int (n:Int)),some (.lst (LI n (Fl.upd least v (least u+c)))),some (.lst (LI n (cst ahead))),vA (.bl ch),vA (.int (u:Int)),vA (.int (v:Int)),vA (.int c)]) ?_ (aL (ρ':=[vA (.lst (A.map fG)),vA (.int (n:Int)),some (.lst (LI n (Fl.upd least v (least u+c)))),some (.lst (LI n (cst (Fl.upd ahead v u)))),vA (.bl ch),vA (.int (u:Int)),vA (.int (v:Int)),vA (.int c)]) ?_ (bx rfl rfl)))
  ·refine (Yc (ds:=LI n least) (k:=v) (d:= .int (least u+c)) rfl (aq (x:= .int (least u)) (ag9 rfl rfl (Qf hu)) rfl rfl) rfl (by rw[abJ];exact hv)).trans ?_;rw[abK];rfl
  ·refine (Yc (ds:=LI n (cst ahead)) (k:=v) (d:= .int (u:Int)) rfl rfl rfl (by rw[abJ];exact hv)).trans ?_;rw[abK,afi];rfl
 ·rw[if_neg hc];rw[decide_eq_false hc] at e;exact fD e rfl
noncomputable abbrev Rel (A:List Ar):Nat->Nat->Int->Prop:=λ u v c=>(u,v,c)∈A
theorem Mv (hA:∀u v c,Rel A u v c->u < n/\v < n/\v≠0) (hf:∀u v c,Rel A u v c->q v<=q u+c):∀{l:List Ar} {least:Nat->Int} {ahead:Nat->Nat} {ch:Bool} {e5 e6 e7:Option Ent},(∀a∈l,a∈A)->mX (Rel A) n far q least ahead->
  ∃ oF zp Gu e5' nD rP,forL (eU (eV 3 (bB (aG 5) (bB (aG 6) (bB (aG 7) nilG))))) seB (l.map fG) (sH A n least ahead ch e5 e6 e7)= .nx (sH A n oF zp Gu e5' nD rP)/\mX (Rel A) n far q oF zp/\
   (Gu=false->ch=false/\oF=least/\zp=ahead/\∀a∈l,least a.2.1<=least a.1+a.2.2)/\Fl.sm n oF<=Fl.sm n least/\(Gu=true->ch=true\/Fl.sm n oF < Fl.sm n least)
 |[],least,ahead,ch,e5,e6,e7,_,S=>⟨least,ahead,ch,e5,e6,e7,rfl,S,λ e=>⟨e,rfl,rfl,λ _u h=>by cases h⟩,Int.le_refl _,λ e=> .inl e⟩
 | (u, v,c)::l,least,ahead,ch,e5,e6,e7,hl,S=>by
  have ha:Rel A u v c:=hl _ (List.mem_cons_self ..);obtain⟨hu,hv,v0⟩:=hA u v c ha;have hl':∀a∈l,a∈A:=λ a h=>hl a (z2f _ h);have step:=ahd (A:=A) (n:=n) (least:=least) (ahead:=ahead) (ch:=ch) (c:=c) hu hv;by_cases hc:least u+c < least v
  ·rw[if_pos hc] at step;obtain⟨l',a',c',x5,x6,x7,e,S',h1,h2,h3⟩:=Mv hA hf (l:=l) (ch:=true) (e5:=vA (.int (u:Int))) (e6:=vA (.int (v:Int))) (e7:=vA (.int c)) hl' (S.step hA hf ha hc);have hsm:=Fl.agV (f:=least) (a:=least u+c) hv;refine⟨l',a',c',x5,x6,x7,?_,S',λ z=>?_,by omega,λ z=> .inr (by omega)⟩
   ·rw[z1h];exact fV rfl step e
   ·exact absurd (h1 z).1 (by decide)
  ·rw[if_neg hc] at step;obtain⟨l',a',c',x5,x6,x7,e,S',h1,h2,h3⟩:=Mv hA hf (l:=l) (ch:=ch) (e5:=vA (.int (u:Int))) (e6:=vA (.int (v:Int))) (e7:=vA (.int c)) hl' S;refine⟨l',a',c',x5,x6,x7,?_,S',λ z=>?_,h2,h3⟩
   ·rw[z1h];exact fV rfl step e
   ·obtain⟨z1,z2,z3,z4⟩:=h1 z;refine⟨z1,z2,z3,λ a h=>?_⟩;rcases List.mem_cons.mp h with h |h
    ·rw[h];show least v<=least u+c;exact Int.not_lt.mp hc
    ·exact z4 a h
theorem aeG (hA:∀u v c,Rel A u v c->u < n/\v < n/\v≠0) (hf:∀u v c,Rel A u v c->q v<=q u+c):∀{N:Nat} {least:Nat->Int} {ahead:Nat->Nat} {e5 e6 e7:Option Ent},mX (Rel A) n far q least ahead->Fl.sm n least - Fl.sm n q+2<=N->
  ∃oF zp e5' nD rP,iw (bH (gv 4)) Nv N (sH A n least ahead true e5 e6 e7)= .nx (sH A n oF zp false e5' nD rP)/\mX (Rel A) n far q oF zp/\∀u v c,Rel A u v c->oF v<=oF u+c
 | 0,least,ahead,e5,e6,e7,S,hN=>by
  have:=Fl.fZ S.lo;have hN:Fl.sm n least - Fl.sm n q+2<=0:=hN;omega
 | N + 1,least,ahead,e5,e6,e7,S,hN=>by
  have hlo:=Fl.fZ S.lo;obtain⟨l',a',c',x5,x6,x7,e,S',h1,h2,h3⟩:=Mv (far:=far) hA hf (l:=A) (ch:=false) (e5:=e5) (e6:=e6) (e7:=e7) (λ _u h=>h) S;have body:Nv (sH A n least ahead true e5 e6 e7)= .nx (sH A n l' a' c' x5 x6 x7):=
   aL (ρ':=sH A n least ahead false e5 e6 e7) (bx rfl rfl) (nj (jq rfl) e)
  have hw:iw (bH (gv 4)) Nv (N+1) (sH A n least ahead true e5 e6 e7)=iw (bH (gv 4)) Nv N (sH A n l' a' c' x5 x6 x7):=by
   rw[iw,show (bH (gv 4)) (cG (sH A n least ahead true e5 e6 e7))= .ok true from rfl];show (match Nv (sH A n least ahead true e5 e6 e7) with
    | .nx ρ'=>iw (bH (gv 4)) Nv N ρ'
    | .ct ρ'=>iw (bH (gv 4)) Nv N ρ'
    | .bk ρ'=> .nx ρ'
    |o=>o)=_
   rw[body]
  rw[hw];cases c' with
  | false=>
   obtain⟨_,z2,z3,z4⟩:=h1 rfl;have hlo':=Fl.fZ S'.lo;cases N with
   |zero=>have hN:Fl.sm n least - Fl.sm n q+2<=1:=hN;omega
   | succ N=>
    refine⟨l',a',x5,x6,x7,?_,S',λ u v c ha=>?_⟩
    ·rw[iw,show (bH (gv 4)) (cG (sH A n l' a' false x5 x6 x7))= .ok false from rfl]
    ·rw[z2];exact z4 _ ha
  | true=>
   have hlt:=(h3 rfl).resolve_left (by decide);exact aeG hA hf S' (by have hN:Fl.sm n least - Fl.sm n q+2<=(N:Int)+1:=hN;omega)
theorem Ag {b:D}:∀m:Nat,(List.replicate m [b]).flatten=List.replicate m b
 |0=>rfl
 |m+1=>by rw[List.replicate_succ,List.flatten_cons,Ag m];rfl
theorem adR {m:Nat} {b:Int}:[D.int 0]++(List.replicate m [D.int b]).flatten=LI (m+1) λ v=>if v=0 then 0 else b:=by
 rw[Ag];unfold LI;refine List.ext_getElem (by simp) λ i h1 h2=>?_;rw[List.getElem_map,List.getElem_range];cases i with
 |zero=>rfl
 |succ i=>simp
theorem afj {m:Nat}:(List.replicate m [D.int 0]).flatten=LI m (cst λ _u=>0):=by
 rw[Ag];unfold LI;refine List.ext_getElem (by simp) λ i h1 h2=>?_;simp[cst]
theorem Vn (hn:2<=n) (hn2:n<=900) (hA:∀u v c,Rel A u v c->u < n/\v < n/\v≠0) (hf:∀u v c,Rel A u v c->q v<=q u+c) (q0:q 0<=0) (hq0:∀v,v < n->0<=q v) (hq:∀v,v < n->q v<=1000000):
  ∃least ahead,nO [.lst (A.map fG),.int (n:Int)]= .ok (.tup [.lst (LI n least),.lst (LI n (cst ahead))])/\mX (Rel A) n 1000000 q least ahead/\∀u v c,Rel A u v c->least v<=least u+c:=by
 have S0:mX (Rel A) n 1000000 q (λ v=>if v=0 then 0 else 1000000) (λ _u=>0):=mX.first q0 hq (by decide);have hs1:Fl.sm n (λ v=>if v=0 then 0 else (1000000:Int))<=n*1000000:=by
  rw[<-Fl.kh (a:=1000000) n];exact Fl.fZ λ v hv=>S0.hi v hv
 have hs2:=Fl.nq hq0;obtain⟨l',a',x5,x6,x7,e,S',ex⟩:=aeG hA hf (N:=1000000000) (e5:=none) (e6:=none) (e7:=none) S0 (by omega);refine⟨l',a',?_,S',ex⟩;obtain⟨m,rfl⟩:∃m,n=m+1:=⟨n - 1,by omega⟩;refine cN (aL (ρ':=[vA (.lst (A.map fG)),vA (.int ((m+1:Nat):Int)),some (.lst (LI (m+1) λ v=>if v=0 then 0 else 1000000)),none,none,none,none,none]) ?_ (aL (ρ':=[vA (.lst (A.map fG)),vA (.int ((m+1:Nat):Int)),some (.lst (LI (m+1) λ v=>if v=0 then 0 else 1000000)),some (.lst (LI (m+1) (cst λ _u=>0))),none,none,none,none]) ?_ (aL (bx rfl rfl) (aL e (cH (f9 (aB rfl (aA rfl))))))))
 ·rw[<-adR];refine Rv (aq (gj (aA rfl)) (aq (x:= .lst [.int 1000000]) (y:= .int (m:Int)) (gj (aA rfl)) (aq rfl rfl ?_) (r:= .ok (.lst (List.replicate m [D.int 1000000]).flatten)) ?_) ?_)
  ·show R.ok (D.int (((m+1:Nat):Int) - 1))=_;rw[show ((m+1:Nat):Int) - 1=(m:Int) by exact ah6]
  ·show (if [D.int 1000000]≠[]/\1<=(m:Int)/\(m:Int) < 2 ^ 63/\[D.int 1000000].length*(m:Int).toNat<=1000000 then R.ok (D.lst (List.replicate (m:Int).toNat [D.int 1000000]).flatten) else .bad)=_;rw[if_pos ⟨by simp,by omega,by omega,by rw[Int.toNat_natCast];show 1*m<=_;omega⟩,Int.toNat_natCast]
  ·show (if [D.int 0].length+((List.replicate m [D.int 1000000]).flatten).length<=1000000 then R.ok _ else .bad)=_;rw[if_pos (by rw[Ag,List.length_replicate];show 1+m<=_;omega)]
 ·rw[<-afj];refine Rv (aq (x:= .lst [.int 0]) (y:= .int ((m+1:Nat):Int)) (gj (aA rfl)) rfl ?_);show (if [D.int 0]≠[]/\1<=((m+1:Nat):Int)/\((m+1:Nat):Int) < 2 ^ 63/\[D.int 0].length*((m+1:Nat):Int).toNat<=1000000 then R.ok (D.lst (List.replicate ((m+1:Nat):Int).toNat [D.int 0]).flatten) else .bad)=_;rw[if_pos ⟨by simp,by omega,by omega,by rw[Int.toNat_natCast];show 1*(m+1)<=_;omega⟩,Int.toNat_natCast]
end
end jP
namespace jP
open PySem PySem.Spec L2 Pu
open Fl (inn out gY dX mX gA lM vis gk uy)
theorem Yd {ahead:Nat->Nat} {n:Nat} {G:Nat->Prop} (hG:∀v,G v->v≠0->G (ahead v)) (hn:∀v,G v->v < n):∀{d v:Nat},lM ahead d v->G v->Fl.sm n (λ w=>if vis ahead d v w=true then 1 else 0)=d
 |0,_,_,_=>Fl.oW λ i _u=>if_neg Bool.false_ne_true
 | d + 1,v,c,g=>by
  have ih:=Yd hG hn c.2 (hG v g c.1);have nv:=Fl.Mp c;have e1:Fl.sm n (λ w=>if vis ahead (d+1) v w=true then (1:Int) else 0)=Fl.sm n (λ w=>if vis ahead d (ahead v) w=true then 1 else 0)+1:=by
   refine Eq.trans ?_ (congrArg (λ z=>_+z) (Fl.pI (a:=1) (hn v g)));rw[<-Fl.jO];refine Fl.bw λ i _u=>?_;show (if (i ==v || vis ahead d (ahead v) i)=true then (1:Int) else 0)=_;by_cases z:i=v
   ·subst z;rw[nv,if_pos (by simp),if_pos rfl,if_neg Bool.false_ne_true];exact rfl
   ·have:(i ==v)=false:=by simpa using z
    rw[this,Bool.false_or,if_neg z];exact Je
  rw[e1,ih];rfl
theorem ahe {ahead:Nat->Nat} {n:Nat} {G:Nat->Prop} (hG:∀v,G v->v≠0->G (ahead v)) (hn:∀v,G v->v < n) {d v:Nat} (c:lM ahead d v) (g:G v):d<=n:=by
 have h1:=Yd hG hn c g;have h2:Fl.sm n (λ w=>if vis ahead d v w=true then (1:Int) else 0)<=Fl.sm n λ _u=>1:=Fl.fZ λ i _u=>by split <;> decide
 rw[Fl.kh n,h1] at h2;omega
section
variable {w h k n:Nat} {C:Nat->Nat->Int} {T:Nat->Nat->Bool} {s:Nat->Nat->Nat} {ahead:Nat->Nat} {ρ:ao}
theorem uI {f:ao->R D} {i:Nat} {a:Int} (e:f ρ= .ok (.int a)):zW f i ρ= .nx (ρ.set i (some (.val (.int a)))):=by unfold zW;rw[e]
theorem afk {f g:ao->R D} {i j:Nat} {a b:Int} (e1:f ρ= .ok (.int a)) (e2:g ρ= .ok (.int b)):Q7 i j f g ρ= .nx ((ρ.set i (some (.val (.int a)))).set j (some (.val (.int b)))):=by unfold Q7;rw[e1,e2]
theorem afl {p:ao->R Bool} {g k:ao->So} {o:So} (e:p ρ= .ok true) (e2:g ρ=o):Q8 p g k ρ=o:=by unfold Q8;rw[e];exact e2
theorem afm {p:ao->R Bool} {g k:ao->So} {o:So} (e:p ρ= .ok false) (e2:k ρ=o):Q8 p g k ρ=o:=by unfold Q8;rw[e];exact e2
theorem div2 {a:Nat}:eN (.int (a:Int)) (.int 2)= .ok (.int ((a / 2:Nat):Int)):=by rw[ni ⟨by decide,by decide⟩];rfl
theorem adS {x y:Nat} (hx:x < w) (hy:y < h):(D.lst (((List.range h).map λ y=>D.lst ((List.range w).map λ x=> .bl (T x y))).set y (.lst (((List.range w).map λ x=>D.bl (T x y)).set x (.bl (!T x y))))))=tk (cI w h (uy T x y)):=by
 rw[zm];refine congrArg D.lst (List.ext_getElem (by simp) λ i h1 h2=>?_);rw[List.getElem_set,List.getElem_map,List.getElem_map,List.getElem_range];by_cases e:y=i
 ·rw[if_pos e];subst e;refine congrArg D.lst (List.ext_getElem (by simp) λ j h3 h4=>?_);rw[List.getElem_set,List.getElem_map,List.getElem_map,List.getElem_range];by_cases e2:x=j
  ·rw[if_pos e2,<-e2,Fl.abw]
  ·rw[if_neg e2,Fl.tD (λ z=>e2 z.1.symm)]
 ·rw[if_neg e];refine congrArg D.lst (List.map_congr_left λ j _u=>?_);rw[Fl.tD (λ z=>e z.2.symm)]
noncomputable def zq (w h n:Nat) (ahead:Nat->Nat) (T:Nat->Nat->Bool) (v:Nat) (e4 e5 e6 e7:Option Ent):ao:=[vA (tk (cI w h T)),vA (.lst (LI n (cst ahead))),vA (.int (w:Int)),vA (.int (v:Int)),e4,e5,e6,e7]
theorem afn {x y:Nat} (hx:x < w) (hy:y < h) {e1 e2 e3 e4 e5:Option Ent}:
  JC 6 7 (Lf (bin (bin (gv 0) (gv 6) bD) (gv 7) bD)) [vA (tk (cI w h T)),e1,e2,e3,e4,e5,vA (.int (y:Int)),vA (.int (x:Int))] =
   .nx [vA (tk (cI w h (uy T x y))),e1,e2,e3,e4,e5,vA (.int (y:Int)),vA (.int (x:Int))]:=by
 have e:(bin (bin (gv 0) (gv 6) bD) (gv 7) bD) [vA (tk (cI w h T)),e1,e2,e3,e4,e5,vA (.int (y:Int)),vA (.int (x:Int))]= .ok (.bl (T x y)):=
  aq (aq rfl rfl (Zc hy)) rfl (rO (α:=Nat) (p:=λ x=>D.bl (T x y)) hx)
 unfold JC;have e0:Lf (bin (bin (gv 0) (gv 6) bD) (gv 7) bD) [vA (tk (cI w h T)),e1,e2,e3,e4,e5,vA (.int (y:Int)),vA (.int (x:Int))]= .ok (.bl (!T x y)):=by
  rw[Lf,e];rfl
 have e9:aU [vA (tk (cI w h T)),e1,e2,e3,e4,e5,vA (.int (y:Int)),vA (.int (x:Int))] 0= .ok (.lst ((List.range h).map λ y=> .lst ((List.range w).map λ x=> .bl (T x y)))):=by
  show R.ok (tk (cI w h T))=_;rw[zm]
 have e6:aU [vA (tk (cI w h T)),e1,e2,e3,e4,e5,vA (.int (y:Int)),vA (.int (x:Int))] 6= .ok (.int (y:Int)):=rfl;have e7:aU [vA (tk (cI w h T)),e1,e2,e3,e4,e5,vA (.int (y:Int)),vA (.int (x:Int))] 7= .ok (.int (x:Int)):=rfl;simp only[e0,e9,e6,e7,Int.toNat_natCast];rw[show ((List.range h).map λ y=>D.lst ((List.range w).map λ x=>D.bl (T x y)))[y]?=some (.lst ((List.range w).map λ x=>D.bl (T x y))) by rw[z2b,List.getElem?_range hy];rfl];show (if 0<=(y:Int)/\0<=(x:Int)/\(x:Int) < (((List.range w).map λ x=>D.bl (T x y)).length:Nat) then So.nx _ else .bad)=_;rw[if_pos ⟨by exact z0a _,by exact z0a _,by rw[z1g,z2d];exact Int.ofNat_lt.mpr hx⟩,adS hx hy];rfl
theorem ahf {v:Nat} (hv:v < n) (hw:0 < w) (w20:w<=20) (hc:ahead v / 2=v / 2->∃x y,x < w/\y < h/\v / 2=y*w+x+1) {e4 e5 e6 e7:Option Ent}:
  ∃e4' e5' nD rP,caB (zq w h n ahead T v e4 e5 e6 e7)= .nx (zq w h n ahead (if ahead v / 2=v / 2 then uy T ((v / 2 - 1) % w) ((v / 2 - 1) / w) else T) (ahead v) e4' e5' nD rP):=by
 have e0:(bin (gv 1) (gv 3) bD) (zq w h n ahead T v e4 e5 e6 e7)= .ok (.int ((ahead v:Nat):Int)):=aq rfl rfl (Qf hv);have et:(bH (bin (bin (gv 4) (ci 2) eN) (bin (gv 3) (ci 2) eN) qm)) (zq w h n ahead T v (vA (.int ((ahead v:Nat):Int))) e5 e6 e7)= .ok (decide (ahead v / 2=v / 2)):=by
  refine bf (aq (aq rfl rfl div2) (aq rfl rfl div2) ?_);rw[Mt,show (decide (((ahead v / 2:Nat):Int)=((v / 2:Nat):Int)))=decide (ahead v / 2=v / 2) from decide_eq_decide.mpr ⟨λ z=>by omega,λ z=>by omega⟩]
 by_cases hh:ahead v / 2=v / 2
 ·obtain⟨x,y,hx,hy,ev⟩:=hc hh;have ec:v / 2 - 1=y*w+x:=by omega
  rw[if_pos hh,ec,Fl.za hx,Fl.zc hx];rw[decide_eq_true hh] at et;refine⟨vA (.int ((ahead v:Nat):Int)),vA (.int ((y*w+x:Nat):Int)),vA (.int (y:Int)),vA (.int (x:Int)),?_⟩;refine aL (uI e0) (aL (ρ':=zq w h n ahead (uy T x y) v (vA (.int ((ahead v:Nat):Int))) (vA (.int ((y*w+x:Nat):Int))) (vA (.int (y:Int))) (vA (.int (x:Int)))) (afl et ?_) (uI rfl));refine aL (ρ':=zq w h n ahead T v (vA (.int ((ahead v:Nat):Int))) (vA (.int ((y*w+x:Nat):Int))) e6 e7) (uI ?_) (aL (ρ':=zq w h n ahead T v (vA (.int ((ahead v:Nat):Int))) (vA (.int ((y*w+x:Nat):Int))) (vA (.int (y:Int))) (vA (.int (x:Int)))) (afk ?_ ?_) (afn hx hy))
  ·refine aq (aq rfl rfl div2) rfl ?_;show R.ok (D.int (((v / 2:Nat):Int) - 1))=_;rw[ev];exact congrArg (λ z=>R.ok (D.int z)) (by omega)
  ·refine aq rfl rfl ?_;show eN (.int ((y*w+x:Nat):Int)) (.int (w:Int))=_;rw[ni ⟨by exact Int.ofNat_lt.mpr hw,by omega⟩];exact congrArg (λ z=>R.ok (D.int z)) (by rw[<-Int.natCast_ediv,Fl.zc hx])
  ·refine aq rfl rfl ?_;show gn (.int ((y*w+x:Nat):Int)) (.int (w:Int))=_;rw[oh (by exact Int.ofNat_lt.mpr hw)];exact congrArg (λ z=>R.ok (D.int z)) (by rw[<-Int.natCast_emod,Fl.za hx])
 ·rw[if_neg hh];rw[decide_eq_false hh] at et;exact⟨vA (.int ((ahead v:Nat):Int)),e5,e6,e7,aL (uI e0) (aL (afm et rfl) (uI rfl))⟩
theorem Ye {G:Nat->Prop} (hw:0 < w) (w20:w<=20) (hG:∀v,G v->v≠0->G (ahead v)) (hn:∀v,G v->v < n) (hc:∀v,G v->v≠0->ahead v / 2=v / 2->∃x y,x < w/\y < h/\v / 2=y*w+x+1):
  ∀ {d N v:Nat} {T:Nat->Nat->Bool} {e4 e5 e6 e7:Option Ent},lM ahead d v->G v->d < N->
   ∃e4' e5' nD rP,Gp (bH (bin (gv 3) (ci 0) m9)) caB N (zq w h n ahead T v e4 e5 e6 e7)= .nx (zq w h n ahead (gk w ahead d v T) 0 e4' e5' nD rP)
 |_,0,_,_,_,_,_,_,_,_,hN=>absurd hN (Nat.not_lt_zero _)
 | 0,N+1,v,T,e4,e5,e6,e7,ch,g,hN=>by
  have ch:v=0:=ch;subst ch;refine⟨e4,e5,e6,e7,?_⟩;rw[Gp,show (bH (bin (gv 3) (ci 0) m9)) (zq w h n ahead T 0 e4 e5 e6 e7)= .ok false from bf (aq (x:= .int 0) rfl rfl (XJ rfl))];rfl
 | d +1,N+1,v,T,e4,e5,e6,e7,ch,g,hN=>by
  obtain⟨v0,Gu⟩:=ch;obtain⟨x4,x5,x6,x7,eb⟩:=ahf (T:=T) (h:=h) (hn v g) hw w20 (hc v g v0) (e4:=e4) (e5:=e5) (e6:=e6) (e7:=e7);obtain⟨y4,y5,y6,y7,e⟩:=Ye hw w20 hG hn hc (d:=d) (N:=N) (v:=ahead v) (T:=if ahead v / 2=v / 2 then uy T ((v / 2 - 1) % w) ((v / 2 - 1) / w) else T) (e4:=x4) (e5:=x5) (e6:=x6) (e7:=x7) Gu (hG v g v0) (by exact Nat.le_of_lt_succ hN);refine⟨y4,y5,y6,y7,?_⟩;rw[Gp,show (bH (bin (gv 3) (ci 0) m9)) (zq w h n ahead T v e4 e5 e6 e7)= .ok true from bf (aq (x:= .int (v:Int)) rfl rfl (by rw[ais];congr 2;simp;assumption))];show (match caB (zq w h n ahead T v e4 e5 e6 e7) with
   | .nx ρ'=>Gp (bH (bin (gv 3) (ci 0) m9)) caB N ρ'
   |_=> .bad)=_
  rw[eb];exact e
theorem aeH {f:Nat->Int}:D.lst (LI n f)=il ((List.range n).map f):=by unfold LI il;rw[List.map_map];rfl
theorem ahg {G:Nat->Prop} {d:Nat} (hw:0 < w) (hh:0 < h) (w20:w<=20) (n2:2<=n) (n9:n<=900) (hG:∀v,G v->v≠0->G (ahead v)) (hn:∀v,G v->v < n) (hc:∀v,G v->v≠0->ahead v / 2=v / 2->∃x y,x < w/\y < h/\v / 2=y*w+x+1) (ch:lM ahead d 1) (g:G 1):
  caD dI 6 (tk (cI w h T)) (.lst (LI n (cst ahead)))=some (tk (cI w h (gk w ahead d 1 T))):=by
 have hd:=ahe hG hn ch g;obtain⟨e4,e5,e6,e7,e⟩:=Ye (h:=h) hw w20 hG hn hc (d:=d) (N:=1000) (v:=1) (T:=T) (e4:=none) (e5:=none) (e6:=none) (e7:=none) ch g (by omega);have eg:dI (some (.val (tk (cI w h T)))::some (.val (.lst (LI n (cst ahead))))::List.replicate 6 none)= .nx (zq w h n ahead (gk w ahead d 1 T) 0 e4 e5 e6 e7):=by
  refine aL (ρ':=[vA (tk (cI w h T)),vA (.lst (LI n (cst ahead))),vA (.int (w:Int)),none,none,none,none,none]) (uI (aY (aA (aq (y:= .int ((0:Nat):Int)) rfl rfl (Zc hh))) ?_)) (aL (uI rfl) e);simp[bW]
 have hz:(List.range n).map (cst ahead)≠[]/\∀row∈cI w h T,row≠[]:=by
  refine⟨λ z=>?_,λ row hr z=>?_⟩
  ·have:=congrArg List.length z;rw[z1g,z2d] at this;simp at this;omega
  ·unfold cI at hr;obtain⟨y,_,rfl⟩:=List.mem_map.mp hr;have:=congrArg List.length z;rw[z1g,z2d] at this;simp at this;omega
 rw[aeH] at eg |-;unfold caD;rw[Mh,Xu];simp only;rw[if_pos hz,eg];show (if (Mf (tk (cI w h (gk w ahead d 1 T)))).isSome=true then some (tk (cI w h (gk w ahead d 1 T))) else none)=_;rw[Mh];rfl
end
end jP
namespace Fl
section
variable {W H k:Nat} {c:Nat->Nat->Int} {T T':Nat->Nat->Bool} {s:Nat->Nat->Nat} {p:Nat->Int}
theorem dX.congr (e:∀x y,x < W->y < H->T' x y=T x y) (S:dX W H k T s):dX W H k T' s:=⟨S.lt,S.srt,S.nr,λ x y hx hy=>by rw[e x y hx hy];exact S.tk x y hx hy⟩
theorem gY.congr (e:∀x y,x < W->y < H->T' x y=T x y) {u v:Nat} {w:Int} (a:gY W H k c T' s u v w):gY W H k c T s u v w:=by
 cases a with
 |st hx=>exact .st hx
 |cl hx hy t=>exact .cl hx hy (by rw[<-e _ _ hx hy];exact t)
 |dn hx hx' hy h1 h2=>exact .dn hx hx' hy h1 h2
 |en hx hy=>exact .en hx hy
 |ue hi hy=>exact .ue hi hy
 |up hi hy=>exact .up hi hy
 |bk hi hy=>exact .bk hi hy
theorem gA.congr (e:∀x y,x < W->y < H->T' x y=T x y) (P:gA W H k c T s p):gA W H k c T' s p:=⟨P.z,P.nn,λ u v w a=>P.ar u v w (a.congr e)⟩
end
theorem mX.weak {A B:Nat->Nat->Int->Prop} {n:Nat} {far:Int} {q least:Nat->Int} {ahead:Nat->Nat} (h:∀u v c,A u v c->B u v c) (S:mX A n far q least ahead):mX B n far q least ahead:=
 ⟨S.z,S.lo,S.hi,λ v hv h0 hl=>let ⟨c,a,l⟩:=S.ar v hv h0 hl;⟨c,h _ _ _ a,l⟩,S.ch⟩
end Fl
namespace jP
open PySem PySem.Spec L2 Pu
open Fl (inn out gY dX mX gA lM vis gk uy)
section
variable {w h k m:Nat} {C:Nat->Nat->Int} {s:Nat->Nat->Nat} {p:Nat->Int} {ρ:ao}
theorem afo {iT iA iL iH iS n m:Nat} {f1:ao->R (List D)} {F1:List D->R D} {f2 f3 f5:ao->R D} {gC:ao->So} {ds:List D} {dT dA dL dH Nk dS:D} {z:Int} {zs:List Int}
  (e1:f1 ρ= .ok ds) (hl:ds.length=n) (e2:F1 ds= .ok dT) (e3:f2 (ρ.set iT (some (.val dT)))= .ok dA) (e4:f3 ((ρ.set iT (some (.val dT))).set iA (some (.val dA)))= .ok (.tup [dL,dH])) (e5:caD gC m dT dH=some Nk) (e6:Mg dL=some (z::zs))
  (e7:f5 ((((ρ.set iT (some (.val Nk))).set iA none).set iL (some (.val dL))).set iH none)= .ok dS):
  JF iT iA iL iH iS f1 n F1 f2 f3 gC m f5 ρ= .nx (((((ρ.set iT (some (.val Nk))).set iA none).set iL (some (.val dL))).set iH none).set iS (some (.val dS))):=by
 unfold JF;rw[e1,R.aX,if_pos hl,e2];simp only[e3,e4,e5,e6,e7]
noncomputable def nn (w h:Nat):Nat:=2*(w*h+1)
structure Dg (w h:Nat) (C:Nat->Nat->Int) (k:Nat) (s:Nat->Nat->Nat) (p:Nat->Int):Prop where
 sm:dX w h k (TT k s) s
 po:gA w h k (λ x y=>C y x) (TT k s) s p
noncomputable def flR (w h:Nat) (C:Nat->Nat->Int) (m k:Nat) (s:Nat->Nat->Nat) (e5 e6 e7 e8:Option Ent):ao:=[vA (cC w h C),vA (.int (m:Int)),vA (.int (w:Int)),vA (.int (h:Int)),vA (sG h k s),e5,e6,e7,e8]
theorem ahh:(AD w h C (TT k s)).length<=w+4*w*h:=by
 unfold AD;rw[z1d,z1g,z2d];have:=kI (f:=λ y=>(List.range w).flatMap (cA w h C (TT k s) y)) (m:=4*w) (l:=List.range h) λ y _u=>by
  have:=kI (f:=cA w h C (TT k s) y) (m:=4) (l:=List.range w) λ _u _u=>Rr;rw[z2d] at this;exact this
 rw[z2d] at this;omega
theorem ahi:(AU w h k C s).length<=2*h*k:=by
 unfold AU;have:=kI (f:=λ i=>(List.range h).reverse.flatMap (uA w h C (s i))) (m:=2*h) (l:=List.range k) λ i _u=>by
  have:=kI (f:=uA w h C (s i)) (m:=2) (l:=(List.range h).reverse) λ _u _u=>z0g _;rw[List.length_reverse,z2d] at this;exact this
 rw[z2d] at this;exact this
theorem Dh {a b c d:Nat} (h1:a<=c) (h2:b<=d):a*b<=c*d:=Nat.mul_le_mul h1 h2
theorem afp (hw:1<=w) (hh:1<=h) (w20:w<=20) (cg:h<=20) (hk:k < w) (hc:∀x y,x < w->y < h->0<=C y x) (hC:3*(Fl.sm h λ y=>Fl.sm w λ x=>C y x) < 1000000) (I:Dg w h C k s p) {e5 e6 e7 e8:Option Ent}:
  ∃s' p' nD rP JM,flB (flR w h C m k s e5 e6 e7 e8)= .nx (flR w h C m (k+1) s' (vA (.lst (LI (nn w h) p'))) nD rP JM)/\Dg w h C (k+1) s' p':=by
 obtain⟨S,Q⟩:=I;have hwh:w*h<=20*20:=Dh w20 cg;have hwp:0 < w*h:=Nat.mul_pos hw hh;have hA:∀u v c,Rel (AD w h C (TT k s)++AU w h k C s) u v c->u < nn w h/\v < nn w h/\v≠0:=λ u v c a=>(Mu a).nodes S hw hh;have hf:∀u v c,Rel (AD w h C (TT k s)++AU w h k C s) u v c->p v<=p u+c:=λ u v c a=>Q.ar _ _ _ (Mu a);have hc':∀x y,x < w->y < h->0<=(λ x y=>C y x) x y:=hc;have hS0:0<=Fl.sm h λ y=>Fl.sm w λ x=>C y x:=Fl.nq λ y hy=>Fl.nq λ x hx=>hc x y hx hy;obtain⟨p',ah,eS,Sc,ex⟩:=Vn (n:=nn w h) (A:=AD w h C (TT k s)++AU w h k C s) (q:=p) (by unfold nn;exact Nat.le_add_left _ _) (by unfold nn;exact aep hwh) hA hf (by rw[Q.z];exact Int.le_refl _) Q.nn (λ v hv=>by
  have:=Q.le hw hh S hc' hk hv;have hC':3*(Fl.sm h λ y=>Fl.sm w λ x=>(λ x y=>C y x) x y) < 1000000:=hC;have aj4:0<=(Fl.sm h λ y=>Fl.sm w λ x=>(λ x y=>C y x) x y):=hS0;omega)
 obtain⟨P,d,G,ch,g1,hG⟩:=Fl.searched hw hh S Q hc' hk hC (Sc.weak λ u v c a=>Mu a) λ u v c a=>ex u v c (afh a);obtain⟨B,P'⟩:=Fl.augment hw hh S P hG ch g1;have S':=B.sms hh;have et:∀x y,x < w->y < h->TT (k+1) (Fl.sq w (gk w ah d 1 (TT k s))) x y=gk w ah d 1 (TT k s) x y:=λ x y hx hy=>by
  have:=(S'.tk x y hx hy);cases e1:gk w ah d 1 (TT k s) x y with
  |true=>exact abI.mpr (this.mp e1)
  | false=>
   cases e2:TT (k+1) (Fl.sq w (gk w ah d 1 (TT k s))) x y with
   |false=>rfl
   |true=>rw[this.mpr (abI.mp e2)] at e1;cases e1
 have G2:∀v,G v/\v < nn w h->v≠0->G (ah v)/\ah v < nn w h:=λ v g v0=>by
  obtain⟨g',c,a,_⟩:=hG v g.1 v0;exact⟨g',(a.nodes S hw hh).1⟩
 have eC:=ahg (T:=TT k s) (n:=nn w h) (G:=λ v=>G v/\v < nn w h) hw hh w20 (by unfold nn;exact Nat.le_add_left _ _) (by unfold nn;exact aep hwh) G2 (λ v g=>g.2) (λ v g v0 e=>by
  obtain⟨_,c,a,_⟩:=hG v g.1 v0;obtain⟨x,y,hx,hy,hcl⟩:=a.cell S e;refine⟨x,y,hx,hy,?_⟩;rcases hcl with⟨_,z,_⟩ |⟨_,z,_⟩
  ·rw[z,Fl.jD]
  ·rw[z,Fl.kj]) ch ⟨g1,by unfold nn;exact Nat.le_add_left _ _⟩
 refine⟨Fl.sq w (gk w ah d 1 (TT k s)),p',vA (tk (cI w h (gk w ah d 1 (TT k s)))),none,none,?_,⟨S'.congr et,P'.congr et⟩⟩;obtain⟨N0,hN0⟩:∃N0,nn w h=N0+1:=⟨nn w h - 1,by unfold nn;exact rfl⟩;have e6:Mg (.lst (LI (nn w h) p'))=some (p' 0::(List.range N0).map λ i=>p' (i+1)):=by
  rw[aeH,Xu,hN0,List.range_succ_eq_map,z1h,List.map_map];rfl
 have lA:=ahh (w:=w) (h:=h) (C:=C) (k:=k) (s:=s);have lU:=ahi (w:=w) (h:=h) (C:=C) (k:=k) (s:=s);have b1:4*w*h<=4*20*20:=Dh (Dh (z0g 4) w20) cg;have b2:2*h*k<=2*20*20:=Dh (Dh (z0g 2) cg) (by exact Jf hk w20);refine (afo (ds:=[sG h k s,.int (w:Int),.int (h:Int)]) (aB rfl (aB rfl (aA rfl))) rfl (adQ cg w20 (by exact Jf hk w20)) (dA:= .lst ((AD w h C (TT k s)++AU w h k C s).map fG)) ?_ (dL:= .lst (LI (nn w h) p')) (dH:= .lst (LI (nn w h) (cst ah))) ?_ eC e6 (dS:=sG h (k+1) (Fl.sq w (gk w ah d 1 (TT k s)))) ?_).trans rfl
 ·rw[List.map_append];refine aq (bR (aB rfl (aA rfl)) (Rw hh cg w20)) (bR (aB rfl (aA rfl)) (Zd hh cg (by exact Jf hk w20) λ i hi y hy=>S.lt i y hi hy)) (XQ ?_);rw[z1g,z1g];omega
 ·refine bR (aB rfl (aA (x:= .int ((nn w h:Nat):Int)) (aq rfl (aq (y:= .int 1) (aq rfl rfl (Af (a:=w) (b:=h) (by exact aen w20))) rfl rfl) (Af (a:=2) (b:=w*h+1) (by omega))))) eS
 ·refine bR (aB rfl (aA (x:= .int ((k+1:Nat):Int)) (aq (x:= .int (k:Int)) (y:= .int 1) (aY (aA rfl) ?_) rfl rfl))) (Ze cg w20 (by exact aeo hk w20) λ y hy=>B.row hh hy);show bW [sG h k s]=_;simp[sG,bW]
theorem afq {p:ao->R Bool} {b:ao->So} {n:Nat} {ρ ρ':ao} (e1:p (cG ρ)= .ok true) (e2:b ρ= .nx ρ'):iw p b (n+1) ρ=iw p b n ρ':=by rw[iw,e1];simp only[e2]
theorem afr {p:ao->R Bool} {b:ao->So} {n:Nat} {ρ:ao} (e1:p (cG ρ)= .ok false):iw p b (n+1) ρ= .nx ρ:=by rw[iw,e1]
theorem Yg (hw:1<=w) (hh:1<=h) (w20:w<=20) (cg:h<=20) (hm:m<=w) (hc:∀x y,x < w->y < h->0<=C y x) (hC:3*(Fl.sm h λ y=>Fl.sm w λ x=>C y x) < 1000000):
  ∀ {N k:Nat} {s:Nat->Nat->Nat} {p:Nat->Int} {e5 e6 e7 e8:Option Ent},Dg w h C k s p->k<=m->m - k < N->(k=0\/e5=vA (.lst (LI (nn w h) p)))->1<=m->
   ∃s' p' nD rP JM,iw (bH (bin (aF bW (ak (gv 4) nA)) (gv 1) ltI)) flB N (flR w h C m k s e5 e6 e7 e8)= .nx (flR w h C m m s' (vA (.lst (LI (nn w h) p'))) nD rP JM)/\Dg w h C m s' p'
 |0,k,s,p,e5,e6,e7,e8,I,hk,hN,h0,m1=>absurd hN (Nat.not_lt_zero _)
 | N +1,k,s,p,e5,e6,e7,e8,I,hk,hN,h0,m1=>by
  have et:(bH (bin (aF bW (ak (gv 4) nA)) (gv 1) ltI)) (cG (flR w h C m k s e5 e6 e7 e8))= .ok (decide (k < m)):=by
   refine bf (aq (x:= .int (k:Int)) (y:= .int (m:Int)) (aY (aA rfl) ?_) rfl X6);show bW [sG h k s]=_;simp[sG,bW]
  by_cases hkm:k < m
  ·obtain⟨s',p',x6,x7,x8,eb,I'⟩:=afp (m:=m) hw hh w20 cg (show k < w by omega) hc hC I (e5:=e5) (e6:=e6) (e7:=e7) (e8:=e8);obtain⟨s2,p2,y6,y7,y8,e,I2⟩:=Yg hw hh w20 cg hm hc hC (N:=N) (e6:=x6) (e7:=x7) (e8:=x8) I' hkm (by omega) (.inr rfl) m1;refine⟨s2,p2,y6,y7,y8,?_,I2⟩;rw[decide_eq_true hkm] at et;rw[afq et eb];exact e
  ·have e:k=m:=by exact Yq hk hkm
   subst e;rw[decide_eq_false hkm] at et;refine⟨s,p,e6,e7,e8,?_,I⟩;rw[afr et,<-h0.resolve_left (by exact Nat.ne_of_gt m1)]
theorem afs (hw:1<=w) (hh:1<=h) (w20:w<=20) (cg:h<=20) (m1:1<=m) (hm:m<=w) (hc:∀x y,x < w->y < h->0<=C y x) (hC:3*(Fl.sm h λ y=>Fl.sm w λ x=>C y x) < 1000000):
  ∃s p,oA [cC w h C,.int (m:Int)]= .ok (.tup [sG h m s,.lst (LI (nn w h) p)])/\Dg w h C m s p:=by
 have hT:∀x y,TT 0 (λ _u _u=>0) x y=false:=λ x y=>rfl;have I0:Dg w h C 0 (λ _u _u=>0) (λ _u=>0):=⟨dX.none hT,gA.none (λ x y hx hy=>hc x y hx hy) hT⟩;obtain⟨s',p',x6,x7,x8,e,I⟩:=Yg hw hh w20 cg hm hc hC (N:=64) (e5:=vA (.lst [])) (e6:=none) (e7:=none) (e8:=none) I0 (Nat.zero_le _) (by omega) (.inl rfl) m1;refine⟨s',p',?_,I⟩;refine cN (aL (Lx (wg hh rfl) (aY (aA rfl) Gd)) (aL (bx (gj rfl) rfl) (aL (bx (gj rfl) rfl) (aL e (cH (f9 (aB rfl (aA rfl))))))))
end
end jP
namespace jP
open PySem PySem.Spec L2 Pu
open Fl (inn out gY dX mX gA)
section
variable {w h m:Nat} {f C:Nat->Nat->Int} {s:Nat->Nat->Nat} {p:Nat->Int} {ρ:ao}
theorem abL {n:Nat} {g:Nat->Int} (hg:∀x < n,0<=g x/\g x<=99) {x:Nat} (hx:x < n):0<=gap n g x/\gap n g x<=99:=by
 have h1:=hg (x - 1) (by exact PX hx);have h2:=hg (min (x+1) (n - 1)) (by exact Yv hx);unfold gap ab;split <;> omega
theorem abM (o:Ok w h f) {x y:Nat} (hx:x < w) (hy:y < h):0<=lN w h f y x/\lN w h f y x<=198:=by
 have h1:=abL (o.c y hy) hx;have h2:=abL (n:=h) (g:=λ y=>f y x) (λ y hy=>o.c y hy x hx) hy;unfold lN;omega
theorem aft (o:Ok w h f):3*(Fl.sm h λ y=>Fl.sm w λ x=>lN w h f y x) < 1000000:=by
 have h1:(Fl.sm h λ y=>Fl.sm w λ x=>lN w h f y x)<=h*(w*198):=by
  rw[<-Fl.kh (a:=(w:Int)*198) h];refine Fl.fZ λ y hy=>?_;rw[<-Fl.kh (a:=198) w];exact Fl.fZ λ x hx=>(abM o hx hy).2
 have h2:(h:Int)*(w*198)<=20*(20*198):=by
  have hw:=o.w2;have hh:=o.h2;have e1:(w:Int)*198<=20*198:=by omega
  have e2:(h:Int)*(w*198)<=h*(20*198):=Int.mul_le_mul_of_nonneg_left e1 (by exact z0a _);omega
 omega
theorem JN {g:Nat->Int}:∀n:Nat,((List.range n).map g).sum=Fl.sm n g
 |0=>rfl
 | n+1=>by
  rw[List.range_succ,List.map_append,List.sum_append,JN n];show _+(g n+0)=Fl.sm n g+g n;omega
noncomputable def pri (w:Nat) (C:Nat->Nat->Int) (p:Nat->Int) (y x:Nat):Int:=if p (out w x y) - p (inn w x y) - C y x < 0 then 0 else p (out w x y) - p (inn w x y) - C y x
theorem abN {y x:Nat}:0<=pri w C p y x:=by unfold pri;split <;> omega
theorem ahj {y x:Nat}:p (out w x y) - p (inn w x y)<=C y x+pri w C p y x:=by unfold pri;split <;> omega
theorem ahk {k:Nat} {T:Nat->Nat->Bool} (hh:1<=h) (P:gA w h k (λ x y=>C y x) T s p) {q:Nat->Nat} (Q:qJ w h q):p 1<=Fl.sm h λ y=>C y (q y)+pri w C p y (q y):=by
 have ht:=P.top hh (Q.lt 0 hh);have t:=Fl.Rg (W:=w) (H:=h) (s:=λ _u=>q) hh p 0;have d0:Fl.sm h (Fl.dl w h (λ _u=>q) p 0)<=0:=by
  rw[<-Fl.o7 h];refine Fl.fZ λ y hy=>?_;show (if y+1 < h then p (inn w (q (y+1)) (y+1)) else p 1) - p (out w (q y) y)<=0;by_cases hy1:y+1 < h
  ·rw[if_pos hy1];obtain⟨h1,h2⟩:=Q.st y hy1;have:=P.ar _ _ _ (.dn (Q.lt y hy) (Q.lt _ hy1) hy1 h1 h2);exact PL this
  ·rw[if_neg hy1];have:=P.ar _ _ _ (.en (Q.lt y hy) (show y+1=h by exact vP hy hy1));exact PL this
 have le:Fl.sm h (λ y=>p (out w (q y) y) - p (inn w (q y) y))<=Fl.sm h λ y=>C y (q y)+pri w C p y (q y):=Fl.fZ λ y _u=>ahj;have t:Fl.sm h (λ y=>p (out w (q y) y) - p (inn w (q y) y))=p 1 - p (inn w (q 0) 0) - Fl.sm h (Fl.dl w h (λ _u=>q) p 0):=t;omega
theorem total (hh:1<=h) (I:Dg w h C m s p):(m:Int)*p 1 - (Fl.sm h λ y=>Fl.sm w λ x=>pri w C p y x)=Fl.sm m λ i=>Fl.sm h λ y=>C y (s i y):=by
 have e1:=I.po.Sf I.sm hh;have co:=I.po.cells I.sm;have e2:(Fl.sm h λ y=>Fl.sm w λ x=>pri w C p y x)=Fl.Sf w h (TT m s) p - Fl.sm h λ y=>Fl.sm w λ x=>if TT m s x y=true then C y x else 0:=by
  unfold Fl.Sf;rw[<-Fl.Cz];refine Fl.bw λ y hy=>?_;rw[<-Fl.Cz];refine Fl.bw λ x hx=>?_;obtain⟨c1,c2⟩:=co x y hx hy;have c1:TT m s x y=true->p (inn w x y)+C y x<=p (out w x y):=c1;have c2:TT m s x y=false->p (out w x y)<=p (inn w x y)+C y x:=c2;unfold pri;cases t:TT m s x y with
  |true=>have:=c1 t;rw[if_pos rfl,if_pos rfl,if_neg (by omega)]
  | false=>
   have:=c2 t;rw[if_neg Bool.false_ne_true,if_neg Bool.false_ne_true];split <;> omega
 have e3:(Fl.sm h λ y=>Fl.sm w λ x=>if TT m s x y=true then C y x else 0)=Fl.sm m λ i=>Fl.sm h λ y=>C y (s i y):=by
  rw[Fl.bw λ y hy=>I.sm.row hy λ x=>C y x];exact Fl.o8 m h
 omega
theorem Dg.seam (I:Dg w h C m s p) {i:Nat} (hi:i < m):qJ w h (s i):=⟨λ y hy=>I.sm.lt i y hi hy,λ y hy=>I.sm.nr i y hi hy⟩
end
end jP
namespace jP
open PySem PySem.Spec L2 Pu
open PyProof.Rows hiding St
noncomputable abbrev ky (l:List Int):List Key:=l.map Sum.inl
theorem adT {k:List Int} {acc:List (List Int×Int)} (h:∀p∈acc,p.1≠k):valV (eG acc) (ky k)=none:=by
 induction acc with
 |nil=>rfl
 | cons p acc ih=>
  have e:eG (p::acc)=(ky p.1,V.int p.2)::eG acc:=rfl;rw[e,valV_neg (λ z=>h p (by simp) (Mi z))];exact ih λ q hq=>h q (by simp[hq])
theorem ahl {k:List Int} {c:Int} {acc:List (List Int×Int)} (nd:(acc.map (·.1)).Nodup):∃r:List (List Int×Int),
  ((valV (eG acc) (ky k)=none/\putK (eG acc) (ky k) (.int c)=eG r)\/∃g,valV (eG acc) (ky k)=some (.int g)/\putK (eG acc) (ky k) (.int (if g < c then g else c))=eG r)
  /\(r.map (·.1)).Nodup/\(∀p∈r,p∈acc\/p=(k,c))/\(∀p,p∈acc\/p=(k,c)->∃c',c'<=p.2/\(p.1,c')∈r)/\r.length<=acc.length+1:=by
 by_cases hk:∃g,(k,g)∈acc
 ·obtain⟨g,hg⟩:=hk;have hv:=FZ nd hg;have e1:((eG acc).any λ kv=>decide (kv.1=ky k))=true:=by rw[valV_any,hv];rfl
  refine⟨acc.map λ p=>if p.1=k then (p.1,if g < c then g else c) else p,.inr ⟨g,hv,?_⟩,?_,λ p hp=>?_,λ p hp=>?_,by rw[z1g];exact Nat.le_add_right _ _⟩
  ·unfold putK;rw[if_pos e1];unfold eG;rw[List.map_map,List.map_map];refine List.map_congr_left λ p _u=>?_;show (if ky p.1=ky k then (ky p.1,V.int (if g < c then g else c)) else (ky p.1,V.int p.2))=((ky (if p.1=k then (p.1,if g < c then g else c) else p).1),V.int (if p.1=k then (p.1,if g < c then g else c) else p).2);by_cases e:p.1=k
   ·rw[if_pos (by rw[e]),if_pos e]
   ·rw[if_neg (λ z=>e (Mi z)),if_neg e]
  ·have:(acc.map λ p=>if p.1=k then (p.1,if g < c then g else c) else p).map (·.1)=acc.map (·.1):=by
    rw[List.map_map];refine List.map_congr_left λ p _u=>?_;show (if p.1=k then (p.1,if g < c then g else c) else p).1=p.1;split <;> rfl
   rw[this];exact nd
  ·obtain⟨q,hq,rfl⟩:=List.mem_map.mp hp;by_cases e:q.1=k
   ·rw[if_pos e,e];by_cases z:g < c
    ·rw[if_pos z];exact .inl hg
    ·rw[if_neg z];exact .inr rfl
   ·rw[if_neg e];exact .inl hq
  ·have hm:(k,if g < c then g else c)∈acc.map λ p=>if p.1=k then (p.1,if g < c then g else c) else p:=
    List.mem_map.mpr ⟨(k,g),hg,if_pos rfl⟩
   rcases hp with hp |rfl
   ·by_cases e:p.1=k
    ·have h2:=FZ (k:=p.1) (c:=p.2) nd hp;rw[e,hv] at h2;have h3:g=p.2:=by injection h2 with h2;injection h2
     refine⟨if g < c then g else c,by split <;> omega,?_⟩;rw[e];exact hm
    ·exact⟨p.2,Int.le_refl _,List.mem_map.mpr ⟨p,hp,if_neg e⟩⟩
   ·exact⟨if g < c then g else c,by show (if g < c then g else c)<=c;split <;> omega,hm⟩
 ·have hn:∀p∈acc,p.1≠k:=λ p hp e=>hk ⟨p.2,by rw[<-e];exact hp⟩;have hv:=adT hn;have e1:((eG acc).any λ kv=>decide (kv.1=ky k))=false:=by rw[valV_any,hv];rfl
  refine⟨acc++[(k,c)],.inl ⟨hv,?_⟩,?_,λ p hp=>?_,λ p hp=>⟨p.2,Int.le_refl _,?_⟩,by rw[z1d];exact z0g _⟩
  ·unfold putK;rw[e1,if_neg Bool.false_ne_true];unfold eG;rw[List.map_append];rfl
  ·rw[List.map_append];refine List.nodup_append.mpr ⟨nd,by simp,λ a ha b hb=>?_⟩;obtain⟨p,hp,rfl⟩:=List.mem_map.mp ha;have:b=k:=by simpa using hb
   rw[this];exact hn p hp
  ·rcases List.mem_append.mp hp with z |z
   ·exact .inl z
   ·exact .inr (by simpa using z)
  ·rcases hp with z |rfl
   ·exact List.mem_append_left _ z
   ·exact List.mem_append_right _ (by simp)
theorem Yh:∀{l acc:List (List Int×Int)},(acc.map (·.1)).Nodup->(∀p∈l,p.1≠[])->acc.length+l.length<=1000000->
  ∃r:List (List Int×Int),lV (eG acc) (l.map fW)=some (eG r)/\(r.map (·.1)).Nodup/\(∀p∈r,p∈acc\/p∈l)/\(∀p,p∈acc\/p∈l->∃c',c'<=p.2/\(p.1,c')∈r)/\r.length<=acc.length+l.length
 |[],acc,nd,_,_=>⟨acc,rfl,nd,λ p h=> .inl h,λ p h=>⟨p.2,Int.le_refl _,h.elim id λ z=>by cases z⟩,z0g _⟩
 | (k, c)::l,acc,nd,ne,hl=>by
  rw[List.length_cons] at hl;obtain⟨r1,hp,nd1,so1,co1,len1⟩:=ahl (k:=k) (c:=c) nd;obtain⟨r,e,nd2,so2,co2,len2⟩:=Yh (l:=l) (acc:=r1) nd1 (λ p hp=>ne p (by simp[hp])) (by omega);refine⟨r,?_,nd2,λ p hp=>?_,λ p hp=>?_,by rw[List.length_cons];omega⟩
  ·have hlen:(eG acc).length < 1000000:=by unfold eG;rw[z1g];omega
   have ek:keysOf (.tup (k.map D.int))=some (ky k):=Gr (ne (k,c) (by simp));rw[z1h];show lV (eG acc) (D.tup [.int c,.tup (k.map D.int)]::l.map fW)=_;rw[lV];simp only[ek];rcases hp with⟨hv,hp⟩ |⟨g,hv,hp⟩
   ·simp only[hv];rw[if_pos hlen,hp,e]
   ·simp only[hv];rw[if_pos hlen,hp,e]
  ·rcases so2 p hp with z |z
   ·rcases so1 p z with z |z
    ·exact .inl z
    ·exact .inr (by rw[z];exact List.mem_cons_self ..)
   ·exact .inr (z2f _ z)
  ·have:(p∈acc\/p=(k,c))\/p∈l:=by
    rcases hp with z |z
    ·exact .inl (.inl z)
    ·rcases List.mem_cons.mp z with z |z
     ·exact .inl (.inr z)
     ·exact .inr z
   rcases this with z |z
   ·obtain⟨c1,h1,m1⟩:=co1 p z;obtain⟨c2,h2,m2⟩:=co2 (p.1,c1) (.inl m1);exact⟨c2,Int.le_trans h2 h1,m2⟩
   ·exact co2 p (.inr z)
theorem adU {l:List (List Int×Int)} {iB iC iW iM iS:Nat} {ρ:ao} (hM:ρ[iM]?=some (some (.lst (l.map fW)))) (ne:∀p∈l,p.1≠[]) (hl:l.length<=1000000):
  ∃r:List (List Int×Int),JH iB iC iW iM iS ρ= .nx ((((ρ.set iB none).set iC none).set iW none).set iS (some (.val (.lst (r.map fW)))))/\(∀p∈r,p∈l)/\(∀p∈l,∃c',c'<=p.2/\(p.1,c')∈r)/\r.length<=l.length:=by
 obtain⟨r,e,nd,so,co,len⟩:=Yh (l:=l) (acc:=[]) .nil ne (by simpa using hl);have so':∀p∈r,p∈l:=λ p hp=>(so p hp).elim (λ z=>by cases z) id;have len':r.length<=l.length:=by simpa using len
 refine⟨r,?_,so',λ p hp=>co p (.inr hp),len'⟩;have e:lV [] (l.map fW)=some (eG r):=e;unfold JH;simp only[hM,e,abt];rw[if_pos ⟨nd,λ p hp=>ne p (so' p hp),by omega⟩]
end jP
namespace jP
open PySem PySem.Spec L2 Pu
section
variable {w h:Nat} {s:Nat->Nat} {ρ:ao}
theorem abO {α:Type} {k:D->R (Option D)} {c:α->D} {o:α->Option D}:∀{l:List α},(∀a∈l,k (c a)= .ok (o a))->lg k (l.map c)= .ok (l.filterMap o)
 |[],_=>rfl
 | a::l,h=>by
  rw[z1h,lg,h a (by simp),rK,R.aX,abO λ b hb=>h b (by simp[hb]),R.aX];cases e:o a with
  |none=>rw[List.filterMap_cons_none e];rfl
  |some d=>rw[List.filterMap_cons_some e];rfl
theorem ahm {α:Type} {n:Nat} {caps:List Nat} {fi:ao->R (List D)} {gt:D->ao->R ao} {ft:ao->R Bool} {fe:ao->R D} {ρ:ao} {c:α->D} {o:α->Option D} {l:List α} (e1:fi ρ= .ok (l.map c)) (hl:l.length<=1000000)
  (e2:∀a∈l,nR gt ft fe (vR n caps ρ) (c a)= .ok (o a)):aV n caps fi gt ft fe ρ= .ok (.lst (l.filterMap o)):=by
 rw[aV,e1,R.aX,abO e2,R.aX,cap,if_pos (z0b (List.length_filterMap_le _ _) hl)]
theorem afu {ρ ρ1:ao} {gt:D->ao->R ao} {ft:ao->R Bool} {fe:ao->R D} {x d:D} {b:Bool} (e1:gt x ρ= .ok ρ1) (e2:ft ρ1= .ok b) (e3:fe ρ1= .ok d):nR gt ft fe ρ x= .ok (if b=true then some d else none):=by
 rw[nR,e1,R.aX,e2,R.aX];cases b with
 |true=>rw[if_pos rfl,if_pos rfl,e3];rfl
 |false=>rw[if_neg (by decide),if_neg (by decide)]
noncomputable def tI (l:List Int):D:= .tup (l.map .int)
noncomputable def bM (h:Nat) (s:Nat->Nat):List Int:=(List.range h).map λ y=>((s y:Nat):Int)
theorem ait:tI (bM h s)=sm h s:=by unfold tI bM;rw[List.map_map];rfl
noncomputable def ext (w:Nat) (l:List Int) (a:Int):List (List Int):=[a - 1,a,a+1].filterMap λ x=>if (decide (0<=x) && decide (x < (w:Int)))=true then some (l++[x]) else none
noncomputable def lst (l:List Int):Int:=l.getD (l.length - 1) 0
noncomputable def jL (w:Nat):Nat->List (List Int)
 |0=>(List.range w).map λ x=>[((x:Nat):Int)]
 |k+1=>(jL w k).flatMap λ l=>ext w l (lst l)
theorem Mw {k:Nat}:lst (bM (k+1) s)=((s k:Nat):Int):=by simp[lst,bM]
theorem Ry {k:Nat}:bM (k+1) s=bM k s++[((s k:Nat):Int)]:=by unfold bM;rw[List.range_succ,List.map_append];rfl
set_option tactic.hygienic true in
theorem Yi {l r:List Int} {a:Int}:r∈ext w l a↔∃x,(x=a - 1\/x=a\/x=a+1)/\0<=x/\x < (w:Int)/\r=l++[x]:=by
 unfold ext;rw[List.mem_filterMap];constructor
 ·rintro⟨x,hx,e⟩
  split at e
  ·rename_i hb;cases e;simp only[List.mem_cons,List.not_mem_nil,or_false] at hx;simp only[Bool.and_eq_true,decide_eq_true_eq] at hb;exact⟨x,hx,hb.1,hb.2,rfl⟩
  ·cases e
 ·rintro⟨x,hx,h0,h1,rfl⟩
  refine⟨x,by simpa using hx,?_⟩;rw[if_pos (by simp[h0,h1])]
theorem abP {s':Nat->Nat} {k:Nat} (e:∀y < k,s y=s' y):bM k s=bM k s':=by
 unfold bM;exact List.map_congr_left λ y hy=>by rw[e y (z2e hy)]
theorem tE:∀{k:Nat} {l:List Int},l∈jL w k↔∃s,qJ w (k+1) s/\l=bM (k+1) s
 | 0,l=>by
  unfold jL;rw[List.mem_map];constructor
  ·rintro⟨x,hx,rfl⟩
   exact⟨λ _u=>x,⟨λ _u _u=>z2e hx,λ y hy=>by omega⟩,rfl⟩
  ·rintro⟨s,q,rfl⟩
   exact⟨s 0,List.mem_range.mpr (q.lt 0 (by omega)),rfl⟩
 | k + 1,l=>by
  unfold jL;rw[List.mem_flatMap];constructor
  ·rintro⟨l',h',hl⟩
   obtain⟨s,q,rfl⟩:=tE.mp h';rw[Mw] at hl;obtain⟨x,hx,h0,h1,rfl⟩:=Yi.mp hl;obtain⟨p,rfl⟩:=Int.eq_ofNat_of_zero_le h0;have e1:∀y < k+1,(λ y=>if y=k+1 then p else s y) y=s y:=λ y hy=>if_neg (by omega);refine⟨λ y=>if y=k+1 then p else s y,⟨λ y hy=>?_,λ y hy=>?_⟩,?_⟩
   ·by_cases e:y=k+1
    ·simp only[e,if_true];omega
    ·simp only[e,if_false];exact q.lt y (by omega)
   ·by_cases e:y=k
    ·subst e;simp only[if_true,show ¬y=y+1 by omega,if_false];omega
    ·simp only[show ¬y+1=k+1 by omega,show ¬y=k+1 by omega,if_false];exact q.st y (by omega)
   ·rw[Ry (k:=k+1),abP e1];simp
  ·rintro⟨s,q,rfl⟩
   refine⟨bM (k+1) s,tE.mpr ⟨s,⟨λ y hy=>q.lt y (by omega),λ y hy=>q.st y (by omega)⟩,rfl⟩,?_⟩;rw[Mw,Yi];have a:=q.st k (by omega);have b:=q.lt (k+1) (by omega);exact⟨((s (k+1):Nat):Int),by omega,by omega,by omega,Ry⟩
theorem Mx {l:List Int} {a:Int}:(ext w l a).length<=3:=by unfold ext;exact List.length_filterMap_le _ _
theorem NK {F:List Int->List (List Int)}:∀{l:List (List Int)},(∀a∈l,(F a).length<=3)->(l.flatMap F).length<=3*l.length
 |[],_=>by simp
 | a::l,h=>by
  rw[List.flatMap_cons,z1d,List.length_cons];have h1:=h a (by simp);have h2:=NK (l:=l) λ b hb=>h b (by simp[hb]);omega
theorem Mz:∀{k:Nat},(jL w k).length<=w*3 ^ k
 |0=>by simp[jL]
 | k+1=>by
  unfold jL;have:=NK (F:=λ l=>ext w l (lst l)) (l:=jL w k) λ a _u=>Mx;have h2:=Mz (k:=k);rw[Nat.pow_succ];have:w*(3 ^ k*3)=3*(w*3 ^ k):=by rw[Nat.mul_comm (3 ^ k) 3,<-Nat.mul_assoc,Nat.mul_comm w 3,Nat.mul_assoc]
  omega
theorem adV {k:Nat} (hw:w<=4) (hk:k<=3):(jL w k).length<=108:=by
 have:=Mz (w:=w) (k:=k);have h3:3 ^ k<=27:=by
  have:k=0\/k=1\/k=2\/k=3:=by omega
  rcases this with rfl |rfl |rfl |rfl <;> decide
 have:w*3 ^ k<=4*27:=Nat.mul_le_mul hw h3;omega
theorem MF {k:Nat}:bD (tI (bM (k+1) s)) (.int (-1))= .ok (.int ((s k:Nat):Int)):=by
 have:atI ((bM (k+1) s).map D.int) (-1)=some (.int ((s k:Nat):Int)):=by
  unfold atI ixN;rw[if_neg (by omega),if_pos (by simp[bM];omega)];show ((bM (k+1) s).map D.int)[_]?=_;have e:(-1+(((bM (k+1) s).map D.int).length:Int)).toNat=k:=by simp[bM];omega
  rw[e];simp[bM]
 show bD (.tup ((bM (k+1) s).map D.int)) (.int (-1))=_;rw[bD,this]
theorem afv {l:List Int} {a:Int}:(ext w l a).map tI=[a - 1,a,a+1].filterMap λ x=>if (decide (0<=x) && decide (x < (w:Int)))=true then some (tI (l++[x])) else none:=by
 unfold ext;rw[List.map_filterMap];congr 1;funext x;split <;> rfl
theorem ahn {k:Nat} (hk:k < 20) (q:qJ w (k+1) s) {e1 e2 e3:Option Ent} {acc:List D} (hl:acc.length<=1000):
  wyI [vA (.int (w:Int)),e1,e2,e3,vA (.lst acc),vA (tI (bM (k+1) s))]= .nx [vA (.int (w:Int)),e1,e2,e3,vA (.lst (acc++(ext w (bM (k+1) s) (lst (bM (k+1) s))).map tI)),vA (tI (bM (k+1) s))]:=by
 have hlen:=Mx (w:=w) (l:=bM (k+1) s) (a:=lst (bM (k+1) s));have hwl:(bM (k+1) s).length=k+1:=by simp[bM]
 rw[Mw] at hlen |-;refine bx (aq rfl (y:= .lst ((ext w (bM (k+1) s) ((s k:Nat):Int)).map tI)) ?_ (XQ (by rw[z1g];omega))) rfl;rw[afv];refine ahm (l:=[((s k:Nat):Int) - 1,((s k:Nat):Int),((s k:Nat):Int)+1]) (c:=D.int) (sV (f9 (aB (aq (aq rfl rfl MF) rfl rfl) (aB (aq rfl rfl MF) (aA (aq (aq rfl rfl MF) rfl rfl)))))) (by simp) λ x hx=>?_;refine afu rfl ?_ (aq rfl (f9 (aA rfl)) ((XM (by rw[z1g,hwl];simp;omega)).trans (by rw[tI,List.map_append];rfl)));by_cases h0:0<=x
 ·rw[decide_eq_true h0,Bool.true_and];exact sW (bf (aq rfl rfl (Ae h0))) (bf (aq rfl rfl rfl))
 ·rw[decide_eq_false h0,Bool.false_and];refine FJ (bf (aq rfl rfl ?_));show R.ok (D.bl (decide _))=_;rw[decide_eq_false h0]
theorem Rz {k:Nat} (hk:k < 20) {e1 e2 e3:Option Ent}:∀{ws:List (List Int)} {acc:List D} {e5:Option Ent},(∀l∈ws,∃s,qJ w (k+1) s/\l=bM (k+1) s)->acc.length+3*ws.length<=1000->
  ∃z5,forL (aG 5) wyI (ws.map tI) [vA (.int (w:Int)),e1,e2,e3,vA (.lst acc),e5]= .nx [vA (.int (w:Int)),e1,e2,e3,vA (.lst (acc++(ws.flatMap λ l=>ext w l (lst l)).map tI)),z5]
 |[],acc,e5,_,_=>⟨e5,by simp[forL]⟩
 | l::ws,acc,e5,hw,hl=>by
  rw[List.length_cons] at hl;obtain⟨s,q,rfl⟩:=hw l (by simp);have hlen:=Mx (w:=w) (l:=bM (k+1) s) (a:=lst (bM (k+1) s));obtain⟨z5,e⟩:=Rz hk (e1:=e1) (e2:=e2) (e3:=e3) (ws:=ws) (acc:=acc++(ext w (bM (k+1) s) (lst (bM (k+1) s))).map tI) (e5:=vA (tI (bM (k+1) s))) (λ l hl=>hw l (by simp[hl])) (by rw[z1d,z1g];omega);refine⟨z5,fV rfl (ahn hk q (by omega)) (e.trans ?_)⟩;rw[List.flatMap_cons,List.map_append,List.append_assoc]
theorem aho {k:Nat} (hk:k < 3) (hw:w<=4) {e1 e3 e4 e5:Option Ent}:∃z4 z5,wyO [vA (.int (w:Int)),e1,vA (.lst ((jL w k).map tI)),e3,e4,e5]= .nx [vA (.int (w:Int)),e1,vA (.lst ((jL w (k+1)).map tI)),e3,z4,z5]:=by
 have hl:=adV (k:=k) hw (by omega);obtain⟨z5,e⟩:=Rz (w:=w) (k:=k) (by omega) (e1:=e1) (e2:=vA (.lst ((jL w k).map tI))) (e3:=e3) (ws:=jL w k) (acc:=[]) (e5:=e5) (λ l hl=>tE.mp hl) (by simp;omega);exact⟨_,z5,aL (bx (gj rfl) rfl) (aL (nj (jq rfl) e) (bx (d:= .lst ((jL w (k+1)).map tI)) rfl rfl))⟩
theorem RB (hw:w<=4) {e1:Option Ent}:∀{r k:Nat} {ys:List Nat} {e3 e4 e5:Option Ent},ys.length=r->k+r<=3->∃z3 z4 z5,forL (aG 3) wyO (ys.map λ (y:Nat)=>D.int (y:Int)) [vA (.int (w:Int)),e1,vA (.lst ((jL w k).map tI)),e3,e4,e5]= .nx [vA (.int (w:Int)),e1,vA (.lst ((jL w (k+r)).map tI)),z3,z4,z5]
 |0,k,ys,e3,e4,e5,hl,_=>by cases List.length_eq_zero_iff.mp hl;exact⟨e3,e4,e5,rfl⟩
 | r +1,k,ys,e3,e4,e5,hl,hk=>by
  cases ys with
  |nil=>cases hl
  | cons y ys=>
   obtain⟨y4,y5,e⟩:=aho (k:=k) (by omega) hw (e1:=e1) (e3:=vA (.int (y:Int))) (e4:=e4) (e5:=e5);obtain⟨z3,z4,z5,e'⟩:=RB hw (e1:=e1) (r:=r) (k:=k+1) (ys:=ys) (e3:=vA (.int (y:Int))) (e4:=y4) (e5:=y5) (by simpa using hl) (by omega);rw[show k+1+r=k+(r+1) by omega] at e';exact⟨z3,z4,z5,fV rfl e e'⟩
theorem afw (hw:w<=4) (h1:1<=h) (hh:h<=4):mQ [.int (w:Int),.int (h:Int)]= .ok (.lst ((jL w (h - 1)).map tI)):=by
 obtain⟨z3,z4,z5,e⟩:=RB hw (e1:=vA (.int (h:Int))) (r:=h - 1) (k:=0) (ys:=List.range (h - 1)) (e3:=none) (e4:=none) (e5:=none) (by simp) (by omega);rw[Nat.zero_add] at e;refine cN (aL (bx (d:= .lst ((jL w 0).map tI)) ?_ rfl) (aL (nj (iU (m:=h - 1) (aA (aq rfl rfl (Rn h1))) (by omega)) e) (cH rfl)));have:(jL w 0).map tI=(List.range w).map λ (x:Nat)=>D.tup [.int (x:Int)]:=by unfold jL;rw[List.map_map];rfl
 rw[this];exact cu (c:=λ (x:Nat)=>D.int (x:Int)) (h:=λ (x:Nat)=>D.tup [.int (x:Int)]) (l:=List.range w) (iU (aA rfl) (by omega)) (by rw[z2d];omega) λ x hx=>cM rfl (f9 (aA rfl))
end
end jP
namespace jP
open PySem PySem.Spec L2 Pu
open Fl (inn out gY dX mX gA)
section
variable {w h m n:Nat} {f C:Nat->Nat->Int} {s:Nat->Nat->Nat} {p:Nat->Int} {ρ:ao} {ns:List Int}
noncomputable def Ch (w h:Nat) (C:Nat->Nat->Int) (n:Nat) (l:List Int) (c:Int):Prop:=∃q:Nat->Nat->Nat,(∀i,i<=n->qJ w h (q i))/\(∀i,i < n->∀y < h,q i y < q (i+1) y)/\l=bM h (q n)/\c=Fl.sm (n+1) λ i=>Fl.sm h λ y=>C y (q i y)
noncomputable def wc (C:Nat->Nat->Int) (h:Nat) (l:List Int):Int:=Fl.sm h λ y=>C y (l.getD y 0).toNat
noncomputable def wj (h:Nat) (l l':List Int):Bool:=(List.range h).all λ y=>decide (l.getD y 0 < l'.getD y 0)
theorem Di {q:Nat->Nat} {y:Nat} (hy:y < h):(bM h q).getD y 0=((q y:Nat):Int):=by simp[bM,hy]
theorem afx {q:Nat->Nat}:(bM h q).length=h:=by simp[bM]
theorem RD {q:Nat->Nat}:wc C h (bM h q)=Fl.sm h λ y=>C y (q y):=by
 unfold wc;exact Fl.bw λ y hy=>by rw[Di hy,Int.toNat_natCast]
theorem abQ {q r:Nat->Nat}:wj h (bM h q) (bM h r)=true↔∀y < h,q y < r y:=by
 unfold wj;rw[List.all_eq_true];constructor
 ·intro z y hy;have:=of_decide_eq_true (z y (List.mem_range.mpr hy));rw[Di hy,Di hy] at this;omega
 ·intro z y hy;have hy:=z2e hy;have:=z y hy;rw[Di hy,Di hy];exact decide_eq_true (by omega)
theorem Ch.one {q:Nat->Nat} (Q:qJ w h q):Ch w h C 0 (bM h q) (Fl.sm h λ y=>C y (q y)):=
 ⟨λ _u=>q,λ _u _u=>Q,λ i hi=>absurd hi (Nat.not_lt_zero _),rfl,(Int.zero_add _).symm⟩
theorem Ch.ahp {l:List Int} {c:Int} (z:Ch w h C 0 l c):∃q,qJ w h q/\l=bM h q/\c=Fl.sm h λ y=>C y (q y):=by
 obtain⟨q,a,b,e1,e2⟩:=z;exact⟨q 0,a 0 (z0g _),e1,by rw[e2];exact Int.zero_add _⟩
theorem Ch.last {l:List Int} {c:Int} (z:Ch w h C n l c):∃q,qJ w h q/\l=bM h q:=by
 obtain⟨q,a,b,e1,e2⟩:=z;exact⟨q n,a n (z0g _),e1⟩
theorem Ch.next {l:List Int} {c:Int} {r:Nat->Nat} (z:Ch w h C n l c) (R':qJ w h r) (hl:wj h l (bM h r)=true):Ch w h C (n+1) (bM h r) (c+Fl.sm h λ y=>C y (r y)):=by
 obtain⟨q,a,b,rfl,rfl⟩:=z;have hl:=abQ.mp hl;have e:∀i,i<=n->(if i=n+1 then r else q i)=q i:=λ i hi=>if_neg (by omega);refine⟨λ i=>if i=n+1 then r else q i,λ i hi=>?_,λ i hi y hy=>?_,?_,?_⟩
 ·show qJ w h (if i=n+1 then r else q i);by_cases z:i=n+1
  ·rw[if_pos z];exact R'
  ·rw[if_neg z];exact a i (by omega)
 ·show (if i=n+1 then r else q i) y < (if i+1=n+1 then r else q (i+1)) y;rw[e i (by omega)];by_cases z:i+1=n+1
  ·rw[if_pos z];have:i=n:=by omega
   subst this;exact hl y hy
  ·rw[if_neg z];exact b i (by omega) y hy
 ·show _=bM h (if n+1=n+1 then r else q (n+1));rw[if_pos rfl]
 ·show _=Fl.sm (n+1) (λ i=>Fl.sm h λ y=>C y ((if i=n+1 then r else q i) y))+Fl.sm h λ y=>C y ((if n+1=n+1 then r else q (n+1)) y);rw[if_pos rfl,Fl.bw (n:=n+1) (f:=λ i=>Fl.sm h λ y=>C y ((if i=n+1 then r else q i) y)) (g:=λ i=>Fl.sm h λ y=>C y (q i y)) λ i hi=>by rw[e i (by omega)]]
theorem Ch.inv {l:List Int} {c:Int} (z:Ch w h C (n+1) l c):∃l' c' r,Ch w h C n l' c'/\qJ w h r/\l=bM h r/\wj h l' l=true/\c=c'+Fl.sm h λ y=>C y (r y):=by
 obtain⟨q,a,b,rfl,rfl⟩:=z;exact⟨bM h (q n),_,q (n+1),⟨q,λ i hi=>a i (by omega),λ i hi=>b i (by omega),rfl,rfl⟩,a _ (z0g _),rfl,abQ.mpr (b n (by omega)),rfl⟩
theorem Ch.room {l:List Int} {c:Int} (z:Ch w h C n l c) (hh:1<=h):n < w:=by
 obtain⟨q,a,b,rfl,rfl⟩:=z;have:∀i,i<=n->i<=q i 0:=λ i=>by
  induction i with
  |zero=>intro _u;omega
  |succ i ih=>intro hi;have:=ih (by omega);have:=b i (by omega) 0 hh;omega
 have:=this n (z0g _);have:=(a n (z0g _)).lt 0 hh;omega
theorem Gh {g:Nat->Int} (hg:∀x,0<=g x) {a:Nat}:∀{b:Nat},a<=b->Fl.sm a g<=Fl.sm b g
 | 0, e => by have:a=0:=by omega
              rw[this];exact Int.le_refl _
 | b +1,e=>by
  by_cases z:a=b+1
  ·rw[z];exact Int.le_refl _
  ·have h1:=Gh hg (a:=a) (b:=b) (by omega);have h2:=hg b;show _<=Fl.sm b g+g b;omega
theorem Yj {g:Nat->Int} {a:Nat->Nat} (hg:∀x,0<=g x):∀{n:Nat},(∀i,i < n->a i < a (i+1))->Fl.sm (n+1) (λ i=>g (a i))<=Fl.sm (a n+1) g
 | 0,_=>by
  have:=Gh hg (a:=0) (b:=a 0) (by omega);show 0+g (a 0)<=Fl.sm (a 0) g+g (a 0);have e:Fl.sm 0 g=0:=rfl;omega
 | n+1,ha=>by
  have h1:=Yj hg (n:=n) λ i hi=>ha i (by omega);have h2:=Gh hg (a:=a n+1) (b:=a (n+1)) (ha n (by omega));show Fl.sm (n+1) (λ i=>g (a i))+g (a (n+1))<=Fl.sm (a (n+1)) g+g (a (n+1));omega
theorem Ch.ge {l:List Int} {c:Int} (hh:1<=h) (I:Dg w h C (n+1) s p) (z:Ch w h C n l c):(Fl.sm (n+1) λ i=>Fl.sm h λ y=>C y (s i y))<=c:=by
 obtain⟨q,a,b,rfl,rfl⟩:=z;rw[<-total hh I];have h1:Fl.sm (n+1) (λ _u=>p 1)<=Fl.sm (n+1) λ i=>Fl.sm h λ y=>C y (q i y)+pri w C p y (q i y):=Fl.fZ λ i hi=>ahk hh I.po (a i (by omega));have h2:(Fl.sm (n+1) λ i=>Fl.sm h λ y=>C y (q i y)+pri w C p y (q i y))=(Fl.sm (n+1) λ i=>Fl.sm h λ y=>C y (q i y))+Fl.sm (n+1) λ i=>Fl.sm h λ y=>pri w C p y (q i y):=by
  rw[<-Fl.jO];exact Fl.bw λ i _u=>Fl.jO h
 have h3:(Fl.sm (n+1) λ i=>Fl.sm h λ y=>pri w C p y (q i y))<=Fl.sm h λ y=>Fl.sm w λ x=>pri w C p y x:=by
  rw[Fl.o8];refine Fl.fZ λ y hy=>?_;have g1:=Yj (g:=λ x=>pri w C p y x) (a:=λ i=>q i y) (λ x=>abN) (n:=n) λ i hi=>b i hi y hy;have g2:=Gh (g:=λ x=>pri w C p y x) (λ x=>abN) (a:=q n y+1) (b:=w) ((a n (z0g _)).lt y hy);exact Int.le_trans g1 g2
 have h4:=Fl.kh (a:=p 1) (n+1);omega
theorem Ch.of (I:Dg w h C (n+1) s p):Ch w h C n (bM h (s n)) (Fl.sm (n+1) λ i=>Fl.sm h λ y=>C y (s i y)):=
 ⟨s,λ i hi=>I.seam (by omega),λ i hi y hy=>I.sm.srt i y (by omega) hy,rfl,rfl⟩
end
end jP
namespace jP
open PySem PySem.Spec L2 Pu
section
variable {w h m n:Nat} {f C:Nat->Nat->Int} {ρ:ao} {l l':List Int} {c c':Int}
theorem Yk:∀{l:List Int},l.length=h->l.map D.int=(List.range h).map λ y=>D.int (l.getD y 0):=λ {l} hl=>by
 refine List.ext_getElem (by simp[hl]) λ i h1 h2=>?_;have hi:i < l.length:=by simpa using h1
 simp[hi]
theorem RG {α:Type} {P:α->Bool}:∀{l:List α},(l.filter λ a=> !P a)=[]↔l.all P=true
 |[]=>by simp
 | a::l=>by
  rw[List.filter_cons,List.all_cons];cases e:P a with
  |true=>simpa using RG (P:=P) (l:=l)
  |false=>simp
theorem eq_nil {α:Type} {l:List α}:qm (.lst (l.map λ _u=>D.int 1)) (.lst [])= .ok (.bl l.isEmpty):=by
 have hd:dep (.lst (l.map λ _u=>D.int 1))<=40:=by
  rw[dep];have:=Lq (c:=λ _:α=>D.int 1) (n:=0) (l:=l) (λ _u _u=>by simp[dep]);omega
 unfold qm;rw[if_pos hd];cases l with
 |nil=>rfl
 |cons a l=>rfl
theorem adW (cg:h<=20) (hl:l.length=h) (hl':l'.length=h) {e0 e1 e2 e3 e4 e5 e6 e7 e9 iu:Option Ent}:
  bH (bin (aV 2 [] (λ ρ=>((ak (gv 8) (ak (gv 10) nA)) ρ).bind zip2) (eU (eV 2 (bB (aG 0) (bB (aG 1) nilG)))) (bH (bin (gv 0) (gv 1) M5)) (ci 1)) (jM nA) qm) [e0,e1,e2,e3,e4,e5,e6,e7,vA (tI l),e9,vA (tI l'),iu]= .ok (wj h l l'):=by
 have e:=Nz (ρ:=[e0,e1,e2,e3,e4,e5,e6,e7,vA (tI l),e9,vA (tI l'),iu]) (n:=2) (caps:=[]) (fi:=λ ρ=>((ak (gv 8) (ak (gv 10) nA)) ρ).bind zip2) (gt:=eU (eV 2 (bB (aG 0) (bB (aG 1) nilG)))) (ft:=bH (bin (gv 0) (gv 1) M5)) (fe:=λ _u=> .ok (.int 1))
  (l:=List.range h) (c:=λ y=>D.tup [.int (l.getD y 0),.int (l'.getD y 0)]) (g:=λ _u=> .int 1) (P:=λ y=> !decide (l.getD y 0 < l'.getD y 0)) (afc (l:=List.range h) (p:=λ y=>D.int (l.getD y 0)) (q:=λ y=>D.int (l'.getD y 0)) (aB rfl (aA rfl)) (congrArg R.ok (Yk hl)) (congrArg R.ok (Yk hl'))) (by rw[z2d];omega) λ y hy=>Yb rfl (bf (aq rfl rfl ?_)) rfl
 ·refine bf (aq e (gj rfl) (eq_nil.trans ?_));congr 2;have:=RG (P:=λ y=>decide (l.getD y 0 < l'.getD y 0)) (l:=List.range h);unfold wj;cases z:(List.range h).all λ y=>decide (l.getD y 0 < l'.getD y 0) with
  |true=>rw[this.mpr z];rfl
  | false=>
   cases z2:(List.range h).filter λ y=> !decide (l.getD y 0 < l'.getD y 0) with
   |nil=>rw[this.mp z2] at z;cases z
   |cons a r=>rfl
 ·show R.ok (D.bl (decide (l'.getD y 0<=l.getD y 0)))=R.ok (D.bl (!decide (l.getD y 0 < l'.getD y 0)));by_cases z:l.getD y 0 < l'.getD y 0
  ·rw[decide_eq_true z,decide_eq_false (by omega)];rfl
  ·rw[decide_eq_false z,decide_eq_true (by omega)];rfl
noncomputable abbrev Pr:=List Int×Int
theorem ahq (cg:h<=20) (hl:l.length=h) (hl':l'.length=h) {acc:List Pr} (ha:acc.length < 1000000) {e0 e1 e2 e3 e4 e5 iu:Option Ent}:
  leC [e0,e1,e2,e3,e4,e5,some (.lst (acc.map fW)),vA (.int c),vA (tI l),vA (.int c'),vA (tI l'),iu]= .nx [e0,e1,e2,e3,e4,e5,some (.lst ((acc++if wj h l l'=true then [(l',c+c')] else []).map fW)),vA (.int c),vA (tI l),vA (.int c'),vA (tI l'),iu]:=by
 have e:=adW cg hl hl' (e0:=rC e0) (e1:=rC e1) (e2:=rC e2) (e3:=rC e3) (e4:=rC e4) (e5:=rC e5) (e6:=rC (some (.lst (acc.map fW)))) (e7:=vA (.int c)) (e9:=vA (.int c')) (iu:=rC iu);cases z:wj h l l' with
 | true=>
  rw[z] at e;rw[if_pos rfl];refine jC e ((Rp (d:=fW (l',c+c')) (f9 (aB (x:= .int (c+c')) (aq rfl rfl rfl) (aA rfl))) (ds:=acc.map fW) rfl (by rw[z1g];exact ha)).trans ?_);rw[List.map_append];rfl
 | false=>
  rw[z] at e;rw[if_neg Bool.false_ne_true,List.append_nil];exact fD e rfl
noncomputable def grow (h:Nat) (L0:List Pr) (p:Pr):List Pr:=L0.flatMap λ q=>if wj h p.1 q.1=true then [(q.1,p.2+q.2)] else []
theorem Hy {L0:List Pr} {p r:Pr}:r∈grow h L0 p↔∃q∈L0,wj h p.1 q.1=true/\r=(q.1,p.2+q.2):=by
 unfold grow;rw[List.mem_flatMap];constructor
 ·rintro⟨q,hq,hr⟩
  by_cases z:wj h p.1 q.1=true
  ·rw[if_pos z] at hr;exact⟨q,hq,z,by simpa using hr⟩
  ·rw[if_neg z] at hr;cases hr
 ·rintro⟨q,hq,z,rfl⟩
  exact⟨q,hq,by rw[if_pos z];simp⟩
theorem Hz {α β:Type} {F:α->List β} {k:Nat}:∀{l:List α},(∀a∈l,(F a).length<=k)->(l.flatMap F).length<=l.length*k
 |[],_=>by simp
 | a::l,hk=>by
  have h1:=hk a (by simp);have h2:=Hz (l:=l) λ b hb=>hk b (by simp[hb]);rw[List.flatMap_cons,z1d,List.length_cons,Nat.succ_mul];omega
theorem RJ {L0:List Pr} {p:Pr}:(grow h L0 p).length<=L0.length:=by
 have:=Hz (F:=λ q:Pr=>if wj h p.1 q.1=true then [(q.1,p.2+q.2)] else []) (k:=1) (l:=L0) λ q _u=>by split <;> simp
 unfold grow;omega
theorem RK (cg:h<=20) (hl:l.length=h) {e0 e1 e2 e3 e4 e5 iu:Option Ent}:∀{L0 acc:List Pr} {e9 e10:Option Ent},(∀q∈L0,q.1.length=h)->acc.length+L0.length<=1000000->
  ∃z9 uJ,forL (eU (eV 2 (bB (aG 9) (bB (aG 10) nilG)))) leC (L0.map fW) [e0,e1,e2,e3,e4,e5,some (.lst (acc.map fW)),vA (.int c),vA (tI l),e9,e10,iu]= .nx [e0,e1,e2,e3,e4,e5,some (.lst ((acc++grow h L0 (l,c)).map fW)),vA (.int c),vA (tI l),z9,uJ,iu]
 |[],acc,e9,e10,_,_=>⟨e9,e10,by unfold grow;rw[List.flatMap_nil,List.append_nil];rfl⟩
 | q::L0,acc,e9,e10,hq,hn=>by
  rw[List.length_cons] at hn;have e:=ahq (c:=c) (c':=q.2) cg hl (hq q (by simp)) (acc:=acc) (by omega) (e0:=e0) (e1:=e1) (e2:=e2) (e3:=e3) (e4:=e4) (e5:=e5) (iu:=iu);have hlen:(if wj h l q.1=true then [(q.1,c+q.2)] else ([]:List Pr)).length<=1:=by split <;> simp
  obtain⟨z9,uJ,e'⟩:=RK cg hl (L0:=L0) (acc:=acc++if wj h l q.1=true then [(q.1,c+q.2)] else []) (e9:=vA (.int q.2)) (e10:=vA (tI q.1)) (e0:=e0) (e1:=e1) (e2:=e2) (e3:=e3) (e4:=e4) (e5:=e5) (iu:=iu) (λ r hr=>hq r (by simp[hr])) (by rw[z1d];omega);refine⟨z9,uJ,fV rfl e (e'.trans ?_)⟩;unfold grow;rw[List.flatMap_cons,List.append_assoc]
theorem RL (cg:h<=20) {e0 e1 e2 e4 e5 iu:Option Ent} {L0:List Pr} (h0:∀q∈L0,q.1.length=h):∀{L acc:List Pr} {e7 e8 e9 e10:Option Ent},(∀q∈L,q.1.length=h)->acc.length+L.length*L0.length<=1000000->
  ∃z7 z8 z9 uJ,forL (eU (eV 2 (bB (aG 7) (bB (aG 8) nilG)))) leB (L.map fW) [e0,e1,e2,vA (.lst (L0.map fW)),e4,e5,some (.lst (acc.map fW)),e7,e8,e9,e10,iu]= .nx [e0,e1,e2,vA (.lst (L0.map fW)),e4,e5,some (.lst ((acc++L.flatMap (grow h L0)).map fW)),z7,z8,z9,uJ,iu]
 |[],acc,e7,e8,e9,e10,_,_=>⟨e7,e8,e9,e10,by rw[List.flatMap_nil,List.append_nil];rfl⟩
 | p::L,acc,e7,e8,e9,e10,hq,hn=>by
  rw[List.length_cons,Nat.succ_mul] at hn;have hg:=RJ (h:=h) (L0:=L0) (p:=p);obtain⟨y9,y10,e⟩:=RK (c:=p.2) cg (hq p (by simp)) (L0:=L0) (acc:=acc) (e9:=e9) (e10:=e10) (e0:=e0) (e1:=e1) (e2:=e2) (e3:=vA (.lst (L0.map fW))) (e4:=e4) (e5:=e5) (iu:=iu) h0 (by omega);obtain⟨z7,z8,z9,uJ,e'⟩:=RL cg h0 (L:=L) (acc:=acc++grow h L0 p) (e7:=vA (.int p.2)) (e8:=vA (tI p.1)) (e9:=y9) (e10:=y10) (e0:=e0) (e1:=e1) (e2:=e2) (e4:=e4) (e5:=e5) (iu:=iu) (λ r hr=>hq r (by simp[hr])) (by rw[z1d];omega);refine⟨z7,z8,z9,uJ,fV rfl (nj (jq rfl) e) (e'.trans ?_)⟩;rw[List.flatMap_cons,List.append_assoc]
structure Rd (w h:Nat) (C:Nat->Nat->Int) (n:Nat) (L:List Pr):Prop where
 so:∀p∈L,Ch w h C n p.1 p.2
 co:∀l c,Ch w h C n l c->∃c',c'<=c/\(l,c')∈L
theorem Rd.len {L:List Pr} (R':Rd w h C n L):∀q∈L,q.1.length=h:=λ q hq=>by
 obtain⟨r,_,e⟩:=(R'.so q hq).last;rw[e];exact afx
theorem ahr (hh:1<=h) (cg:h<=20) {L0 L:List Pr} (R0:Rd w h C 0 L0) (R1:Rd w h C n L) (hn:L.length*L0.length<=1000000) {e0 e1 e2 e5 e6 e7 e8 e9 e10 iu:Option Ent}:
  ∃L' z6 z8 z9,leA [e0,e1,e2,vA (.lst (L0.map fW)),vA (.lst (L.map fW)),e5,e6,e7,e8,e9,e10,iu]= .nx [e0,e1,e2,vA (.lst (L0.map fW)),vA (.lst (L'.map fW)),e5,z6,none,z8,z9,none,none]/\Rd w h C (n+1) L'/\L'.length<=L.length*L0.length:=by
 obtain⟨z7,z8,z9,uJ,e⟩:=RL cg R0.len (L:=L) (acc:=[]) R1.len (by simpa using hn) (e0:=e0) (e1:=e1) (e2:=e2) (e4:=vA (.lst (L.map fW))) (e5:=e5) (e7:=e7) (e8:=e8) (e9:=e9) (e10:=e10) (iu:=iu);rw[List.nil_append] at e;have hlen:=Hz (F:=grow h L0) (k:=L0.length) (l:=L) λ _u _u=>RJ;have hne:∀p∈L.flatMap (grow h L0),p.1≠[]:=λ p hp z=>by
  obtain⟨q,hq,hp⟩:=List.mem_flatMap.mp hp;obtain⟨r,hr,_,rfl⟩:=Hy.mp hp;have:=R0.len r hr;have z:r.1=[]:=z;rw[z] at this;simp at this;omega
 obtain⟨L',e2',so,co,len⟩:=adU (iB:=11) (iC:=7) (iW:=10) (iM:=6) (iS:=4) (ρ:=[e0,e1,e2,vA (.lst (L0.map fW)),vA (.lst (L.map fW)),e5,some (.lst ((L.flatMap (grow h L0)).map fW)),z7,z8,z9,uJ,iu]) (l:=L.flatMap (grow h L0)) rfl hne (by omega);refine⟨L',_,z8,z9,aL (XR rfl) (aL (nj (jq rfl) e) e2'),⟨λ p hp=>?_,λ l c z=>?_⟩,by omega⟩
 ·obtain⟨q,hq,hp⟩:=List.mem_flatMap.mp (so p hp);obtain⟨r,hr,hlt,rfl⟩:=Hy.mp hp;obtain⟨a,A,ea,ec⟩:=(R0.so r hr).ahp;show Ch w h C (n+1) r.1 (q.2+r.2);rw[ea] at hlt;rw[ea,ec];exact (R1.so q hq).next A hlt
 ·obtain⟨l1,c1,r,z1,Q,rfl,hlt,rfl⟩:=z.inv;obtain⟨c2,h2,m2⟩:=R1.co l1 c1 z1;obtain⟨c3,h3,m3⟩:=R0.co _ _ (Ch.one (C:=C) Q);obtain⟨c4,h4,m4⟩:=co (bM h r,c2+c3) (List.mem_flatMap.mpr ⟨_,m2,Hy.mpr ⟨_,m3,hlt,rfl⟩⟩);have h4:c4<=c2+c3:=h4;exact⟨c4,by omega,m4⟩
theorem RM (hh:1<=h) (cg:h<=20) {L0:List Pr} (R0:Rd w h C 0 L0) (hL:L0.length<=36) {e0 e1 e2:Option Ent}:∀{ys:List Nat} {n:Nat} {L:List Pr} {e5 e6 e7 e8 e9 e10 iu:Option Ent},Rd w h C n L->L.length*36 ^ ys.length<=1000000->
  ∃L' z5 z6 z7 z8 z9 uJ z11,forL (aG 5) leA (ys.map λ (y:Nat)=>D.int (y:Int)) [e0,e1,e2,vA (.lst (L0.map fW)),vA (.lst (L.map fW)),e5,e6,e7,e8,e9,e10,iu]= .nx [e0,e1,e2,vA (.lst (L0.map fW)),vA (.lst (L'.map fW)),z5,z6,z7,z8,z9,uJ,z11]/\Rd w h C (n+ys.length) L'/\L'.length<=1000000
 |[],n,L,e5,e6,e7,e8,e9,e10,iu,R1,hn=>⟨L,e5,e6,e7,e8,e9,e10,iu,rfl,R1,by simpa using hn⟩
 | y::ys,n,L,e5,e6,e7,e8,e9,e10,iu,R1,hn=>by
  rw[List.length_cons,Nat.pow_succ] at hn;have hp:1<=36 ^ ys.length:=Nat.pos_of_ne_zero (by simp);have k1:L.length*L0.length<=L.length*36:=Nat.mul_le_mul_left _ hL;have k2:L.length*36*36 ^ ys.length<=1000000:=by rw[Nat.mul_assoc,Nat.mul_comm 36];exact hn
  have k3:L.length*36<=L.length*36*36 ^ ys.length:=Nat.le_mul_of_pos_right _ hp;obtain⟨L1,y6,y8,y9,e,R2,len⟩:=ahr hh cg R0 R1 (by omega) (e0:=e0) (e1:=e1) (e2:=e2) (e5:=vA (.int (y:Int))) (e6:=e6) (e7:=e7) (e8:=e8) (e9:=e9) (e10:=e10) (iu:=iu);have k4:L1.length*36 ^ ys.length<=L.length*36*36 ^ ys.length:=Nat.mul_le_mul_right _ (by omega);obtain⟨L',z5,z6,z7,z8,z9,uJ,z11,e',R3,len'⟩:=RM hh cg R0 hL (ys:=ys) (n:=n+1) (L:=L1) (e0:=e0) (e1:=e1) (e2:=e2) (e5:=vA (.int (y:Int))) (e6:=y6) (e7:=none) (e8:=y8) (e9:=y9) (e10:=none) (iu:=none) R2 (by omega);rw[show n+1+ys.length=n+(y::ys).length by rw[List.length_cons];omega] at R3;exact⟨L',z5,z6,z7,z8,z9,uJ,z11,fV rfl e e',R3,len'⟩
theorem ahs:∀{l:List Int} {a:Int},bestOf ltB (a::l)∈a::l/\∀t∈a::l,bestOf ltB (a::l)<=t:=λ {l}=>by
 induction l with
 |nil=>exact λ {a}=>⟨List.mem_cons_self ..,λ t ht=>by rw[List.mem_singleton.mp ht];exact Int.le_refl _⟩
 | cons b l ih=>
  intro a;have e:bestOf ltB (a::b::l)=bestOf ltB ((if ltB b a then b else a)::l):=rfl;rw[e];obtain⟨i1,i2⟩:=ih (a:=if ltB b a then b else a);have hc:(ltB b a=true/\b < a)\/(ltB b a=false/\a<=b):=by
   by_cases z:b < a
   ·exact .inl ⟨decide_eq_true z,z⟩
   ·exact .inr ⟨decide_eq_false z,by omega⟩
  have i0:=i2 _ (List.mem_cons_self ..);rcases hc with⟨hb,hlt⟩ |⟨hb,hlt⟩
  ·rw[hb,if_pos rfl] at i1 i2 i0 |-;refine⟨z2f _ i1,λ t ht=>?_⟩;rcases List.mem_cons.mp ht with rfl |ht
   ·omega
   ·exact i2 t ht
  ·rw [hb,if_neg Bool.false_ne_true] at i1 i2 i0 |-;refine⟨?_,λ t ht=>?_⟩
   ·rcases List.mem_cons.mp i1 with z |z
    ·rw[z];exact List.mem_cons_self ..
    ·exact z2f _ (z2f _ z)
   ·rcases List.mem_cons.mp ht with rfl |ht
    ·exact i0
    ·rcases List.mem_cons.mp ht with rfl |ht
     ·omega
     ·exact i2 t (z2f _ ht)
theorem min_eq {L:List Pr}:(L=[]/\rF (.lst (L.map λ p=>D.int p.2))= .ok .non)\/∃p∈L,rF (.lst (L.map λ p=>D.int p.2))= .ok (.int p.2)/\∀q∈L,p.2<=q.2:=by
 have e:intsOf (L.map λ p=>D.int p.2)=some (L.map (·.2)):=Ca (c:=λ p:Pr=>p.2) (l:=L);cases L with
 |nil=>exact .inl ⟨rfl,rfl⟩
 | cons a L=>
  obtain⟨i1,i2⟩:=ahs (l:=L.map (·.2)) (a:=a.2);have e2:rF (.lst ((a::L).map λ p=>D.int p.2))= .ok (.int (bestOf ltB (a.2::L.map (·.2)))):=by
   unfold rF;simp only[e];rfl
  obtain⟨p,hp,ep⟩:=List.mem_map.mp (show bestOf ltB (a.2::L.map (·.2))∈(a::L).map (·.2) from i1);refine .inr ⟨p,hp,by rw[e2,ep],λ q hq=>?_⟩;rw[ep];exact i2 q.2 (show q.2∈(a::L).map (·.2) from List.mem_map_of_mem hq)
theorem Rd.zero (hh:1<=h):Rd w h C 0 ((jL w (h - 1)).map λ l=>(l,wc C h l)):=by
 have hk:h - 1+1=h:=by omega
 refine⟨λ p hp=>?_,λ l c z=>?_⟩
 ·obtain⟨l,hl,rfl⟩:=List.mem_map.mp hp;obtain⟨q,Q,e⟩:=tE.mp hl;rw[hk] at Q e;show Ch w h C 0 l (wc C h l);rw[e,RD];exact .one Q
 ·obtain⟨q,Q,rfl,rfl⟩:=z.ahp;refine⟨wc C h (bM h q),by rw[RD];exact Int.le_refl _,List.mem_map.mpr ⟨_,tE.mpr ⟨q,?_⟩,rfl⟩⟩;rw[hk];exact⟨Q,rfl⟩
theorem adX (o:Ok w h f) (hw:w<=4) (h3:h<=3) (hn:n<=2):∃L,ig [cC w h f,.int ((n+1:Nat):Int)]=rF (.lst (L.map λ p=>D.int p.2))/\Rd w h (lN w h f) n L:=by
 have hh:=o.h1;have hk:h - 1+1=h:=by omega
 have hl:(jL w (h - 1)).length<=36:=by
  have h1:=Mz (w:=w) (k:=h - 1);have h2:3 ^ (h - 1)<=9:=by
   have:h - 1=0\/h - 1=1\/h - 1=2:=by omega
   rcases this with z |z |z <;> rw[z] <;> decide
  have:w*3 ^ (h - 1)<=4*9:=Nat.mul_le_mul hw h2;omega
 have R0:=Rd.zero (w:=w) (C:=lN w h f) hh;have hL:((jL w (h - 1)).map λ l=>(l,wc (lN w h f) h l)).length<=36:=by rw[z1g];exact hl
 have hp:36 ^ n<=1296:=by
  have:n=0\/n=1\/n=2:=by omega
  rcases this with rfl |rfl |rfl <;> decide
 obtain⟨L',z5,z6,z7,z8,z9,uJ,z11,e,R1,len⟩:=RM hh (by omega) R0 hL (ys:=List.range n) (n:=0) (e0:=vA (cC w h f)) (e1:=vA (.int ((n+1:Nat):Int))) (e2:=vA (.lst ((jL w (h - 1)).map tI))) (e5:=none) (e6:=none) (e7:=none) (e8:=none) (e9:=none) (e10:=none) (iu:=none) R0 (by
  rw[z2d];have:((jL w (h - 1)).map λ l=>(l,wc (lN w h f) h l)).length*36 ^ n<=36*1296:=Nat.mul_le_mul hL hp;omega)
 rw[z2d,Nat.zero_add] at R1;refine⟨L',?_,R1⟩;have er:aV 1 [0] (eO (gv 2)) (aG 0) tT (iI (ak (aF (bC eY 3) (ak (gv 1) (ak (λ _u=> .ok (.str "worth")) (ak (gv 0) nA)))) (ak (gv 0) nA))) [vA (cC w h f),vA (.int ((n+1:Nat):Int)),vA (.lst ((jL w (h - 1)).map tI)),none,none,none,none,none,none,none,none,none]= .ok (.lst (((jL w (h - 1)).map λ l=>(l,wc (lN w h f) h l)).map fW)):=by
  rw[List.map_map];refine cu (l:=jL w (h - 1)) (c:=tI) (jq rfl) (by omega) λ l hl=>cM rfl (f9 (aB (x:= .int (wc (lN w h f) h l)) ?_ (aA rfl)));obtain⟨q,Q,e⟩:=tE.mp hl;rw[hk] at Q e;rw[e,RD,<-JN,ait];exact bR (aB rfl (aB rfl (aA rfl))) (Gw o Q)
 have ef:(aV 2 [] (eO (gv 4)) (eU (eV 2 (bB (aG 0) (bB (aG 1) nilG)))) tT (gv 0)) [vA (cC w h f),vA (.int ((n+1:Nat):Int)),vA (.lst ((jL w (h - 1)).map tI)),vA (.lst (((jL w (h - 1)).map λ l=>(l,wc (lN w h f) h l)).map fW)),vA (.lst (L'.map fW)),z5,z6,z7,z8,z9,uJ,z11]= .ok (.lst (L'.map λ p=>D.int p.2)):=
  cu (l:=L') (c:=fW) (h:=λ p=>D.int p.2) (jq rfl) len λ p hp=>cM rfl rfl
 have fin:∀d,rF (.lst (L'.map λ p=>D.int p.2))= .ok d->ig [cC w h f,.int ((n+1:Nat):Int)]= .ok d:=λ d hd=>
  cN (aL (bx (bR (aB (len0 o rfl) (aA (aY (aA rfl) Gd))) (afw hw hh (by omega))) rfl) (aL (bx er rfl) (aL (bx rfl rfl) (aL (nj (iU (m:=n) (aA (aq (x:= .int ((n+1:Nat):Int)) (y:= .int 1) rfl rfl (Rn (by omega)))) (by omega)) e) (cH ((congrArg (λ z=>R.bind z rF) ef).trans hd))))))
 rcases min_eq (L:=L') with⟨_,q⟩ |⟨p,_,q,_⟩
 ·rw[q];exact fin _ q
 ·rw[q];exact fin _ q
end
end jP
namespace jP
open PySem PySem.Spec L2 Pu
open Fl (inn out gY dX mX gA)
section
variable {w h m n:Nat} {f C:Nat->Nat->Int} {s:Nat->Nat->Nat} {p:Nat->Int} {ρ:ao} {ns:List Int} {d:D} {k:Int}
theorem uK (o:Ok w h f) (h1:1<=m) (h6:m<=6):dY [cC w h f,.int (m:Int)]= .ok .non:=
 aew (aL (sX (eE (aA rfl) (Ms o))) (fD (Jp (uo (bf (bR (aA rfl) Gv))) (uo (bf (Qy rfl rfl (Ae (by omega)) rfl (Ae (by omega)))))) rfl))
theorem zu {a b:Nat}:pC (.int (a:Int)) (.int (b:Int))= .ok (.bl (decide (b < a))):=by
 show R.ok (D.bl (decide ((b:Int) < (a:Int))))=_;simp
theorem Vo (o:Ok w h f) (h1:1<=m) (h6:m<=6) (hm:w < m):dJ [cC w h f,.int (m:Int)]= .ok .non:=by
 refine cN (aL (sX (eE (aB rfl (aA rfl)) (uK o h1 h6))) (sY (jC (bf (b:=true) (aq rfl (wg o.h1 rfl) ?_)) (cH rfl))));rw[zu,decide_eq_true hm]
theorem abR (o:Ok w h f) (h1:1<=m) (h6:m<=6) (hm:w < m):iK [cC w h f,.int (m:Int)]= .ok .non:=by
 refine cN (aL (sX (eE (aB rfl (aA rfl)) (uK o h1 h6))) (aL (bx (wg o.h1 rfl) rfl) (sY (jC (bf (b:=true) (aq rfl rfl ?_)) (cH rfl)))));rw[zu,decide_eq_true hm]
theorem Vp (o:Ok w h f) (h1:1<=m) (h6:m<=6) (hm:m<=w) {d:D} (e:oA [cC w h (lN w h f),.int (m:Int)]= .ok (.tup [sG h m s,d])):dJ [cC w h f,.int (m:Int)]= .ok (sG h m s):=by
 refine cN (aL (sX (eE (aB rfl (aA rfl)) (uK o h1 h6))) (aL (fD (bf (b:=false) (aq rfl (wg o.h1 rfl) ?_)) rfl) (cH (aq (bR (aB (eE (aA rfl) (abF o)) (aA rfl)) e) rfl rfl))));rw[zu,decide_eq_false (by omega)]
noncomputable def MJ:List D:=[.int 0,.int 7,.non,.bl true,.str "2",.tup [.int 1]]
theorem RN (o:Ok w h f) (hd:d∈MJ):dY [cC w h f,d]= .err "NoNumber" :=by
 have ht:Qi (rW (bH (aF (bC gD 1) (ak (gv 1) nA)))) (rW (bH (Jh (ci 1) (gv 1) (ci 6) BX BX))) [vA (cC w h f),vA d]= .ok true:=by
  simp only[MJ,List.mem_cons,List.not_mem_nil,or_false] at hd;rcases hd with rfl |rfl |rfl |rfl |rfl |rfl <;> rfl
 exact uq (aL (sX (eE (aA rfl) (Ms o))) (jC ht rfl))
theorem RP (o:Ok w h f) (hd:d∈MJ):dJ [cC w h f,d]= .err "NoNumber" :=uq (Cp (qC (eE (aB rfl (aA rfl)) (RN o hd))))
theorem Zf (o:Ok w h f) (hd:d∈MJ):iK [cC w h f,d]= .err "NoNumber" :=uq (Cp (qC (eE (aB rfl (aA rfl)) (RN o hd))))
noncomputable abbrev bad:D:= .tup [.tup [.int 100]]
theorem adY:cU [bad]= .err "NoPicture" :=by
 have e:jG [bad]= .ok (.bl false):=by rfl
 exact uq (jC (uo (b:=false) (bf (bR (aA rfl) e))) rfl)
theorem RQ:dY [bad,d]= .err "NoPicture" :=uq (Cp (qC (eE (aA rfl) adY)))
theorem RT:dJ [bad,d]= .err "NoPicture" :=uq (Cp (qC (eE (aB rfl (aA rfl)) RQ)))
theorem Zg:iK [bad,d]= .err "NoPicture" :=uq (Cp (qC (eE (aB rfl (aA rfl)) RQ)))
theorem aeI {c:Str} {a:D} (h1:dJ [a,d]= .err c) (h2:iK [a,d]= .err c) (hs:jF c "SeamError" =true) (hc:jF c c=true):pA [.int k,a,d]= .ok (.lst [.bl (jF c "NoPicture"),.bl (jF c "NoNumber")]):=by
 have e:(jB (bH (bin (gv 0) (ci 0) qm)) (mW (aF (okN dJ 2) (ak (gv 1) (ak (gv 2) nA)))) (mW (aF (okN iK 2) (ak (gv 1) (ak (gv 2) nA))))) [vA (.int k),vA a,vA d,none]= .ex c [vA (.int k),vA a,vA d,none]:=by
  by_cases z:k=0
  ·exact jC (bf (aq rfl rfl (Mt.trans (by rw[decide_eq_true z])))) (qC (eE (aB rfl (aA rfl)) h1))
  ·exact fD (bf (aq rfl rfl (Mt.trans (by rw[decide_eq_false z])))) (qC (eE (aB rfl (aA rfl)) h2))
 exact cN (sY (agF e hs (cH (gj (aB (QS rfl hc) (aA (QS rfl hc)))))))
theorem JQ {b:Bool}:m9 (.bl b) (.bl b)= .ok (.bl false):=um rfl (by simp[dep])
theorem abS {u v:D}:mulL (.lst [.lst [u,v]]) (.int 2)= .ok (.lst [.lst [u,v],.lst [u,v]]):=by
 show (if ([D.lst [u,v]]:List D)≠[]/\(1:Int)<=2/\(2:Int) < 2 ^ 63/\([D.lst [u,v]]:List D).length*(2:Int).toNat<=1000000 then R.ok (D.lst (List.replicate (2:Int).toNat [D.lst [u,v]]).flatten) else .bad)=_;rw[if_pos ⟨(λ z=>List.cons_ne_nil _ _ z),by decide,by decide,show 1*2<=1000000 from by decide⟩];rfl
theorem abT (hns:ns.length<=1000000) (o:Ok w h f) (hw:w<=4) {e2 e3 e4:Option Ent}:lwT [vA (.lst (ns.map .int)),vA (cC w h f),e2,e3,e4,none]= .rt (.bl true):=by
 obtain⟨d1,a1,a2⟩:=zQ (k:=41) (m:=6) hns (by omega) (by omega);obtain⟨d,hd,ed⟩:=Lr (xs:=MJ) a1 a2;refine aL (bx (d:=d) (aq (x:= .lst MJ) (gj rfl) (bR (aB rfl (aB rfl (aA rfl))) d1) (Jr ed)) rfl) (aL (fD (bf (aq (x:= .lst [.lst [.bl false,.bl true],.lst [.bl false,.bl true]]) ?_ (aq (x:= .lst [.lst [.bl false,.bl true]]) (y:= .int 2) (gj (aA (gj rfl))) rfl abS) (um rfl (by simp[dep,deps])))) rfl) (aL (fD (bf (aq (x:= .lst [.lst [.bl true,.bl false],.lst [.bl true,.bl false]]) ?_ (aq (x:= .lst [.lst [.bl true,.bl false]]) (y:= .int 2) (gj (aA (gj rfl))) rfl abS) (um rfl (by simp[dep,deps])))) rfl) (cH (aq (eE (aB rfl (aA rfl)) (abR (m:=6) o (by omega) (by omega) (by omega))) rfl rfl))))
 ·exact cu (l:=List.range 2) (c:=λ (i:Nat)=>D.int (i:Int)) (h:=λ _u=> .lst [.bl false,.bl true]) (iU (m:=2) (aA rfl) (by decide)) (by decide) λ i hi=>cM rfl (bR (aB rfl (aB rfl (aA rfl))) (aeI (RP o hd) (Zf o hd) (by decide) (by decide)))
 ·exact cu (l:=List.range 2) (c:=λ (i:Nat)=>D.int (i:Int)) (h:=λ _u=> .lst [.bl true,.bl false]) (iU (m:=2) (aA rfl) (by decide)) (by decide) λ i hi=>cM rfl (bR (aB rfl (aB (x:=bad) (f9 (aA (f9 (aA rfl)))) (aA rfl))) (aeI RT Zg (by decide) (by decide)))
end
theorem adZ (ns:List Int) (hns:ns.length<=63):Qd [.lst (ns.map .int)]= .ok (.bl true):=by
 have hn:ns.length<=1000000:=by omega
 obtain⟨w,h,f,e0,o,hw,hh⟩:=afb (ns:=ns) hn;obtain⟨d1,a1,a2⟩:=zQ (k:=40) (m:=3) hn (by omega) (by omega);obtain⟨n,em⟩:=Int.eq_ofNat_of_zero_le (show 0<=dr ns 40 3 by omega);have em:1+dr ns 40 3=((n+1:Nat):Int):=by omega
 have n2:n<=2:=by omega
 have e2:(bin (ci 1) (aF (bC bZ 3) (ak (gv 0) (ak (ci 40) (ak (ci 3) nA)))) cR) [vA (.lst (ns.map .int)),vA (cC w h f),none,none,none,none]= .ok (.int ((n+1:Nat):Int)):=
  aq rfl (bR (aB rfl (aB rfl (aA rfl))) d1) (congrArg (λ z=>R.ok (D.int z)) em)
 obtain⟨L,eL,R1⟩:=adX o hw hh n2;by_cases hm:n+1<=w
 ·obtain⟨s,p,ef,I⟩:=afs (C:=lN w h f) o.w1 o.h1 o.w2 o.h2 (show 1<=n+1 by omega) hm (λ x y hx hy=>(abM o hx hy).1) (aft o);have el:ig [cC w h f,.int ((n+1:Nat):Int)]= .ok (.int (Fl.sm (n+1) λ i=>Fl.sm h λ y=>lN w h f y (s i y))):=by
   obtain⟨c',h1,m1⟩:=R1.co _ _ (Ch.of I);rcases min_eq (L:=L) with⟨z,_⟩ |⟨q,hq,e,hle⟩
   ·rw[z] at m1;cases m1
   ·have h2:=(R1.so q hq).ge o.h1 I;have h3:=hle _ m1;have h3:q.2<=c':=h3;rw[eL,e,show q.2=Fl.sm (n+1) λ i=>Fl.sm h λ y=>lN w h f y (s i y) by omega]
  have et:(bin (gv 2) (aF bW (ak (bin (gv 1) (ci 0) bD) nA)) pC) (cG [vA (.lst (ns.map .int)),vA (cC w h f),vA (.int ((n+1:Nat):Int)),vA (sG h (n+1) s),vA (.int (Fl.sm (n+1) λ i=>Fl.sm h λ y=>lN w h f y (s i y))),none])= .ok (.bl false):=
   aq rfl (wg o.h1 rfl) (by rw[zu,decide_eq_false (by omega)])
  refine cN (aL (bx (bR (aB rfl (aB rfl (aB rfl (aA rfl)))) e0) rfl) (aL (bx e2 rfl) (aL (Lx (eE (aB rfl (aA rfl)) (Vp o (by omega) (by omega) hm ef)) (bR (aB rfl (aA rfl)) el)) (aL (fD (Jp (bf (aq (x:= .bl false) (aq rfl rfl rfl) (aq rfl rfl rfl) JQ)) (bf (aq (x:= .bl false) (aq rfl rfl rfl) et JQ))) rfl) (aL (fD (sW (bf (b:=true) (aq rfl rfl rfl)) (bf (aq (x:= .int (Fl.sm (n+1) λ i=>Fl.sm h λ y=>lN w h f y (s i y))) ?_ rfl (XJ rfl)))) rfl) (abT hn o hw))))));refine aY (aA (x:= .lst ((List.range (n+1)).map λ i=>D.int (Fl.sm h λ y=>lN w h f y (s i y)))) ?_) (by rw[Xc,JN]);refine cu (l:=List.range (n+1)) (c:=λ i=>sm h (s i)) (jq rfl) (by rw[z2d];omega) λ i hi=>cM rfl ?_;have ec:eY [cC w h f,.str "worth",sm h (s i)]= .ok (.int (Fl.sm h λ y=>lN w h f y (s i y))):=by
   rw[<-JN];exact Gw o (I.seam (z2e hi))
  exact bR (aB rfl (aB rfl (aA rfl))) ec
 ·have el:ig [cC w h f,.int ((n+1:Nat):Int)]= .ok .non:=by
   rcases min_eq (L:=L) with⟨_,e⟩ |⟨q,hq,e,_⟩
   ·rw[eL,e]
   ·have:=(R1.so q hq).room o.h1;omega
  have et:(bin (gv 2) (aF bW (ak (bin (gv 1) (ci 0) bD) nA)) pC) (cG [vA (.lst (ns.map .int)),vA (cC w h f),vA (.int ((n+1:Nat):Int)),vA .non,vA .non,none])= .ok (.bl true):=
   aq rfl (wg o.h1 rfl) (by rw[zu,decide_eq_true (by omega)])
  exact cN (aL (bx (bR (aB rfl (aB rfl (aB rfl (aA rfl)))) e0) rfl) (aL (bx e2 rfl) (aL (Lx (eE (aB rfl (aA rfl)) (Vo o (by omega) (by omega) (by omega))) (bR (aB rfl (aA rfl)) el)) (aL (fD (Jp (bf (aq (x:= .bl true) (aq rfl rfl rfl) (aq rfl rfl rfl) JQ)) (bf (aq (x:= .bl true) (aq rfl rfl rfl) et JQ))) rfl) (aL (fD (FJ (bf (b:=false) (aq rfl rfl rfl))) rfl) (abT hn o hw))))))
end jP
namespace jP
open PySem PySem.Spec L2 Pu
open PyProof.Rows hiding St
theorem uL {us:List Value} {n:Nat} (hl:us.length=n+1):∃a u,us=a::u/\u.length=n:=by
 cases us with
 |nil=>cases hl
 |cons a u=>exact⟨a,u,rfl,Nat.succ.inj hl⟩
theorem Dj {F:FuncData} {ps:List Str} {us:List Value} (hl:us.length=1) (h:∀a0,bindArgs F ⟨[a0],[]⟩=pure (ps.zip [a0])):bindArgs F ⟨us,[]⟩=pure (ps.zip us):=by
 obtain⟨a0,u1,rfl,h1⟩:=uL hl;cases List.eq_nil_of_length_eq_zero h1;exact h a0
theorem BJ {F:FuncData} {ps:List Str} {us:List Value} (hl:us.length=2) (h:∀a0 a1,bindArgs F ⟨[a0,a1],[]⟩=pure (ps.zip [a0,a1])):bindArgs F ⟨us,[]⟩=pure (ps.zip us):=by
 obtain⟨a0,u1,rfl,h1⟩:=uL hl;obtain⟨a1,u2,rfl,h2⟩:=uL h1;cases List.eq_nil_of_length_eq_zero h2;exact h a0 a1
theorem RV {F:FuncData} {ps:List Str} {us:List Value} (hl:us.length=3) (h:∀a0 a1 a2,bindArgs F ⟨[a0,a1,a2],[]⟩=pure (ps.zip [a0,a1,a2])):bindArgs F ⟨us,[]⟩=pure (ps.zip us):=by
 obtain⟨a0,u1,rfl,h1⟩:=uL hl;obtain⟨a1,u2,rfl,h2⟩:=uL h1;obtain⟨a2,u3,rfl,h3⟩:=uL h2;cases List.eq_nil_of_length_eq_zero h3;exact h a0 a1 a2
theorem lk4 {F:FuncData} {ps:List Str} {us:List Value} (hl:us.length=4) (h:∀a0 a1 a2 a3,bindArgs F ⟨[a0,a1,a2,a3],[]⟩=pure (ps.zip [a0,a1,a2,a3])):bindArgs F ⟨us,[]⟩=pure (ps.zip us):=by
 obtain⟨a0,u1,rfl,h1⟩:=uL hl;obtain⟨a1,u2,rfl,h2⟩:=uL h1;obtain⟨a2,u3,rfl,h3⟩:=uL h2;obtain⟨a3,u4,rfl,h4⟩:=uL h3;cases List.eq_nil_of_length_eq_zero h4;exact h a0 a1 a2 a3
theorem lk5 {F:FuncData} {ps:List Str} {us:List Value} (hl:us.length=5) (h:∀a0 a1 a2 a3 a4,bindArgs F ⟨[a0,a1,a2,a3,a4],[]⟩=pure (ps.zip [a0,a1,a2,a3,a4])):bindArgs F ⟨us,[]⟩=pure (ps.zip us):=by
 obtain⟨a0,u1,rfl,h1⟩:=uL hl;obtain⟨a1,u2,rfl,h2⟩:=uL h1;obtain⟨a2,u3,rfl,h3⟩:=uL h2;obtain⟨a3,u4,rfl,h4⟩:=uL h3;obtain⟨a4,u5,rfl,h5⟩:=uL h4;cases List.eq_nil_of_length_eq_zero h5;exact h a0 a1 a2 a3 a4
noncomputable def top (i:Nat):Stmt:=PySem.Challenge.pw_seamhall_k45_together.main.body.getD i (.Pass ⟨0,0,0,0⟩)
noncomputable abbrev jR:Stmt:=top 41
theorem Zh:FnScope ["_law_picture_here","_law_x","_law_y"] ["_law_picture_here","_law_x","_law_y"] (defScope jR):=⟨rfl,rfl,rfl,by decide +kernel,rfl,by decide +kernel,by decide +kernel⟩
noncomputable abbrev gF:Stmt:=top 42
theorem uM:FnScope ["_law_picture_here","_law_mode","_law_x","_law_y","_law_before","_law_found"] ["_law_picture_here","_law_mode","_law_x","_law_y","_law_before"] (defScope gF):=⟨rfl,rfl,rfl,by decide +kernel,rfl,by decide +kernel,by decide +kernel⟩
noncomputable abbrev gG:Stmt:=top 43
theorem Dk:FnScope ["_law_picture_here","_law_mode","_law_seam","_law_befores"] ["_law_picture_here","_law_mode","_law_seam"] (defScope gG):=⟨rfl,rfl,rfl,by decide +kernel,rfl,by decide +kernel,by decide +kernel⟩
noncomputable abbrev fH:Stmt:=top 38
theorem dj:FnScope ["_law_script","_law_k","_law_many","_law_cell","_law_turn","_law_rest"] ["_law_script","_law_k","_law_many"] (defScope fH):=⟨rfl,rfl,rfl,by decide +kernel,rfl,by decide +kernel,by decide +kernel⟩
noncomputable abbrev gH:Stmt:=top 44
theorem jH:FnScope ["_law_broad","_law_tall","_law_found","_law_y","_law_more","_law_way"] ["_law_broad","_law_tall"] (defScope gH):=⟨rfl,rfl,rfl,by decide +kernel,rfl,by decide +kernel,by decide +kernel⟩
noncomputable abbrev fJ:Stmt:=top 46
theorem dD:FnScope ["_law_picture_here","_law_many","_law_ways_here","_law_rows","_law_sets","_law_time","_law_more","_law_cost_here","_law_last","_law_other","_law_way","_law_best"] ["_law_picture_here","_law_many"] (defScope fJ):=⟨rfl,rfl,rfl,by decide +kernel,rfl,by decide +kernel,by decide +kernel⟩
noncomputable abbrev pL:Stmt:=top 19
theorem afy:FnScope ["place","wide"] ["place","wide"] (defScope pL):=⟨rfl,rfl,rfl,by decide +kernel,rfl,by decide +kernel,by decide +kernel⟩
noncomputable abbrev gJ:Stmt:=top 25
theorem RW:FnScope ["x","y","wide"] ["x","y","wide"] (defScope gJ):=⟨rfl,rfl,rfl,by decide +kernel,rfl,by decide +kernel,by decide +kernel⟩
noncomputable abbrev gK:Stmt:=top 26
theorem jJ:FnScope ["costs","taken","wide","arcs","y","row","x","cost","into"] ["costs","taken"] (defScope gK):=⟨rfl,rfl,rfl,by decide +kernel,rfl,by decide +kernel,by decide +kernel⟩
noncomputable abbrev jT:Stmt:=top 27
theorem jU:FnScope ["costs","seams","arcs","seam","beneath","y","into"] ["costs","seams"] (defScope jT):=⟨rfl,rfl,rfl,by decide +kernel,rfl,by decide +kernel,by decide +kernel⟩
noncomputable abbrev cV:Stmt:=top 30
theorem fK:FnScope ["taken","ahead","wide","node","before","cell","y","x"] ["taken","ahead"] (defScope cV):=⟨rfl,rfl,rfl,by decide +kernel,rfl,by decide +kernel,by decide +kernel⟩
noncomputable abbrev cY:Stmt:=top 31
theorem uN:FnScope ["taken","many","rows"] ["taken","many"] (defScope cY):=⟨rfl,rfl,rfl,by decide +kernel,rfl,by decide +kernel,by decide +kernel⟩
noncomputable abbrev iY:Stmt:=top 28
theorem kJ:FnScope ["arcs","many","least","ahead","changed","node","following","cost"] ["arcs","many"] (defScope iY):=⟨rfl,rfl,rfl,by decide +kernel,rfl,by decide +kernel,by decide +kernel⟩
noncomputable abbrev fL:Stmt:=top 29
theorem Gx:FnScope ["seams","wide","high","rows"] ["seams","wide","high"] (defScope fL):=⟨rfl,rfl,rfl,by decide +kernel,rfl,by decide +kernel,by decide +kernel⟩
noncomputable abbrev pN:Stmt:=top 32
theorem zx:FnScope ["costs","many","wide","high","seams","least","taken","arcs","ahead"] ["costs","many"] (defScope pN):=⟨rfl,rfl,rfl,by decide +kernel,rfl,by decide +kernel,by decide +kernel⟩
noncomputable abbrev iZ:Stmt:=top 7
theorem Vq:FnScope ["thing"] ["thing"] (defScope iZ):=⟨rfl,rfl,rfl,by decide +kernel,rfl,by decide +kernel,by decide +kernel⟩
noncomputable abbrev jV:Stmt:=top 9
theorem Zi:FnScope ["thing"] ["thing"] (defScope jV):=⟨rfl,rfl,rfl,by decide +kernel,rfl,by decide +kernel,by decide +kernel⟩
noncomputable abbrev jW:Stmt:=top 8
theorem Zj:FnScope ["thing"] ["thing"] (defScope jW):=⟨rfl,rfl,rfl,by decide +kernel,rfl,by decide +kernel,by decide +kernel⟩
noncomputable abbrev lY:Stmt:=top 10
theorem abU:FnScope ["thing"] ["thing"] (defScope lY):=⟨rfl,rfl,rfl,by decide +kernel,rfl,by decide +kernel,by decide +kernel⟩
noncomputable abbrev fM:Stmt:=top 11
theorem Oi:FnScope ["thing"] ["thing"] (defScope fM):=⟨rfl,rfl,rfl,by decide +kernel,rfl,by decide +kernel,by decide +kernel⟩
noncomputable abbrev dN:Stmt:=top 12
theorem JR:FnScope ["thing"] ["thing"] (defScope dN):=⟨rfl,rfl,rfl,by decide +kernel,rfl,by decide +kernel,by decide +kernel⟩
noncomputable abbrev gM:Stmt:=top 33
theorem RX:FnScope ["picture","many"] ["picture","many"] (defScope gM):=⟨rfl,rfl,rfl,by decide +kernel,rfl,by decide +kernel,by decide +kernel⟩
noncomputable abbrev jd:Stmt:=top 35
theorem Vr:FnScope ["cost","least","into"] ["cost","least","into"] (defScope jd):=⟨rfl,rfl,rfl,by decide +kernel,rfl,by decide +kernel,by decide +kernel⟩
noncomputable abbrev pO:Stmt:=top 16
theorem Yl:FnScope ["line","last"] ["line"] (defScope pO):=⟨rfl,rfl,rfl,by decide +kernel,rfl,by decide +kernel,by decide +kernel⟩
noncomputable abbrev jX:Stmt:=top 13
theorem Zk:FnScope ["picture"] ["picture"] (defScope jX):=⟨rfl,rfl,rfl,by decide +kernel,rfl,by decide +kernel,by decide +kernel⟩
noncomputable abbrev lZ:Stmt:=top 14
theorem NP:FnScope ["picture","wide","high"] ["picture"] (defScope lZ):=⟨rfl,rfl,rfl,by decide +kernel,rfl,by decide +kernel,by decide +kernel⟩
noncomputable abbrev mj:Stmt:=top 17
theorem wk:FnScope ["picture","wide","high","across","down"] ["picture"] (defScope mj):=⟨rfl,rfl,rfl,by decide +kernel,rfl,by decide +kernel,by decide +kernel⟩
noncomputable abbrev mq:Stmt:=top 36
theorem rQ:FnScope ["picture","many","wide","costs","seams","least","table"] ["picture","many"] (defScope mq):=⟨rfl,rfl,rfl,by decide +kernel,rfl,by decide +kernel,by decide +kernel⟩
noncomputable abbrev jg:Stmt:=top 34
theorem Vs:FnScope ["picture","many"] ["picture","many"] (defScope jg):=⟨rfl,rfl,rfl,by decide +kernel,rfl,by decide +kernel,by decide +kernel⟩
noncomputable abbrev jY:Stmt:=top 45
theorem JT:FnScope ["_law_way","_law_picture_here","_law_many","e"] ["_law_way","_law_picture_here","_law_many"] (defScope jY):=⟨rfl,rfl,rfl,by decide +kernel,rfl,by decide +kernel,by decide +kernel⟩
noncomputable abbrev dO:Stmt:=top 39
theorem pP:FnScope ["_law_script","_law_at_here","_law_broad","_law_tall","_law_most","_law_rows","_law_y"] ["_law_script","_law_at_here","_law_broad","_law_tall"] (defScope dO):=⟨rfl,rfl,rfl,by decide +kernel,rfl,by decide +kernel,by decide +kernel⟩
noncomputable abbrev gO:Stmt:=top 40
theorem RZ:FnScope ["_law_script","_law_at_here","_law_broad","_law_tall"] ["_law_script","_law_at_here","_law_broad","_law_tall"] (defScope gO):=⟨rfl,rfl,rfl,by decide +kernel,rfl,by decide +kernel,by decide +kernel⟩
noncomputable abbrev pQ:Stmt:=top 47
theorem Dl:FnScope ["_law_script","_law_picture_here","_law_many","_law_told","_law_due","_law_odd"] ["_law_script"] (defScope pQ):=⟨rfl,rfl,rfl,by decide +kernel,rfl,by decide +kernel,by decide +kernel⟩
structure Txt (K:PySem.W.Frag) (mg:Str->Option Value):Prop where
 wu:∃t,mg "END" =some (.int 1 t)
 JV:∃t,mg "FAR" =some (.int 1000000 t)
 oG:∃t,mg "MOST_CELL" =some (.int 99 t)
 oH:∃t,mg "MOST_LONG" =some (.int 20 t)
 jZ:∃t,mg "MOST_TOGETHER" =some (.int 6 t)
 qK:∃t,mg "START" =some (.int 0 t)
 wz:mg "abs" =none
 Ah:mg "all" =none
 Dm:mg "bool" =none
 eZ:mg "enumerate" =none
 JW:mg "int" =none
 fQ:mg "isinstance" =none
 cT:mg "len" =none
 Dn:mg "list" =none
 sJ:mg "max" =none
 rG:mg "min" =none
 cQ:mg "range" =none
 pR:mg "reversed" =none
 Gi:mg "sum" =none
 iG:mg "tuple" =none
 JX:mg "zip" =none
 JZ:∀d:D,PySem.W.kitOne K (.type (m8 d)) (.type "int")=some (Fz (m8 d))
 Dq:∀d:D,PySem.W.kitOne K (.type (m8 d)) (.type "bool")=some (zO (m8 d))
 zy:∀d:D,PySem.W.kitOne K (.type (m8 d)) (.type "tuple")=some (vX (m8 d))
 J0:∀d:D,PySem.W.kitOne K (.type (m8 d)) (.type "list")=some (Qw (m8 d))
 Ai:∃C,XCl K mg "NoNumber" C
 wV:∃C,XCl K mg "NoPicture" C
 wW:∃C,mg "SeamError" =some (.ref C)/\∀c C',jF c "SeamError" =true->PySem.W.nsIn K mainGlobals c=some (some (.ref C'))->PySem.W.exmOne K (.ref C') (.ref C)=some true
 pU:∃C,mg "NoNumber" =some (.ref C)/\∀c C',jF c c=true->PySem.W.nsIn K mainGlobals c=some (some (.ref C'))->Gk K C'/\PySem.W.kitOne K (.ref C') (.ref C)=some (jF c "NoNumber")
 oJ:∃C,mg "NoPicture" =some (.ref C)/\∀c C',jF c c=true->PySem.W.nsIn K mainGlobals c=some (some (.ref C'))->Gk K C'/\PySem.W.kitOne K (.ref C') (.ref C)=some (jF c "NoPicture")
section
variable {P:Program} {w:World} {K:PySem.W.Frag} {mg:Str->Option Value} {base:Heap} {f:Addr} {cdv:Value} {A:Around} {outer:List PySem.Env} {s:Shared} {H:Hp} {E:XK}
theorem Zm (T:Txt K mg)  (hr:Room 0 (A.deeper (envOfC "_law_at" (defScope jR) s.heap.objs.size f cdv))):c7 (cxOf CX0 P w K mg base ["_law_picture_here","_law_x","_law_y"] "_law_at" (defScope jR) f cdv A outer s H E).nox (defBody jR) CQ:=by
 exact (aO (bK (bF (bF (dv 0) (aQ (Cd rfl) rfl T.sJ boot_max (aj aD (aj (aQ (Ce rfl) rfl T.rG boot_min (aj (aH dU (aQ cP rfl T.cT PySem.boot_len (aj (dv 0) au)) aD) (aj (dv 2) au))) au)))) (aQ (Cd rfl) rfl T.sJ boot_max (aj aD (aj (aQ (Ce rfl) rfl T.rG boot_min (aj (aH dU (aQ cP rfl T.cT PySem.boot_len (aj (bF (dv 0) aD) au)) aD) (aj (dv 1) au))) au))))))
theorem Zn {f:Addr} {fd:FuncData} (Fn:Fun K "_law_at" "_law_at" jR f fd) (hmg:mg "_law_at" =some (.ref f)) (hb:Binds K fd ["_law_picture_here","_law_x","_law_y"] []) (T:Txt K mg)  :aW P w K mg base 1 "_law_at" 3 gZ:=
 dg (k:=0) (g:=CQ) Fn hmg hb Zh rfl rfl λ cdv A outer s H E hr=>Zm T  hr
theorem R4 (T:Txt K mg) (lO:aW P w K mg base 1 "_law_at" 3 gZ) (hr:Room 1 (A.deeper (envOfC "_law_step" (defScope gF) s.heap.objs.size f cdv))):c7 (cxOf CX0 P w K mg base ["_law_picture_here","_law_mode","_law_x","_law_y","_law_before","_law_found"] "_law_step" (defScope gF) f cdv A outer s H E).nox (defBody gF) wL:=by
 exact (aJ (bL 5 uM.nd (aQ Jt rfl T.wz boot_abs (aj (aH dU (bQ lO hr (by decide) (aj (dv 0) (aj (aH dU (dv 2) aD) (aj (dv 3) au)))) (bQ lO hr (by decide) (aj (dv 0) (aj (aH bU (dv 2) aD) (aj (dv 3) au))))) au))) (aJ (iV (cL (Jm (lq hr)) (dv 1) yO) (aO (bK (aH bU (dv 5) (aQ Jt rfl T.wz boot_abs (aj (aH dU (bQ lO hr (by decide) (aj (dv 0) (aj (dv 2) (aj (aH dU (dv 3) aD) au)))) (bQ lO hr (by decide) (aj (dv 0) (aj (dv 2) (aj (aH bU (dv 3) aD) au))))) au))))) d9) (aJ (iV (DW.dt (BZ (cL QC (dv 4) nU) (yP (cL (vV (lq hr)) (dv 4) (dv 2))))) (aO (bL 5 uM.nd (aH bU (dv 5) (aQ Jt rfl T.wz boot_abs (aj (aH dU (bF (bF (dv 0) (aH dU (dv 3) aD)) (dv 2)) (bF (bF (dv 0) (dv 3)) (ah8 (cL Fq (dv 4) (dv 2)) (aH dU (dv 2) aD) (aH bU (dv 2) aD)))) au))))) d9) (aO (bK (dv 5))))))
theorem R5 {f:Addr} {fd:FuncData} (Fn:Fun K "_law_step" "_law_step" gF f fd) (hmg:mg "_law_step" =some (.ref f)) (hb:Binds K fd ["_law_picture_here","_law_mode","_law_x","_law_y","_law_before"] []) (T:Txt K mg) (lO:aW P w K mg base 1 "_law_at" 3 gZ):aW P w K mg base 2 "_law_step" 5 mO:=
 dg (k:=1) (g:=wL) Fn hmg hb uM rfl rfl λ cdv A outer s H E hr=>R4 T lO hr
theorem R6 (T:Txt K mg) (oK:aW P w K mg base 2 "_law_step" 5 mO) (hr:Room 2 (A.deeper (envOfC "_law_cost" (defScope gG) s.heap.objs.size f cdv))):c7 (cxOf CX0 P w K mg base ["_law_picture_here","_law_mode","_law_seam","_law_befores"] "_law_cost" (defScope gG) f cdv A outer s H E).nox (defBody gG) wM:=by
 exact (aJ (bL 3 Dk.nd (aH bU (d8 (aj nU au)) (adg (dv 2) ade (adf (Cg aD))))) (aO (bK (aQ (aaX rfl) rfl T.Gi boot_sum (aj (cJ ["_law_y","_law_x"] [3,1,0] rfl (by kernel_rfl) (by kernel_rfl) (sZ rfl T.eZ (aj (dv 2) au)) (oY (dZ (aR (by decide)) (dZ (aR (by decide)) oX))) (λ _u _u _u _u nd=>yR rfl (iJ (bA 0 nd) (iJ (bA 1 nd) sS))) (λ _u _u _u _u=>bO) (λ _u _u _u _u=>(bQ oK hr (by decide) (aj (dv 4) (aj (dv 3) (aj (dv 1) (aj (dv 0) (aj (bF (dv 2) (dv 0)) au)))))))) au)))))
theorem R7 {f:Addr} {fd:FuncData} (Fn:Fun K "_law_cost" "_law_cost" gG f fd) (hmg:mg "_law_cost" =some (.ref f)) (hb:Binds K fd ["_law_picture_here","_law_mode","_law_seam"] []) (T:Txt K mg) (oK:aW P w K mg base 2 "_law_step" 5 mO):aW P w K mg base 3 "_law_cost" 3 eY:=
 dg (k:=2) (g:=wM) Fn hmg hb Dk rfl rfl λ cdv A outer s H E hr=>R6 T oK hr
theorem Oj (T:Txt K mg)  (hr:Room 0 (A.deeper (envOfC "_law_drawn" (defScope fH) s.heap.objs.size f cdv))):c7 (cxOf CX0 P w K mg base ["_law_script","_law_k","_law_many","_law_cell","_law_turn","_law_rest"] "_law_drawn" (defScope fH) f cdv A outer s H E).nox (defBody fH) uD:=by
 exact (aJ (bL 3 dj.nd (aH rJ aD (dv 1))) (aJ (iV (cL (vV (lq hr)) (dv 0) (gR au)) (aJ (bL 3 dj.nd (bF (dv 0) (aH pD (dv 1) (aQ cP rfl T.cT PySem.boot_len (aj (dv 0) au))))) (aJ (bL 4 dj.nd (aH mY (dv 1) (aQ cP rfl T.cT PySem.boot_len (aj (dv 0) au)))) (aJ (iV (DW.dt (BZ (cL aeu (dv 3) (aH aaP aD aD)) (yP (cL Fq (dv 4) aD)))) (aJ (bL 5 dj.nd (aH mY (dv 3) (aH aaP aD aD))) (aJ (G9 64 PassesOwn.never (DW.dt (BZ (cL Ft (dv 5) aD) (yP (cL Ft (dv 4) aD)))) (aJ (bL 5 dj.nd (aH mY (dv 5) aD)) (aO (bL 4 dj.nd (aH dU (dv 4) aD))))) (aO (iV (cL Ft (dv 5) aD) (aO (bK (aH pD (aH pD (dv 5) aD) (dv 2)))) d9)))) d9) (aO (bL 3 dj.nd (aH mK (dv 3) (aH rJ aD (aH mY (dv 1) (aQ cP rfl T.cT PySem.boot_len (aj (dv 0) au)))))))))) d9) (aJ (bL 3 dj.nd (aH pD (aH mK (aH rJ (aH pD (dv 3) aD) aD) (aH rJ aD (aH mK (dv 1) aD))) aD)) (aJ (bL 3 dj.nd (aH pD (aH mK (aH rJ (dv 3) (dv 3)) (aH mY (dv 3) aD)) aD)) (aO (bK (aH pD (aH mY (aH pD (aH mK (aH rJ (dv 3) (dv 3)) (aH mY (dv 3) aD)) aD) aD) (dv 2))))))))
theorem Ol {f:Addr} {fd:FuncData} (Fn:Fun K "_law_drawn" "_law_drawn" fH f fd) (hmg:mg "_law_drawn" =some (.ref f)) (hb:Binds K fd ["_law_script","_law_k","_law_many"] []) (T:Txt K mg)  :aW P w K mg base 1 "_law_drawn" 3 bZ:=
 dg (k:=0) (g:=uD) Fn hmg hb dj rfl rfl λ cdv A outer s H E hr=>Oj T  hr
theorem R8 (T:Txt K mg)  (hr:Room 0 (A.deeper (envOfC "_law_ways" (defScope gH) s.heap.objs.size f cdv))):c7 (cxOf CX0 P w K mg base ["_law_broad","_law_tall","_law_found","_law_y","_law_more","_law_way"] "_law_ways" (defScope gH) f cdv A outer s H E).nox (defBody gH) wN:=by
 exact (aJ (yW 2 jH.nd ["_law_x"] [] rfl (by kernel_rfl) (by kernel_rfl) (cX rfl T.cQ (aj (dv 0) au)) (aR (by decide)) (λ _u _u _u _u nd=>bA 0 nd) (λ _u _u _u _u=>bO) (λ _u _u _u _u=>(d8 (aj (dv 0) au)))) (aJ (m7 PassesOwn.never rfl (cX rfl T.cQ (aj (aH dU (dv 1) aD) au)) (qu 3 jH.nd) (aJ (bL 4 jH.nd (gR au)) (aJ (m7 PassesOwn.never rfl (fB (dv 2)) (qu 5 jH.nd) (aO (bL 4 jH.nd (aH bU (dv 4) (cJ ["_law_x"] [0,5] rfl (by kernel_rfl) (by kernel_rfl) (fB (d8 (aj (aH dU (bF (dv 5) (Cg aD)) aD) (aj (bF (dv 5) (Cg aD)) (aj (aH bU (bF (dv 5) (Cg aD)) aD) au))))) (aR (by decide)) (λ _u _u _u _u nd=>bA 0 nd) (λ _u _u _u _u=>(Lh (DW.dt (BZ (cL zK aD (dv 0)) (yP (cL Fq (dv 0) (dv 1))))))) (λ _u _u _u _u=>(aH bU (dv 2) (d8 (aj (dv 0) au))))))))) (aO (bL 2 jH.nd (dv 4)))))) (aO (bK (dv 2)))))
theorem R9 {f:Addr} {fd:FuncData} (Fn:Fun K "_law_ways" "_law_ways" gH f fd) (hmg:mg "_law_ways" =some (.ref f)) (hb:Binds K fd ["_law_broad","_law_tall"] []) (T:Txt K mg)  :aW P w K mg base 1 "_law_ways" 2 mQ:=
 dg (k:=0) (g:=wN) Fn hmg hb jH rfl rfl λ cdv A outer s H E hr=>R8 T  hr
theorem Om (T:Txt K mg) (ji:aW P w K mg base 3 "_law_cost" 3 eY) (oM:aW P w K mg base 1 "_law_ways" 2 mQ) (hr:Room 3 (A.deeper (envOfC "_law_least" (defScope fJ) s.heap.objs.size f cdv))):c7 (cxOf CX0 P w K mg base ["_law_picture_here","_law_many","_law_ways_here","_law_rows","_law_sets","_law_time","_law_more","_law_cost_here","_law_last","_law_other","_law_way","_law_best"] "_law_least" (defScope fJ) f cdv A outer s H E).nox (defBody fJ) uE:=by
 exact (aJ (bL 2 dD.nd (bQ oM hr (by decide) (aj (aQ cP rfl T.cT PySem.boot_len (aj (bF (dv 0) aD) au)) (aj (aQ cP rfl T.cT PySem.boot_len (aj (dv 0) au)) au)))) (aJ (yW 3 dD.nd ["_law_way"] [0] rfl (by kernel_rfl) (by kernel_rfl) (fB (dv 2)) (aR (by decide)) (λ _u _u _u _u nd=>bA 0 nd) (λ _u _u _u _u=>bO) (λ _u _u _u _u=>(d8 (aj (bQ ji hr (by decide) (aj (dv 1) (aj yO (aj (dv 0) au)))) (aj (dv 0) au))))) (aJ (bL 4 dD.nd (dv 3)) (aJ (m7 PassesOwn.never rfl (cX rfl T.cQ (aj (aH dU (dv 1) aD) au)) (qu 5 dD.nd) (aJ (W9 6 dD.nd au) (aJ (m7 PassesOwn.never rfl (fB (dv 4)) (Fy 7 8 rfl dD.nd) (aO (m7 PassesOwn.never rfl (fB (dv 3)) (Fy 9 10 rfl dD.nd) (aO (iV (cL (Jm (lq hr)) (cJ ["_law_one","_law_two"] [] rfl (by kernel_rfl) (by kernel_rfl) (aeX rfl T.JX (aj (dv 8) (aj (dv 10) au))) (oY (dZ (aR (by decide)) (dZ (aR (by decide)) oX))) (λ _u _u _u _u nd=>yR rfl (iJ (bA 0 nd) (iJ (bA 1 nd) sS))) (λ _u _u _u _u=>(Lh (cL aeu (dv 0) (dv 1)))) (λ _u _u _u _u=>aD)) (gR au)) (aO (Jl 6 (d8 (aj (aH bU (dv 7) (dv 9)) (aj (dv 10) au))))) d9))))) (adL 11 7 10 6 4 dD.nd rfl PassesOwn.never (hu_of hr) rfl T.rG (yW 4 dD.nd ["_law_way"] [11] rfl (by kernel_rfl) (by kernel_rfl) (agR 11) (aR (by decide)) (λ _u _u _u _u nd=>bA 0 nd) (λ _u _u _u _u=>bO) (λ _u _u _u _u=>(d8 (aj (agS 1 (hu_of hr) (dv 0)) (aj (dv 0) au))))))))) (aO (bK (ae8 rfl rfl T.rG (cJ ["_law_cost_here","_law_way"] [] rfl (by kernel_rfl) (by kernel_rfl) (fB (dv 4)) (oY (dZ (aR (by decide)) (dZ (aR (by decide)) oX))) (λ _u _u _u _u nd=>yR rfl (iJ (bA 0 nd) (iJ (bA 1 nd) sS))) (λ _u _u _u _u=>bO) (λ _u _u _u _u=>(dv 0))))))))))
theorem Oo {f:Addr} {fd:FuncData} (Fn:Fun K "_law_least" "_law_least" fJ f fd) (hmg:mg "_law_least" =some (.ref f)) (hb:Binds K fd ["_law_picture_here","_law_many"] []) (T:Txt K mg) (ji:aW P w K mg base 3 "_law_cost" 3 eY) (oM:aW P w K mg base 1 "_law_ways" 2 mQ):aW P w K mg base 4 "_law_least" 2 ig:=
 dg (k:=3) (g:=uE) Fn hmg hb dD rfl rfl λ cdv A outer s H E hr=>Om T ji oM hr
theorem afz (T:Txt K mg)  (hr:Room 0 (A.deeper (envOfC "near" (defScope pL) s.heap.objs.size f cdv))):c7 (cxOf CX0 P w K mg base ["place","wide"] "near" (defScope pL) f cdv A outer s H E).nox (defBody pL) Rh:=by
 exact (aO (bK (adv rfl rfl T.Dn rfl T.cQ (aj (aQ (Cd rfl) rfl T.sJ boot_max (aj (aH dU (dv 0) aD) (aj aD au))) (aj (aQ (Ce rfl) rfl T.rG boot_min (aj (aH bU (dv 0) aD) (aj (dv 1) au))) au)))))
theorem afA {f:Addr} {fd:FuncData} (Fn:Fun K "near" "near" pL f fd) (hmg:mg "near" =some (.ref f)) (hb:Binds K fd ["place","wide"] []) (T:Txt K mg)  :aW P w K mg base 1 "near" 2 zj:=
 dg (k:=0) (g:=Rh) Fn hmg hb afy rfl rfl λ cdv A outer s H E hr=>afz T  hr
theorem Sd (T:Txt K mg)  (hr:Room 0 (A.deeper (envOfC "node_into" (defScope gJ) s.heap.objs.size f cdv))):c7 (cxOf CX0 P w K mg base ["x","y","wide"] "node_into" (defScope gJ) f cdv A outer s H E).nox (defBody gJ) wO:=by
 exact (aO (bK (aH yU aD (aH bU (aH bU (aH yU (dv 1) (dv 2)) (dv 0)) aD))))
theorem Sg {f:Addr} {fd:FuncData} (Fn:Fun K "node_into" "node_into" gJ f fd) (hmg:mg "node_into" =some (.ref f)) (hb:Binds K fd ["x","y","wide"] []) (T:Txt K mg)  :aW P w K mg base 1 "node_into" 3 cO:=
 dg (k:=0) (g:=wO) Fn hmg hb RW rfl rfl λ cdv A outer s H E hr=>Sd T  hr
theorem Sh (T:Txt K mg) (Dr:aW P w K mg base 1 "near" 2 zj) (cB:aW P w K mg base 1 "node_into" 3 cO) (hr:Room 1 (A.deeper (envOfC "arcs_down" (defScope gK) s.heap.objs.size f cdv))):c7 (cxOf CX0 P w K mg base ["costs","taken","wide","arcs","y","row","x","cost","into"] "arcs_down" (defScope gK) f cdv A outer s H E).nox (defBody gK) wQ:=by
 obtain⟨Zo,Aj⟩:=T.wu;obtain⟨Ym,zA⟩:=T.qK;exact (aJ (bL 2 jJ.nd (aQ cP rfl T.cT PySem.boot_len (aj (bF (dv 0) aD) au))) (aJ (adx 3 jJ.nd ["x"] [2] rfl (by kernel_rfl) (by kernel_rfl) (cX rfl T.cQ (aj (dv 2) au)) (aR (by decide)) (λ _u _u _u _u nd=>bA 0 nd) (λ _u _u _u _u=>bO) (λ _u _u _u _u=>(d8 (aj (kY rfl zA) (aj (bQ cB hr (by decide) (aj (dv 0) (aj aD (aj (dv 1) au)))) (aj aD au)))))) (aJ (m7 PassesOwn.never rfl (sZ rfl T.eZ (aj (dv 0) au)) (Fy 4 5 rfl jJ.nd) (aO (m7 PassesOwn.never rfl (sZ rfl T.eZ (aj (dv 5) au)) (Fy 6 7 rfl jJ.nd) (aJ (bL 8 jJ.nd (bQ cB hr (by decide) (aj (dv 6) (aj (dv 4) (aj (dv 2) au))))) (aJ (iV (yQ (tO (bF (bF (dv 1) (dv 4)) (dv 6)))) (aO (Jl 3 (d8 (aj (dv 8) (aj (aH bU (dv 8) aD) (aj (dv 7) au)))))) d9) (aO (iV (cL Fq (aH bU (dv 4) aD) (aQ cP rfl T.cT PySem.boot_len (aj (dv 0) au))) (aO (Xn 3 jJ.nd (cJ ["place"] [8,2,4] rfl (by kernel_rfl) (by kernel_rfl) (fB (bQ Dr hr (by decide) (aj (dv 6) (aj (dv 2) au)))) (aR (by decide)) (λ _u _u _u _u nd=>bA 0 nd) (λ _u _u _u _u=>bO) (λ _u _u _u _u=>(d8 (aj (aH bU (dv 1) aD) (aj (bQ cB hr (by decide) (aj (dv 0) (aj (aH bU (dv 3) aD) (aj (dv 2) au)))) (aj aD au)))))))) (aO (Jl 3 (d8 (aj (aH bU (dv 8) aD) (aj (kY rfl Aj) (aj aD au))))))))))))) (aO (bK (dv 3))))))
theorem Ss {f:Addr} {fd:FuncData} (Fn:Fun K "arcs_down" "arcs_down" gK f fd) (hmg:mg "arcs_down" =some (.ref f)) (hb:Binds K fd ["costs","taken"] []) (T:Txt K mg) (Dr:aW P w K mg base 1 "near" 2 zj) (cB:aW P w K mg base 1 "node_into" 3 cO):aW P w K mg base 2 "arcs_down" 2 mR:=
 dg (k:=1) (g:=wQ) Fn hmg hb jJ rfl rfl λ cdv A outer s H E hr=>Sh T Dr cB hr
theorem Zq (T:Txt K mg) (cB:aW P w K mg base 1 "node_into" 3 cO) (hr:Room 1 (A.deeper (envOfC "arcs_up" (defScope jT) s.heap.objs.size f cdv))):c7 (cxOf CX0 P w K mg base ["costs","seams","arcs","seam","beneath","y","into"] "arcs_up" (defScope jT) f cdv A outer s H E).nox (defBody jT) CV:=by
 obtain⟨Zo,Aj⟩:=T.wu;exact (aJ (W9 2 jU.nd au) (aJ (m7 PassesOwn.never rfl (fB (dv 1)) (qu 3 jU.nd) (aJ (bL 4 jU.nd (kY rfl Aj)) (aO (m7 PassesOwn.never rfl (ae1 rfl T.pR rfl T.cQ (aj (aQ cP rfl T.cT PySem.boot_len (aj (dv 3) au)) au)) (qu 5 jU.nd) (aJ (bL 6 jU.nd (bQ cB hr (by decide) (aj (bF (dv 3) (dv 5)) (aj (dv 5) (aj (aQ cP rfl T.cT PySem.boot_len (aj (bF (dv 0) aD) au)) au))))) (aJ (Xn 2 jU.nd (gR (aj (d8 (aj (dv 4) (aj (aH bU (dv 6) aD) (aj aD au)))) (aj (d8 (aj (aH bU (dv 6) aD) (aj (dv 6) (aj (Cg (bF (bF (dv 0) (dv 5)) (bF (dv 3) (dv 5)))) au)))) au)))) (aO (bL 4 jU.nd (dv 6))))))))) (aO (bK (dv 2)))))
theorem Zr {f:Addr} {fd:FuncData} (Fn:Fun K "arcs_up" "arcs_up" jT f fd) (hmg:mg "arcs_up" =some (.ref f)) (hb:Binds K fd ["costs","seams"] []) (T:Txt K mg) (cB:aW P w K mg base 1 "node_into" 3 cO):aW P w K mg base 2 "arcs_up" 2 o9:=
 dg (k:=1) (g:=CV) Fn hmg hb jU rfl rfl λ cdv A outer s H E hr=>Zq T cB hr
theorem J2 (T:Txt K mg)  {a:Addr} {rs:List Addr} (hr:Room 0 (A.deeper (envOfC "change_along" (defScope cV) s.heap.objs.size f cdv))):PSs (cxOf CX0 P w K mg base ["taken","ahead","wide","node","before","cell","y","x"] "change_along" (defScope cV) f cdv A outer s H E).nox (defBody cV) (sE (cxOf CX0 P w K mg base ["taken","ahead","wide","node","before","cell","y","x"] "change_along" (defScope cV) f cdv A outer s H E).nox a rs dI):=by
 obtain⟨Zo,Aj⟩:=T.wu;obtain⟨Ym,zA⟩:=T.qK;exact (tu (Cu 2 (by decide) fK.nd (aQ cP rfl T.cT PySem.boot_len (aj (bF (dv 0) aD) au))) (tu (Cu 3 (by decide) fK.nd (kY rfl Aj)) (Q6 (adE 1000 PassesOwn.never (cL (vV (lq hr)) (dv 3) (kY rfl zA)) (tu (Cu 4 (by decide) fK.nd (bF (dv 1) (dv 3))) (tu (ain (cL (Jm (lq hr)) (aH mY (dv 4) aD) (aH mY (dv 3) aD)) (tu (Cu 5 (by decide) fK.nd (aH dU (aH mY (dv 3) aD) aD)) (tu (agN 6 7 (by decide) (by decide) rfl fK.nd (aH mY (dv 5) (dv 2)) (aH pD (dv 5) (dv 2))) (Q6 (ae5 6 7 (aaQ (bF (bF (dv 0) (dv 6)) (dv 7))))))) agM) (Q6 (Cu 3 (by decide) fK.nd (dv 4)))))))))
theorem J6 {f:Addr} {fd:FuncData} (Fn:Fun K "change_along" "change_along" cV f fd) (hmg:mg "change_along" =some (.ref f)) (hb:Binds K fd ["taken","ahead"] []) (T:Txt K mg)  :Ra P w K mg base 1 "change_along" dI 6:=
 ⟨f,fd,["taken","ahead"],fnC (k:=0) (m:=6) (g:=dI) Fn fK rfl rfl (λ cdv A outer s H E a rs hr=>J2 T  hr),hmg,Fn.kp,hb⟩
theorem HB (T:Txt K mg)  (hr:Room 0 (A.deeper (envOfC "seams_through" (defScope cY) s.heap.objs.size f cdv))):c7 (cxOf CX0 P w K mg base ["taken","many","rows"] "seams_through" (defScope cY) f cdv A outer s H E).nox (defBody cY) pJ:=by
 exact (aJ (bL 2 uN.nd (cJ ["row"] [] rfl (by kernel_rfl) (by kernel_rfl) (fB (dv 0)) (aR (by decide)) (λ _u _u _u _u nd=>bA 0 nd) (λ _u _u _u _u=>bO) (λ _u _u _u _u=>(cJ ["x","is_taken"] [] rfl (by kernel_rfl) (by kernel_rfl) (sZ rfl T.eZ (aj (dv 0) au)) (oY (dZ (aR (by decide)) (dZ (aR (by decide)) oX))) (λ _u _u _u _u nd=>yR rfl (iJ (bA 0 nd) (iJ (bA 1 nd) sS))) (λ _u _u _u _u=>(Lh (tO (dv 1)))) (λ _u _u _u _u=>(dv 0)))))) (aO (bK (cJ ["at"] [2] rfl (by kernel_rfl) (by kernel_rfl) (cX rfl T.cQ (aj (dv 1) au)) (aR (by decide)) (λ _u _u _u _u nd=>bA 0 nd) (λ _u _u _u _u=>bO) (λ _u _u _u _u=>(lQ lR rfl T.iG boot_tuple (aj (cJ ["row"] [0] rfl (by kernel_rfl) (by kernel_rfl) (fB (dv 1)) (aR (by decide)) (λ _u _u _u _u nd=>bA 0 nd) (λ _u _u _u _u=>bO) (λ _u _u _u _u=>(bF (dv 0) (dv 1)))) au)))))))
theorem HD {f:Addr} {fd:FuncData} (Fn:Fun K "seams_through" "seams_through" cY f fd) (hmg:mg "seams_through" =some (.ref f)) (hb:Binds K fd ["taken","many"] []) (T:Txt K mg)  :aW P w K mg base 1 "seams_through" 2 iz:=
 dg (k:=0) (g:=pJ) Fn hmg hb uN rfl rfl λ cdv A outer s H E hr=>HB T  hr
theorem Vt (T:Txt K mg)  (hr:Room 0 (A.deeper (envOfC "searched" (defScope iY) s.heap.objs.size f cdv))):c7 (cxOf CX0 P w K mg base ["arcs","many","least","ahead","changed","node","following","cost"] "searched" (defScope iY) f cdv A outer s H E).nox (defBody iY) zZ:=by
 obtain⟨ajN,aiu⟩:=T.JV;obtain⟨Ym,zA⟩:=T.qK;exact (aJ (abm 2 kJ.nd (ae3 (gR (aj aD au)) (aH LC (gR (aj (kY rfl aiu) au)) (aH dU (dv 1) aD)))) (aJ (abm 3 kJ.nd (ae4 (gR (aj (kY rfl zA) au)) (dv 1))) (aJ (bL 4 kJ.nd nJ) (aJ (G9 1000000000 PassesOwn.never (tO (dv 4)) (aJ (bL 4 kJ.nd nJ) (aO (m7 PassesOwn.never rfl (fB (dv 0)) (aa7 5 6 7 rfl kJ.nd) (aO (iV (cL Fq (aH bU (bF (dv 2) (dv 5)) (dv 7)) (bF (dv 2) (dv 6))) (aJ (Xo 2 (dv 6) (aH bU (agI 2 (dv 5)) (dv 7))) (aJ (Xo 3 (dv 6) (dv 5)) (aO (bL 4 kJ.nd nJ)))) d9)))))) (aO (bK (d8 (aj (dv 2) (aj (dv 3) au)))))))))
theorem Vu {f:Addr} {fd:FuncData} (Fn:Fun K "searched" "searched" iY f fd) (hmg:mg "searched" =some (.ref f)) (hb:Binds K fd ["arcs","many"] []) (T:Txt K mg)  :aW P w K mg base 1 "searched" 2 nO:=
 dg (k:=0) (g:=zZ) Fn hmg hb kJ rfl rfl λ cdv A outer s H E hr=>Vt T  hr
theorem Vv (T:Txt K mg)  (hr:Room 0 (A.deeper (envOfC "taken_by" (defScope fL) s.heap.objs.size f cdv))):PSs (cxOf CX0 P w K mg base ["seams","wide","high","rows"] "taken_by" (defScope fL) f cdv A outer s H E).nox (defBody fL) (tSeq (tS (cxOf CX0 P w K mg base ["seams","wide","high","rows"] "taken_by" (defScope fL) f cdv A outer s H E).nox (aZ (aV 1 [0] (λ ρ=>((ak (gv 2) nA) ρ).bind gq) (aG 0) tT (aV 1 [0] (eO (gv 1)) (aG 0) tT (bin (gv 0) (gv 1) bD))) (aG 3))) (tRet (tGr (cxOf CX0 P w K mg base ["seams","wide","high","rows"] "taken_by" (defScope fL) f cdv A outer s H E).nox (reN K) (aV 1 [1] (eO (gv 3)) (aG 0) tT (aV 1 [0] (λ ρ=>((ak (gv 1) nA) ρ).bind gq) (aG 0) tT (bin (gv 0) (gv 1) (Xg false))))))):=by
 exact (pss_cons (yW 3 Gx.nd ["y"] [0] rfl (by kernel_rfl) (by kernel_rfl) (cX rfl T.cQ (aj (dv 2) au)) (aR (by decide)) (λ _u _u _u _u nd=>bA 0 nd) (λ _u _u _u _u=>bO) (λ _u _u _u _u=>(cJ ["seam"] [0] rfl (by kernel_rfl) (by kernel_rfl) (fB (dv 1)) (aR (by decide)) (λ _u _u _u _u nd=>bA 0 nd) (λ _u _u _u _u=>bO) (λ _u _u _u _u=>(bF (dv 0) (dv 1)))))) (pss_one (ps_ret (adC ["row"] [1] rfl (by kernel_rfl) (by kernel_rfl) (fB (dv 3)) (aR (by decide)) (λ _u _u _u _u nd=>bA 0 nd) (λ _u _u _u _u=>bO) (λ _u _u _u _u=>(adw ["x"] [0] rfl (by kernel_rfl) (by kernel_rfl) (cX rfl T.cQ (aj (dv 1) au)) (aR (by decide)) (λ _u _u _u _u nd=>bA 0 nd) (λ _u _u _u _u=>bO) (λ _u _u _u _u=>(tK aic (dv 0) (dv 1) (by rfl)))))))))
theorem Vw {f:Addr} {fd:FuncData} (Fn:Fun K "taken_by" "taken_by" fL f fd) (hmg:mg "taken_by" =some (.ref f)) (hb:Binds K fd ["seams","wide","high"] []) (T:Txt K mg)  :Q5 P w K mg base 1 "taken_by" 3 nP:=
 ⟨f,fd,["seams","wide","high"],fnN (k:=0) (n:=3) (m:=1) (g1:=(aZ (aV 1 [0] (λ ρ=>((ak (gv 2) nA) ρ).bind gq) (aG 0) tT (aV 1 [0] (eO (gv 1)) (aG 0) tT (bin (gv 0) (gv 1) bD))) (aG 3))) (fe:=(aV 1 [1] (eO (gv 3)) (aG 0) tT (aV 1 [0] (λ ρ=>((ak (gv 1) nA) ρ).bind gq) (aG 0) tT (bin (gv 0) (gv 1) (Xg false))))) Fn Gx rfl rfl (λ cdv A outer s H E hr=>Vv T  hr) (λ ρ d h=>ae6 h),hmg,Fn.kp,hb⟩
theorem afB (T:Txt K mg) (oN:aW P w K mg base 2 "arcs_down" 2 mR) (rR:aW P w K mg base 2 "arcs_up" 2 o9) (lD:Ra P w K mg base 1 "change_along" dI 6) (j5:aW P w K mg base 1 "seams_through" 2 iz) (pW:aW P w K mg base 1 "searched" 2 nO) (pX:Q5 P w K mg base 1 "taken_by" 3 nP) (hr:Room 2 (A.deeper (envOfC "flow" (defScope pN) s.heap.objs.size f cdv))):c7 (cxOf CX0 P w K mg base ["costs","many","wide","high","seams","least","taken","arcs","ahead"] "flow" (defScope pN) f cdv A outer s H E).nox (defBody pN) Ri:=by
 exact (aJ (aaZ 2 3 rfl zx.nd (aQ cP rfl T.cT PySem.boot_len (aj (bF (dv 0) aD) au)) (aQ cP rfl T.cT PySem.boot_len (aj (dv 0) au))) (aJ (bL 4 zx.nd (gR au)) (aJ (bL 5 zx.nd (gR au)) (aJ (G9 64 PassesOwn.never (cL Fq (aQ cP rfl T.cT PySem.boot_len (aj (dv 4) au)) (dv 1)) (adG 6 7 5 8 4 zx.nd rfl (hr.mono (by decide)) (hr.mono (by decide)) pX lD (aj (dv 4) (aj (dv 2) (aj (dv 3) au))) (aH bU (bQ oN hr (by decide) (aj (dv 0) (aj (dv 6) au))) (bQ rR hr (by decide) (aj (dv 0) (aj (dv 4) au)))) (bQ pW hr (by decide) (aj (dv 7) (aj (aH yU aD (aH bU (aH yU (dv 2) (dv 3)) aD)) au))) (bQ j5 hr (by decide) (aj (dv 6) (aj (aH bU (aQ cP rfl T.cT PySem.boot_len (aj (dv 4) au)) aD) au))))) (aO (bK (d8 (aj (dv 4) (aj (dv 5) au)))))))))
theorem afC {f:Addr} {fd:FuncData} (Fn:Fun K "flow" "flow" pN f fd) (hmg:mg "flow" =some (.ref f)) (hb:Binds K fd ["costs","many"] []) (T:Txt K mg) (oN:aW P w K mg base 2 "arcs_down" 2 mR) (rR:aW P w K mg base 2 "arcs_up" 2 o9) (lD:Ra P w K mg base 1 "change_along" dI 6) (j5:aW P w K mg base 1 "seams_through" 2 iz) (pW:aW P w K mg base 1 "searched" 2 nO) (pX:Q5 P w K mg base 1 "taken_by" 3 nP):aW P w K mg base 3 "flow" 2 oA:=
 dg (k:=2) (g:=Ri) Fn hmg hb zx rfl rfl λ cdv A outer s H E hr=>afB T oN rR lD j5 pW pX hr
theorem Vx (T:Txt K mg)  (hr:Room 0 (A.deeper (envOfC "is_whole" (defScope iZ) s.heap.objs.size f cdv))):c7 (cxOf CX0 P w K mg base ["thing"] "is_whole" (defScope iZ) f cdv A outer s H E).nox (defBody iZ) Aa:=by
 exact (aO (bK (Jj (Ln (ans:=Fz) T.JZ (dv 0) rfl T.fQ boot_isinstance rfl T.JW boot_int) (Ji (aaQ (Ln (ans:=zO) T.Dq (dv 0) rfl T.fQ boot_isinstance rfl T.Dm boot_bool))))))
theorem Vy {f:Addr} {fd:FuncData} (Fn:Fun K "is_whole" "is_whole" iZ f fd) (hmg:mg "is_whole" =some (.ref f)) (hb:Binds K fd ["thing"] []) (T:Txt K mg)  :aW P w K mg base 1 "is_whole" 1 gD:=
 dg (k:=0) (g:=Aa) Fn hmg hb Vq rfl rfl λ cdv A outer s H E hr=>Vx T  hr
theorem Zt (T:Txt K mg)  (hr:Room 0 (A.deeper (envOfC "is_line" (defScope jV) s.heap.objs.size f cdv))):c7 (cxOf CX0 P w K mg base ["thing"] "is_line" (defScope jV) f cdv A outer s H E).nox (defBody jV) CW:=by
 obtain⟨ahD,Vz⟩:=T.oH;exact (aO (bK (Jj (Ln (ans:=vX) T.zy (dv 0) rfl T.fQ boot_isinstance rfl T.iG boot_tuple) (Ji (Qk zK zK aD (aQ cP rfl T.cT PySem.boot_len (aj (dv 0) au)) (kY rfl Vz))))))
theorem Zu {f:Addr} {fd:FuncData} (Fn:Fun K "is_line" "is_line" jV f fd) (hmg:mg "is_line" =some (.ref f)) (hb:Binds K fd ["thing"] []) (T:Txt K mg)  :aW P w K mg base 1 "is_line" 1 jh:=
 dg (k:=0) (g:=CW) Fn hmg hb Zi rfl rfl λ cdv A outer s H E hr=>Zt T  hr
theorem Zv (T:Txt K mg) (gP:aW P w K mg base 1 "is_whole" 1 gD) (hr:Room 1 (A.deeper (envOfC "is_cell" (defScope jW) s.heap.objs.size f cdv))):c7 (cxOf CX0 P w K mg base ["thing"] "is_cell" (defScope jW) f cdv A outer s H E).nox (defBody jW) CZ:=by
 obtain⟨ahE,VB⟩:=T.oG;exact (aO (bK (Jj (bQ gP hr (by decide) (aj (dv 0) au)) (Ji (Qk zK zK aD (dv 0) (kY rfl VB))))))
theorem Zw {f:Addr} {fd:FuncData} (Fn:Fun K "is_cell" "is_cell" jW f fd) (hmg:mg "is_cell" =some (.ref f)) (hb:Binds K fd ["thing"] []) (T:Txt K mg) (gP:aW P w K mg base 1 "is_whole" 1 gD):aW P w K mg base 2 "is_cell" 1 pq:=
 dg (k:=1) (g:=CZ) Fn hmg hb Zj rfl rfl λ cdv A outer s H E hr=>Zv T gP hr
theorem abV (T:Txt K mg) (rT:aW P w K mg base 2 "is_cell" 1 pq) (jl:aW P w K mg base 1 "is_line" 1 jh) (hr:Room 2 (A.deeper (envOfC "is_row" (defScope lY) s.heap.objs.size f cdv))):c7 (cxOf CX0 P w K mg base ["thing"] "is_row" (defScope lY) f cdv A outer s H E).nox (defBody lY) Hu:=by
 exact (aO (bK (Jj (bQ jl hr (by decide) (aj (dv 0) au)) (Ji (aQ (Qs rfl) rfl T.Ah boot_all (aj (cJ ["cell"] [] rfl (by kernel_rfl) (by kernel_rfl) (fB (dv 0)) (aR (by decide)) (λ _u _u _u _u nd=>bA 0 nd) (λ _u _u _u _u=>bO) (λ _u _u _u _u=>(bQ rT hr (by decide) (aj (dv 0) au)))) au))))))
theorem abW {f:Addr} {fd:FuncData} (Fn:Fun K "is_row" "is_row" lY f fd) (hmg:mg "is_row" =some (.ref f)) (hb:Binds K fd ["thing"] []) (T:Txt K mg) (rT:aW P w K mg base 2 "is_cell" 1 pq) (jl:aW P w K mg base 1 "is_line" 1 jh):aW P w K mg base 3 "is_row" 1 qD:=
 dg (k:=2) (g:=Hu) Fn hmg hb abU rfl rfl λ cdv A outer s H E hr=>abV T rT jl hr
theorem Oq (T:Txt K mg) (jl:aW P w K mg base 1 "is_line" 1 jh) (uO:aW P w K mg base 3 "is_row" 1 qD) (hr:Room 3 (A.deeper (envOfC "is_picture" (defScope fM) s.heap.objs.size f cdv))):c7 (cxOf CX0 P w K mg base ["thing"] "is_picture" (defScope fM) f cdv A outer s H E).nox (defBody fM) uF:=by
 exact (aJ (iV (DW.dt (Yw (yQ (tO (bQ jl hr (by decide) (aj (dv 0) au)))) (Qj (yQ (tO (aQ (Qs rfl) rfl T.Ah boot_all (aj (cJ ["row"] [] rfl (by kernel_rfl) (by kernel_rfl) (fB (dv 0)) (aR (by decide)) (λ _u _u _u _u nd=>bA 0 nd) (λ _u _u _u _u=>bO) (λ _u _u _u _u=>(bQ uO hr (by decide) (aj (dv 0) au)))) au))))))) (aO (bK nJ)) d9) (aO (bK (aQ (Qs rfl) rfl T.Ah boot_all (aj (cJ ["row"] [0] rfl (by kernel_rfl) (by kernel_rfl) (fB (dv 0)) (aR (by decide)) (λ _u _u _u _u nd=>bA 0 nd) (λ _u _u _u _u=>bO) (λ _u _u _u _u=>(tK (Jm (lq hr)) (aQ cP rfl T.cT PySem.boot_len (aj (dv 0) au)) (aQ cP rfl T.cT PySem.boot_len (aj (bF (dv 1) aD) au))))) au)))))
theorem Ot {f:Addr} {fd:FuncData} (Fn:Fun K "is_picture" "is_picture" fM f fd) (hmg:mg "is_picture" =some (.ref f)) (hb:Binds K fd ["thing"] []) (T:Txt K mg) (jl:aW P w K mg base 1 "is_line" 1 jh) (uO:aW P w K mg base 3 "is_row" 1 qD):aW P w K mg base 4 "is_picture" 1 jG:=
 dg (k:=3) (g:=uF) Fn hmg hb Oi rfl rfl λ cdv A outer s H E hr=>Oq T jl uO hr
theorem J7 (T:Txt K mg) (nF:aW P w K mg base 4 "is_picture" 1 jG) (hr:Room 4 (A.deeper (envOfC "need_picture" (defScope dN) s.heap.objs.size f cdv))):c7 (cxOf (Bw P w) P w K mg base ["thing"] "need_picture" (defScope dN) f cdv A outer s H E) (defBody dN) qG:=by
 obtain⟨bV,wV⟩:=T.wV;exact (aO (iV (yQ (tO (bQ nF hr (by decide) (aj (dv 0) au)))) (aO (QV rfl wV (aj yO au) (λ _u=>⟨_,rfl,by decide⟩))) d9))
theorem J8 {f:Addr} {fd:FuncData} (Fn:Fun K "need_picture" "need_picture" dN f fd) (hmg:mg "need_picture" =some (.ref f)) (hb:Binds K fd ["thing"] []) (T:Txt K mg) (nF:aW P w K mg base 4 "is_picture" 1 jG):eX P w K mg base 5 "need_picture" 1 cU:=
 uw (k:=4) (g:=qG) Fn hmg hb JR rfl rfl λ cdv A outer s H E hr=>J7 T nF hr
theorem Sv (T:Txt K mg) (gP:aW P w K mg base 1 "is_whole" 1 gD) (cW:eX P w K mg base 5 "need_picture" 1 cU) (hr:Room 5 (A.deeper (envOfC "need_many" (defScope gM) s.heap.objs.size f cdv))):c7 (cxOf (Bw P w) P w K mg base ["picture","many"] "need_many" (defScope gM) f cdv A outer s H E) (defBody gM) wR:=by
 obtain⟨aeJ,J9⟩:=T.jZ;obtain⟨cF,Ai⟩:=T.Ai;exact (aJ (sU (lu cW hr (by decide) (aj (dv 0) au))) (aO (iV (DW.dt (Yw (yQ (tO (bQ gP hr (by decide) (aj (dv 1) au)))) (Qj (yQ (ac5 zK zK aD (dv 1) (kY rfl J9)))))) (aO (QV rfl Ai (aj yO au) (λ _u=>⟨_,rfl,by decide⟩))) d9)))
theorem Sw {f:Addr} {fd:FuncData} (Fn:Fun K "need_many" "need_many" gM f fd) (hmg:mg "need_many" =some (.ref f)) (hb:Binds K fd ["picture","many"] []) (T:Txt K mg) (gP:aW P w K mg base 1 "is_whole" 1 gD) (cW:eX P w K mg base 5 "need_picture" 1 cU):eX P w K mg base 6 "need_many" 2 dY:=
 uw (k:=5) (g:=wR) Fn hmg hb RX rfl rfl λ cdv A outer s H E hr=>Sv T gP cW hr
theorem VD (T:Txt K mg)  (hr:Room 0 (A.deeper (envOfC "price_of" (defScope jd) s.heap.objs.size f cdv))):c7 (cxOf CX0 P w K mg base ["cost","least","into"] "price_of" (defScope jd) f cdv A outer s H E).nox (defBody jd) Ab:=by
 exact (aO (bK (aQ (Cd rfl) rfl T.sJ boot_max (aj (aH dU (aH dU (bF (dv 1) (aH bU (dv 2) aD)) (bF (dv 1) (dv 2))) (dv 0)) (aj aD au)))))
theorem VF {f:Addr} {fd:FuncData} (Fn:Fun K "price_of" "price_of" jd f fd) (hmg:mg "price_of" =some (.ref f)) (hb:Binds K fd ["cost","least","into"] []) (T:Txt K mg)  :aW P w K mg base 1 "price_of" 3 pK:=
 dg (k:=0) (g:=Ab) Fn hmg hb Vr rfl rfl λ cdv A outer s H E hr=>VD T  hr
theorem afD (T:Txt K mg)  (hr:Room 0 (A.deeper (envOfC "gaps" (defScope pO) s.heap.objs.size f cdv))):c7 (cxOf CX0 P w K mg base ["line","last"] "gaps" (defScope pO) f cdv A outer s H E).nox (defBody pO) Rj:=by
 exact (aJ (bL 1 Yl.nd (aH dU (aQ cP rfl T.cT PySem.boot_len (aj (dv 0) au)) aD)) (aO (bK (cJ ["at"] [1,0] rfl (by kernel_rfl) (by kernel_rfl) (cX rfl T.cQ (aj (aQ cP rfl T.cT PySem.boot_len (aj (dv 0) au)) au)) (aR (by decide)) (λ _u _u _u _u nd=>bA 0 nd) (λ _u _u _u _u=>bO) (λ _u _u _u _u=>(aQ Jt rfl T.wz boot_abs (aj (aH dU (bF (dv 2) (aQ (Cd rfl) rfl T.sJ boot_max (aj (aH dU (dv 0) aD) (aj aD au)))) (bF (dv 2) (aQ (Ce rfl) rfl T.rG boot_min (aj (aH bU (dv 0) aD) (aj (dv 1) au))))) au)))))))
theorem afE {f:Addr} {fd:FuncData} (Fn:Fun K "gaps" "gaps" pO f fd) (hmg:mg "gaps" =some (.ref f)) (hb:Binds K fd ["line"] []) (T:Txt K mg)  :aW P w K mg base 1 "gaps" 1 uG:=
 dg (k:=0) (g:=Rj) Fn hmg hb Yl rfl rfl λ cdv A outer s H E hr=>afD T  hr
theorem Zx (T:Txt K mg) (cW:eX P w K mg base 5 "need_picture" 1 cU) (hr:Room 5 (A.deeper (envOfC "size_of" (defScope jX) s.heap.objs.size f cdv))):c7 (cxOf (Bw P w) P w K mg base ["picture"] "size_of" (defScope jX) f cdv A outer s H E) (defBody jX) Dc:=by
 exact (aJ (sU (lu cW hr (by decide) (aj (dv 0) au))) (aO (bK (d8 (aj (aQ cP rfl T.cT PySem.boot_len (aj (bF (dv 0) aD) au)) (aj (aQ cP rfl T.cT PySem.boot_len (aj (dv 0) au)) au))))))
theorem Zy {f:Addr} {fd:FuncData} (Fn:Fun K "size_of" "size_of" jX f fd) (hmg:mg "size_of" =some (.ref f)) (hb:Binds K fd ["picture"] []) (T:Txt K mg) (cW:eX P w K mg base 5 "need_picture" 1 cU):eX P w K mg base 6 "size_of" 1 jQ:=
 uw (k:=5) (g:=Dc) Fn hmg hb Zk rfl rfl λ cdv A outer s H E hr=>Zx T cW hr
theorem abX (T:Txt K mg) (jm:eX P w K mg base 6 "size_of" 1 jQ) (hr:Room 6 (A.deeper (envOfC "turned" (defScope lZ) s.heap.objs.size f cdv))):c7 (cxOf (Bw P w) P w K mg base ["picture","wide","high"] "turned" (defScope lZ) f cdv A outer s H E) (defBody lZ) Hv:=by
 exact (aJ (Li 1 2 rfl NP.nd (lu jm hr (by decide) (aj (dv 0) au))) (aO (bK (lQ lR rfl T.iG boot_tuple (aj (cJ ["x"] [2,0] rfl (by kernel_rfl) (by kernel_rfl) (cX rfl T.cQ (aj (dv 1) au)) (aR (by decide)) (λ _u _u _u _u nd=>bA 0 nd) (λ _u _u _u _u=>bO) (λ _u _u _u _u=>(lQ lR rfl T.iG boot_tuple (aj (cJ ["y"] [2,0] rfl (by kernel_rfl) (by kernel_rfl) (cX rfl T.cQ (aj (dv 1) au)) (aR (by decide)) (λ _u _u _u _u nd=>bA 0 nd) (λ _u _u _u _u=>bO) (λ _u _u _u _u=>(bF (bF (dv 1) (dv 0)) (dv 2)))) au)))) au)))))
theorem abY {f:Addr} {fd:FuncData} (Fn:Fun K "turned" "turned" lZ f fd) (hmg:mg "turned" =some (.ref f)) (hb:Binds K fd ["picture"] []) (T:Txt K mg) (jm:eX P w K mg base 6 "size_of" 1 jQ):eX P w K mg base 7 "turned" 1 qH:=
 uw (k:=6) (g:=Hv) Fn hmg hb NP rfl rfl λ cdv A outer s H E hr=>abX T jm hr
theorem abZ (T:Txt K mg) (zB:aW P w K mg base 1 "gaps" 1 uG) (jm:eX P w K mg base 6 "size_of" 1 jQ) (uP:eX P w K mg base 7 "turned" 1 qH) (hr:Room 7 (A.deeper (envOfC "worths" (defScope mj) s.heap.objs.size f cdv))):c7 (cxOf (Bw P w) P w K mg base ["picture","wide","high","across","down"] "worths" (defScope mj) f cdv A outer s H E) (defBody mj) Hw:=by
 exact (aJ (Li 1 2 rfl wk.nd (lu jm hr (by decide) (aj (dv 0) au))) (aJ (bL 3 wk.nd (cJ ["row"] [] rfl (by kernel_rfl) (by kernel_rfl) (fB (dv 0)) (aR (by decide)) (λ _u _u _u _u nd=>bA 0 nd) (λ _u _u _u _u=>bO) (λ _u _u _u _u=>(bQ zB hr (by decide) (aj (dv 0) au))))) (aJ (bL 4 wk.nd (cJ ["column"] [] rfl (by kernel_rfl) (by kernel_rfl) (fB (lu uP hr (by decide) (aj (dv 0) au))) (aR (by decide)) (λ _u _u _u _u nd=>bA 0 nd) (λ _u _u _u _u=>bO) (λ _u _u _u _u=>(bQ zB hr (by decide) (aj (dv 0) au))))) (aO (bK (lQ lR rfl T.iG boot_tuple (aj (cJ ["y"] [3,4,1] rfl (by kernel_rfl) (by kernel_rfl) (cX rfl T.cQ (aj (dv 2) au)) (aR (by decide)) (λ _u _u _u _u nd=>bA 0 nd) (λ _u _u _u _u=>bO) (λ _u _u _u _u=>(lQ lR rfl T.iG boot_tuple (aj (cJ ["x"] [1,2,0] rfl (by kernel_rfl) (by kernel_rfl) (cX rfl T.cQ (aj (dv 3) au)) (aR (by decide)) (λ _u _u _u _u nd=>bA 0 nd) (λ _u _u _u _u=>bO) (λ _u _u _u _u=>(aH bU (bF (bF (dv 1) (dv 3)) (dv 0)) (bF (bF (dv 2) (dv 0)) (dv 3))))) au)))) au)))))))
theorem ab0 {f:Addr} {fd:FuncData} (Fn:Fun K "worths" "worths" mj f fd) (hmg:mg "worths" =some (.ref f)) (hb:Binds K fd ["picture"] []) (T:Txt K mg) (zB:aW P w K mg base 1 "gaps" 1 uG) (jm:eX P w K mg base 6 "size_of" 1 jQ) (uP:eX P w K mg base 7 "turned" 1 qH):eX P w K mg base 8 "worths" 1 lX:=
 uw (k:=7) (g:=Hw) Fn hmg hb wk rfl rfl λ cdv A outer s H E hr=>abZ T zB jm uP hr
theorem ab1 (T:Txt K mg) (oO:aW P w K mg base 3 "flow" 2 oA) (fj:eX P w K mg base 6 "need_many" 2 dY) (cB:aW P w K mg base 1 "node_into" 3 cO) (pY:aW P w K mg base 1 "price_of" 3 pK) (kO:eX P w K mg base 8 "worths" 1 lX) (hr:Room 8 (A.deeper (envOfC "prices" (defScope mq) s.heap.objs.size f cdv))):c7 (cxOf (Bw P w) P w K mg base ["picture","many","wide","costs","seams","least","table"] "prices" (defScope mq) f cdv A outer s H E) (defBody mq) Hx:=by
 obtain⟨Zo,Aj⟩:=T.wu;exact (aJ (sU (lu fj hr (by decide) (aj (dv 0) (aj (dv 1) au)))) (aJ (bL 2 rQ.nd (aQ cP rfl T.cT PySem.boot_len (aj (bF (dv 0) aD) au))) (aJ (iV (cL Ft (dv 1) (dv 2)) (aO (bK nU)) d9) (aJ (bL 3 rQ.nd (lu kO hr (by decide) (aj (dv 0) au))) (aJ (Li 4 5 rfl rQ.nd (bQ oO hr (by decide) (aj (dv 3) (aj (dv 1) au)))) (aJ (yW 6 rQ.nd ["y","row"] [5,2] rfl (by kernel_rfl) (by kernel_rfl) (sZ rfl T.eZ (aj (dv 3) au)) (oY (dZ (aR (by decide)) (dZ (aR (by decide)) oX))) (λ _u _u _u _u nd=>yR rfl (iJ (bA 0 nd) (iJ (bA 1 nd) sS))) (λ _u _u _u _u=>bO) (λ _u _u _u _u=>(lQ lR rfl T.iG boot_tuple (aj (cJ ["x","cost"] [2,3,0] rfl (by kernel_rfl) (by kernel_rfl) (sZ rfl T.eZ (aj (dv 1) au)) (oY (dZ (aR (by decide)) (dZ (aR (by decide)) oX))) (λ _u _u _u _u nd=>yR rfl (iJ (bA 0 nd) (iJ (bA 1 nd) sS))) (λ _u _u _u _u=>bO) (λ _u _u _u _u=>(bQ pY hr (by decide) (aj (dv 1) (aj (dv 2) (aj (bQ cB hr (by decide) (aj (dv 0) (aj (dv 4) (aj (dv 3) au)))) au)))))) au)))) (aO (bK (d8 (aj (lQ lR rfl T.iG boot_tuple (aj (dv 6) au)) (aj (bF (dv 5) (kY rfl Aj)) au)))))))))))
theorem ab2 {f:Addr} {fd:FuncData} (Fn:Fun K "prices" "prices" mq f fd) (hmg:mg "prices" =some (.ref f)) (hb:Binds K fd ["picture","many"] []) (T:Txt K mg) (oO:aW P w K mg base 3 "flow" 2 oA) (fj:eX P w K mg base 6 "need_many" 2 dY) (cB:aW P w K mg base 1 "node_into" 3 cO) (pY:aW P w K mg base 1 "price_of" 3 pK) (kO:eX P w K mg base 8 "worths" 1 lX):eX P w K mg base 9 "prices" 2 iK:=
 uw (k:=8) (g:=Hx) Fn hmg hb rQ rfl rfl λ cdv A outer s H E hr=>ab1 T oO fj cB pY kO hr
theorem VG (T:Txt K mg) (oO:aW P w K mg base 3 "flow" 2 oA) (fj:eX P w K mg base 6 "need_many" 2 dY) (kO:eX P w K mg base 8 "worths" 1 lX) (hr:Room 8 (A.deeper (envOfC "together" (defScope jg) s.heap.objs.size f cdv))):c7 (cxOf (Bw P w) P w K mg base ["picture","many"] "together" (defScope jg) f cdv A outer s H E) (defBody jg) Ad:=by
 exact (aJ (sU (lu fj hr (by decide) (aj (dv 0) (aj (dv 1) au)))) (aJ (iV (cL Ft (dv 1) (aQ cP rfl T.cT PySem.boot_len (aj (bF (dv 0) aD) au))) (aO (bK nU)) d9) (aO (bK (bF (bQ oO hr (by decide) (aj (lu kO hr (by decide) (aj (dv 0) au)) (aj (dv 1) au))) aD)))))
theorem VH {f:Addr} {fd:FuncData} (Fn:Fun K "together" "together" jg f fd) (hmg:mg "together" =some (.ref f)) (hb:Binds K fd ["picture","many"] []) (T:Txt K mg) (oO:aW P w K mg base 3 "flow" 2 oA) (fj:eX P w K mg base 6 "need_many" 2 dY) (kO:eX P w K mg base 8 "worths" 1 lX):eX P w K mg base 9 "together" 2 dJ:=
 uw (k:=8) (g:=Ad) Fn hmg hb Vs rfl rfl λ cdv A outer s H E hr=>VG T oO fj kO hr
theorem Zz (T:Txt K mg) (nG:eX P w K mg base 9 "prices" 2 iK) (j7:eX P w K mg base 9 "together" 2 dJ) (hr:Room 9 (A.deeper (envOfC "_law_no" (defScope jY) s.heap.objs.size f cdv))):c7 (cxOf CX0 P w K mg base ["_law_way","_law_picture_here","_law_many","e"] "_law_no" (defScope jY) f cdv A outer s H E).nox (defBody jY) Df:=by
 obtain⟨aht,VJ,VL⟩:=T.wW;obtain⟨VN,pU,ZC⟩:=T.pU;obtain⟨Sx,oJ,VP⟩:=T.oJ;exact (aJ (agH 3 JT.nd rfl rfl rfl VJ VL (λ _u _u=>(aO (iV (cL (Jm (lq hr)) (dv 0) aD) (aO (sU (lu j7 hr (by decide) (aj (dv 1) (aj (dv 2) au))))) (aO (sU (lu nG hr (by decide) (aj (dv 1) (aj (dv 2) au)))))))) (λ _u=>(aO (bK (gR (aj (QW 3 rfl T.fQ (pe_glob (v:= .ref Sx) rfl oJ rfl (by decide)) (λ _u z=>z) VP) (aj (QW 3 rfl T.fQ (pe_glob (v:= .ref VN) rfl pU rfl (by decide)) (λ _u z=>z) ZC) au))))))) (aO (bK (gR au))))
theorem ZD {f:Addr} {fd:FuncData} (Fn:Fun K "_law_no" "_law_no" jY f fd) (hmg:mg "_law_no" =some (.ref f)) (hb:Binds K fd ["_law_way","_law_picture_here","_law_many"] []) (T:Txt K mg) (nG:eX P w K mg base 9 "prices" 2 iK) (j7:eX P w K mg base 9 "together" 2 dJ):aW P w K mg base 10 "_law_no" 3 pA:=
 dg (k:=9) (g:=Df) Fn hmg hb JT rfl rfl λ cdv A outer s H E hr=>Zz T nG j7 hr
theorem Ka (T:Txt K mg) (cj:aW P w K mg base 1 "_law_drawn" 3 bZ) (hr:Room 1 (A.deeper (envOfC "_law_picture" (defScope dO) s.heap.objs.size f cdv))):c7 (cxOf CX0 P w K mg base ["_law_script","_law_at_here","_law_broad","_law_tall","_law_most","_law_rows","_law_y"] "_law_picture" (defScope dO) f cdv A outer s H E).nox (defBody dO) qI:=by
 exact (aJ (aeQ 4 5 rfl pP.nd (bF (gR (aj aD (aj aD (aj aD (aj aD au))))) (bQ cj hr (by decide) (aj (dv 0) (aj (dv 1) (aj aD au))))) au) (aJ (m7 PassesOwn.never rfl (cX rfl T.cQ (aj (dv 3) au)) (qu 6 pP.nd) (aO (Jl 5 (lQ lR rfl T.iG boot_tuple (aj (cJ ["_law_x"] [1,2,4,0,6] rfl (by kernel_rfl) (by kernel_rfl) (cX rfl T.cQ (aj (dv 2) au)) (aR (by decide)) (λ _u _u _u _u nd=>bA 0 nd) (λ _u _u _u _u=>bO) (λ _u _u _u _u=>(bQ cj hr (by decide) (aj (dv 4) (aj (aH mK (aH mK (aH mK (dv 1) aD) (aH rJ (dv 2) (dv 5))) (dv 0)) (aj (dv 3) au)))))) au))))) (aO (bK (lQ lR rfl T.iG boot_tuple (aj (dv 5) au))))))
theorem Kc {f:Addr} {fd:FuncData} (Fn:Fun K "_law_picture" "_law_picture" dO f fd) (hmg:mg "_law_picture" =some (.ref f)) (hb:Binds K fd ["_law_script","_law_at_here","_law_broad","_law_tall"] []) (T:Txt K mg) (cj:aW P w K mg base 1 "_law_drawn" 3 bZ):aW P w K mg base 2 "_law_picture" 4 jt:=
 dg (k:=1) (g:=qI) Fn hmg hb pP rfl rfl λ cdv A outer s H E hr=>Ka T cj hr
theorem Sy (T:Txt K mg) (cj:aW P w K mg base 1 "_law_drawn" 3 bZ) (lE:aW P w K mg base 2 "_law_picture" 4 jt) (hr:Room 2 (A.deeper (envOfC "_law_some" (defScope gO) s.heap.objs.size f cdv))):c7 (cxOf CX0 P w K mg base ["_law_script","_law_at_here","_law_broad","_law_tall"] "_law_some" (defScope gO) f cdv A outer s H E).nox (defBody gO) wU:=by
 exact (aO (bK (bQ lE hr (by decide) (aj (dv 0) (aj (aH mK (dv 1) aD) (aj (aH mK aD (bQ cj hr (by decide) (aj (dv 0) (aj (dv 1) (aj (dv 2) au))))) (aj (aH mK aD (bQ cj hr (by decide) (aj (dv 0) (aj (aH mK (dv 1) aD) (aj (dv 3) au))))) au)))))))
theorem SJ {f:Addr} {fd:FuncData} (Fn:Fun K "_law_some" "_law_some" gO f fd) (hmg:mg "_law_some" =some (.ref f)) (hb:Binds K fd ["_law_script","_law_at_here","_law_broad","_law_tall"] []) (T:Txt K mg) (cj:aW P w K mg base 1 "_law_drawn" 3 bZ) (lE:aW P w K mg base 2 "_law_picture" 4 jt):aW P w K mg base 3 "_law_some" 4 oE:=
 dg (k:=2) (g:=wU) Fn hmg hb RZ rfl rfl λ cdv A outer s H E hr=>Sy T cj lE hr
theorem ahu (T:Txt K mg) (ji:aW P w K mg base 3 "_law_cost" 3 eY) (cj:aW P w K mg base 1 "_law_drawn" 3 bZ) (uQ:aW P w K mg base 4 "_law_least" 2 ig) (wA:aW P w K mg base 10 "_law_no" 3 pA) (wX:aW P w K mg base 3 "_law_some" 4 oE) (nG:eX P w K mg base 9 "prices" 2 iK) (j7:eX P w K mg base 9 "together" 2 dJ) (hr:Room 10 (A.deeper (envOfC "law" (defScope pQ) s.heap.objs.size f cdv))):c7 (cxOf CX0 P w K mg base ["_law_script","_law_picture_here","_law_many","_law_told","_law_due","_law_odd"] "law" (defScope pQ) f cdv A outer s H E).nox (defBody pQ) aeF:=by
 exact (aJ (bL 1 Dl.nd (bQ wX hr (by decide) (aj (dv 0) (aj aD (aj aD (aj aD au)))))) (aJ (bL 2 Dl.nd (aH bU aD (bQ cj hr (by decide) (aj (dv 0) (aj aD (aj aD au)))))) (aJ (aaZ 3 4 rfl Dl.nd (lu j7 hr (by decide) (aj (dv 1) (aj (dv 2) au))) (bQ uQ hr (by decide) (aj (dv 1) (aj (dv 2) au)))) (aJ (iV (DW.dt (Yw (cL (vV (lq hr)) (tK Qa (dv 3) nU) (tK Qa (dv 4) nU)) (Qj (cL (vV (lq hr)) (tK Qa (dv 3) nU) (tK Ft (dv 2) (aQ cP rfl T.cT PySem.boot_len (aj (bF (dv 1) aD) au))))))) (aO (bK nJ)) d9) (aJ (iV (DW.dt (BZ (cL QC (dv 3) nU) (yP (cL (vV (lq hr)) (aQ (aaX rfl) rfl T.Gi boot_sum (aj (cJ ["_law_seam"] [1] rfl (by kernel_rfl) (by kernel_rfl) (fB (dv 3)) (aR (by decide)) (λ _u _u _u _u nd=>bA 0 nd) (λ _u _u _u _u=>bO) (λ _u _u _u _u=>(bQ ji hr (by decide) (aj (dv 1) (aj yO (aj (dv 0) au)))))) au)) (dv 4))))) (aO (bK nJ)) d9) (aJ (bL 5 Dl.nd (bF (gR (aj aD (aj aD (aj nU (aj nJ (aj yO (aj (d8 (aj aD au)) au))))))) (bQ cj hr (by decide) (aj (dv 0) (aj aD (aj aD au)))))) (aJ (iV (cL (vV (lq hr)) (cJ ["_law_way"] [5,1] rfl (by kernel_rfl) (by kernel_rfl) (cX rfl T.cQ (aj aD au)) (aR (by decide)) (λ _u _u _u _u nd=>bA 0 nd) (λ _u _u _u _u=>bO) (λ _u _u _u _u=>(bQ wA hr (by decide) (aj (dv 0) (aj (dv 2) (aj (dv 1) au)))))) (aH LC (gR (aj (gR (aj nJ (aj nJ au))) au)) aD)) (aO (bK nJ)) d9) (aJ (iV (cL (vV (lq hr)) (cJ ["_law_way"] [5] rfl (by kernel_rfl) (by kernel_rfl) (cX rfl T.cQ (aj aD au)) (aR (by decide)) (λ _u _u _u _u nd=>bA 0 nd) (λ _u _u _u _u=>bO) (λ _u _u _u _u=>(bQ wA hr (by decide) (aj (dv 0) (aj (d8 (aj (d8 (aj aD au)) au)) (aj (dv 1) au)))))) (aH LC (gR (aj (gR (aj nJ (aj nJ au))) au)) aD)) (aO (bK nJ)) d9) (aO (bK (tK Qa (lu nG hr (by decide) (aj (dv 1) (aj aD au))) nU)))))))))))
end
theorem all_mk {l:PySem.W.OpenLaw} {w:World} {K:PySem.W.Frag} {h:Heap} {mg:Str->Option Value} {fa Ds wY wZ uR w6 uT SM xg xq Dt qL pZ Ak Al SN Am Du Dv HF uU qN xr Ao SQ Dw HJ HN HS Aq Dy qO xu ZF:Addr} (X:K.In h) (G:h.Ns mainGlobals mg) (hfa:mg "law" =some (.ref fa))
  {ZG ZJ:Option Addr} {ZK:Array (Option Value)} {ZL ZM ZP ZQ Kd ZR:Value}
  {SX S5:Option Addr} {S6:Array (Option Value)} {S7 S8 S9 Tc Dz Td:Value}
  {Te Tf:Option Addr} {Tg:Array (Option Value)} {Ti Tj Tn Tp DK Tq:Value}
  {Ou Ov:Option Addr} {Ow:Array (Option Value)} {Ox Oz OD OJ BK O5:Value}
  {Tr Tt:Option Addr} {Tv:Array (Option Value)} {Tw Tz TF TJ DN TQ:Value}
  {O6 O7:Option Addr} {O8:Array (Option Value)} {O9 Pa Pb Pg BL Ph:Value}
  {afF afG:Option Addr} {afH:Array (Option Value)} {afI afJ afK afL Yn afM:Value}
  {TV TX:Option Addr} {TY:Array (Option Value)} {T4 T5 T6 T7 DP T8:Value}
  {T9 Ua:Option Addr} {Ub:Array (Option Value)} {Uc Ud Ue Ug DQ Uh:Value}
  {ZS ZV:Option Addr} {ZW:Array (Option Value)} {ZX Z0 Z1 Z4 Ke Z5:Value}
  {Kf Kg:Option Addr} {Kh:Array (Option Value)} {Kl Km Ko Kp wB Kq:Value}
  {HW HX:Option Addr} {HY:Array (Option Value)} {Ia Ib Ie Ih uV Ii:Value}
  {VR V0:Option Addr} {V1:Array (Option Value)} {V2 V3 V4 V5 Gy V6:Value}
  {V7 V8:Option Addr} {V9:Array (Option Value)} {Wa Wb Wc Wd Gz Wf:Value}
  {afN afO:Option Addr} {afP:Array (Option Value)} {afQ afR afS afT Yo afU:Value}
  {Wg Wh:Option Addr} {Wi:Array (Option Value)} {Wj Wk Wm Wn GC Wo:Value}
  {Z6 Z7:Option Addr} {Z8:Array (Option Value)} {Z9 aac aad aae Kr aaf:Value}
  {aag aah:Option Addr} {aai:Array (Option Value)} {aaj aak aal aam Ks aan:Value}
  {ab3 ab4:Option Addr} {ab5:Array (Option Value)} {ab6 ab7 ab8 ab9 NQ acd:Value}
  {Pj Pk:Option Addr} {Pn:Array (Option Value)} {Pq Px Py Pz BP PB:Value}
  {Ku Kv:Option Addr} {Kw:Array (Option Value)} {Ky Kz KC KD wC KH:Value}
  {Ui Uj:Option Addr} {Uk:Array (Option Value)} {Ul Um Uo Uq DR Ur:Value}
  {Wq Wr:Option Addr} {Ws:Array (Option Value)} {Wt Wu Wv Ww GD Wx:Value}
  {afV afW:Option Addr} {afX:Array (Option Value)} {afY afZ af0 af2 Yp af3:Value}
  {aao aap:Option Addr} {aaq:Array (Option Value)} {aar aas aat aau KJ aav:Value}
  {ace acf:Option Addr} {acg:Array (Option Value)} {ach aci acj acn NT aco:Value}
  {acp acq:Option Addr} {acr:Array (Option Value)} {acs acu acv acw NZ acy:Value}
  {acz acA:Option Addr} {acB:Array (Option Value)} {acC acD acE acF N5 acG:Value}
  {Wy Wz:Option Addr} {WD:Array (Option Value)} {WK WL WM WQ GF WR:Value}
  {aaw aax:Option Addr} {aay:Array (Option Value)} {aaz aaA aaB aaC KN aaD:Value}
  {KQ KR:Option Addr} {KY:Array (Option Value)} {KZ K1 K4 K5 wD K6:Value}
  {Us Ut:Option Addr} {Uu:Array (Option Value)} {Uv Uw Ux Uy DX Uz:Value}
  {ahv acH:Option Addr} {ahw:Array (Option Value)} {ahx acI acJ acK UG acL:Value}
  {ahy:Tok} (wu:PySem.W.nsIn K mainGlobals "END" =some (some (.int 1 ahy)))
  {ahz:Tok} (JV:PySem.W.nsIn K mainGlobals "FAR" =some (some (.int 1000000 ahz)))
  {UJ:Tok} (oG:PySem.W.nsIn K mainGlobals "MOST_CELL" =some (some (.int 99 UJ)))
  {UL:Tok} (oH:PySem.W.nsIn K mainGlobals "MOST_LONG" =some (some (.int 20 UL)))
  {Ij:Tok} (jZ:PySem.W.nsIn K mainGlobals "MOST_TOGETHER" =some (some (.int 6 Ij)))
  {ad0:Tok} (qK:PySem.W.nsIn K mainGlobals "START" =some (some (.int 0 ad0)))
  (wz:PySem.W.nsIn K mainGlobals "abs" =some none)
  (Ah:PySem.W.nsIn K mainGlobals "all" =some none)
  (Dm:PySem.W.nsIn K mainGlobals "bool" =some none)
  (eZ:PySem.W.nsIn K mainGlobals "enumerate" =some none)
  (JW:PySem.W.nsIn K mainGlobals "int" =some none)
  (fQ:PySem.W.nsIn K mainGlobals "isinstance" =some none)
  (cT:PySem.W.nsIn K mainGlobals "len" =some none)
  (Dn:PySem.W.nsIn K mainGlobals "list" =some none)
  (sJ:PySem.W.nsIn K mainGlobals "max" =some none)
  (rG:PySem.W.nsIn K mainGlobals "min" =some none)
  (cQ:PySem.W.nsIn K mainGlobals "range" =some none)
  (pR:PySem.W.nsIn K mainGlobals "reversed" =some none)
  (Gi:PySem.W.nsIn K mainGlobals "sum" =some none)
  (iG:PySem.W.nsIn K mainGlobals "tuple" =some none)
  (JX:PySem.W.nsIn K mainGlobals "zip" =some none)
  (JZ:∀d:D,PySem.W.kitOne K (.type (m8 d)) (.type "int")=some (Fz (m8 d)))
  (Dq:∀d:D,PySem.W.kitOne K (.type (m8 d)) (.type "bool")=some (zO (m8 d)))
  (zy:∀d:D,PySem.W.kitOne K (.type (m8 d)) (.type "tuple")=some (vX (m8 d)))
  (J0:∀d:D,PySem.W.kitOne K (.type (m8 d)) (.type "list")=some (Qw (m8 d)))
  {cF:Addr} (j9:PySem.W.nsIn K mainGlobals "NoNumber" =some (some (.ref cF)))
  {bV:Addr} (jo:PySem.W.nsIn K mainGlobals "NoPicture" =some (some (.ref bV)))
  {oR:Addr} (xG:PySem.W.nsIn K mainGlobals "SeamError" =some (some (.ref oR)))
  (Av:PySem.W.excIn K cF adt "ValueError.__new__" =true)
  (xH:PySem.W.findIn K (.ref cF) "__getattribute__" =some (some (.builtin "BaseException.__getattribute__"))) (xJ:PySem.W.findIn K (.ref cF) "__getattr__" =some none) (xK:(PySem.W.clsIn K cF).isSome=true) (xM:PySem.W.findIn K (.ref cF) "__class__" =some (some (.builtin "object.__class__")))
  (xO:PySem.W.specialIn K (.builtin "object.__class__") "__get__" =some (some (.builtin "getset_descriptor.__get__"))) (xP:PySem.W.takesIn K (.builtin "object.__class__")=some true) (xQ:PySem.W.mroIn K cF (.type "object")=some true) (xR:PySem.W.mroIn K cF (.type "BaseException")=some true)
  (mC:PySem.W.exmOne K (.ref cF) (.ref oR)=some true)
  (mV:PySem.W.kitOne K (.ref cF) (.ref cF)=some true)
  (mD:PySem.W.kitOne K (.ref cF) (.ref bV)=some false)
  (xT:PySem.W.excIn K bV adt "ValueError.__new__" =true)
  (uW:PySem.W.findIn K (.ref bV) "__getattribute__" =some (some (.builtin "BaseException.__getattribute__"))) (uX:PySem.W.findIn K (.ref bV) "__getattr__" =some none) (uY:(PySem.W.clsIn K bV).isSome=true) (uZ:PySem.W.findIn K (.ref bV) "__class__" =some (some (.builtin "object.__class__")))
  (u6:PySem.W.specialIn K (.builtin "object.__class__") "__get__" =some (some (.builtin "getset_descriptor.__get__"))) (u9:PySem.W.takesIn K (.builtin "object.__class__")=some true) (vd:PySem.W.mroIn K bV (.type "object")=some true) (vf:PySem.W.mroIn K bV (.type "BaseException")=some true)
  (lF:PySem.W.exmOne K (.ref bV) (.ref oR)=some true)
  (mF:PySem.W.kitOne K (.ref bV) (.ref cF)=some false)
  (lG:PySem.W.kitOne K (.ref bV) (.ref bV)=some true)
  (DY:PySem.W.nsIn K mainGlobals "_law_at" =some (some (.ref Ds))) (Ea:K.lookup Ds=some ⟨ZL,ZG,.func (PySem.W.fnOf "_law_at" "_law_at" (defArgs jR) (defBody jR) (defScope jR) .none ZM ZP ZQ ZJ Kd ZR),ZK⟩) (Eb:PySem.W.codeIn K Kd "_law_at" =true) (Ec:PySem.W.keepIn K (.ref Ds)=true)
  (xU:PySem.W.nsIn K mainGlobals "_law_step" =some (some (.ref wY))) (xV:K.lookup wY=some ⟨S7,SX,.func (PySem.W.fnOf "_law_step" "_law_step" (defArgs gF) (defBody gF) (defScope gF) .none S8 S9 Tc S5 Dz Td),S6⟩) (xW:PySem.W.codeIn K Dz "_law_step" =true) (xX:PySem.W.keepIn K (.ref wY)=true)
  (xY:PySem.W.nsIn K mainGlobals "_law_cost" =some (some (.ref wZ))) (xZ:K.lookup wZ=some ⟨Ti,Te,.func (PySem.W.fnOf "_law_cost" "_law_cost" (defArgs gG) (defBody gG) (defScope gG) .none Tj Tn Tp Tf DK Tq),Tg⟩) (yc:PySem.W.codeIn K DK "_law_cost" =true) (yd:PySem.W.keepIn K (.ref wZ)=true)
  (vg:PySem.W.nsIn K mainGlobals "_law_drawn" =some (some (.ref uR))) (vh:K.lookup uR=some ⟨Ox,Ou,.func (PySem.W.fnOf "_law_drawn" "_law_drawn" (defArgs fH) (defBody fH) (defScope fH) .none Oz OD OJ Ov BK O5),Ow⟩) (vm:PySem.W.codeIn K BK "_law_drawn" =true) (vp:PySem.W.keepIn K (.ref uR)=true)
  (yg:PySem.W.nsIn K mainGlobals "_law_ways" =some (some (.ref w6))) (yh:K.lookup w6=some ⟨Tw,Tr,.func (PySem.W.fnOf "_law_ways" "_law_ways" (defArgs gH) (defBody gH) (defScope gH) .none Tz TF TJ Tt DN TQ),Tv⟩) (yj:PySem.W.codeIn K DN "_law_ways" =true) (yp:PySem.W.keepIn K (.ref w6)=true)
  (vq:PySem.W.nsIn K mainGlobals "_law_least" =some (some (.ref uT))) (vG:K.lookup uT=some ⟨O9,O6,.func (PySem.W.fnOf "_law_least" "_law_least" (defArgs fJ) (defBody fJ) (defScope fJ) .none Pa Pb Pg O7 BL Ph),O8⟩) (vI:PySem.W.codeIn K BL "_law_least" =true) (vJ:PySem.W.keepIn K (.ref uT)=true)
  (UW:PySem.W.nsIn K mainGlobals "near" =some (some (.ref SM))) (U0:K.lookup SM=some ⟨afI,afF,.func (PySem.W.fnOf "near" "near" (defArgs pL) (defBody pL) (defScope pL) .none afJ afK afL afG Yn afM),afH⟩) (U3:PySem.W.codeIn K Yn "near" =true) (U4:PySem.W.keepIn K (.ref SM)=true)
  (yq:PySem.W.nsIn K mainGlobals "node_into" =some (some (.ref xg))) (yt:K.lookup xg=some ⟨T4,TV,.func (PySem.W.fnOf "node_into" "node_into" (defArgs gJ) (defBody gJ) (defScope gJ) .none T5 T6 T7 TX DP T8),TY⟩) (yu:PySem.W.codeIn K DP "node_into" =true) (yw:PySem.W.keepIn K (.ref xg)=true)
  (yx:PySem.W.nsIn K mainGlobals "arcs_down" =some (some (.ref xq))) (yC:K.lookup xq=some ⟨Uc,T9,.func (PySem.W.fnOf "arcs_down" "arcs_down" (defArgs gK) (defBody gK) (defScope gK) .none Ud Ue Ug Ua DQ Uh),Ub⟩) (yD:PySem.W.codeIn K DQ "arcs_down" =true) (yE:PySem.W.keepIn K (.ref xq)=true)
  (Ed:PySem.W.nsIn K mainGlobals "arcs_up" =some (some (.ref Dt))) (Ef:K.lookup Dt=some ⟨ZX,ZS,.func (PySem.W.fnOf "arcs_up" "arcs_up" (defArgs jT) (defBody jT) (defScope jT) .none Z0 Z1 Z4 ZV Ke Z5),ZW⟩) (Eh:PySem.W.codeIn K Ke "arcs_up" =true) (Ei:PySem.W.keepIn K (.ref Dt)=true)
  (qP:PySem.W.nsIn K mainGlobals "change_along" =some (some (.ref qL))) (qQ:K.lookup qL=some ⟨Kl,Kf,.func (PySem.W.fnOf "change_along" "change_along" (defArgs cV) (defBody cV) (defScope cV) .none Km Ko Kp Kg wB Kq),Kh⟩) (qR:PySem.W.codeIn K wB "change_along" =true) (qT:PySem.W.keepIn K (.ref qL)=true)
  (qb:PySem.W.nsIn K mainGlobals "seams_through" =some (some (.ref pZ))) (qd:K.lookup pZ=some ⟨Ia,HW,.func (PySem.W.fnOf "seams_through" "seams_through" (defArgs cY) (defBody cY) (defScope cY) .none Ib Ie Ih HX uV Ii),HY⟩) (qe:PySem.W.codeIn K uV "seams_through" =true) (qj:PySem.W.keepIn K (.ref pZ)=true)
  (Aw:PySem.W.nsIn K mainGlobals "searched" =some (some (.ref Ak))) (Ax:K.lookup Ak=some ⟨V2,VR,.func (PySem.W.fnOf "searched" "searched" (defArgs iY) (defBody iY) (defScope iY) .none V3 V4 V5 V0 Gy V6),V1⟩) (Ay:PySem.W.codeIn K Gy "searched" =true) (Az:PySem.W.keepIn K (.ref Ak)=true)
  (Ba:PySem.W.nsIn K mainGlobals "taken_by" =some (some (.ref Al))) (Bb:K.lookup Al=some ⟨Wa,V7,.func (PySem.W.fnOf "taken_by" "taken_by" (defArgs fL) (defBody fL) (defScope fL) .none Wb Wc Wd V8 Gz Wf),V9⟩) (Bc:PySem.W.codeIn K Gz "taken_by" =true) (Bd:PySem.W.keepIn K (.ref Al)=true)
  (U5:PySem.W.nsIn K mainGlobals "flow" =some (some (.ref SN))) (U6:K.lookup SN=some ⟨afQ,afN,.func (PySem.W.fnOf "flow" "flow" (defArgs pN) (defBody pN) (defScope pN) .none afR afS afT afO Yo afU),afP⟩) (U7:PySem.W.codeIn K Yo "flow" =true) (U8:PySem.W.keepIn K (.ref SN)=true)
  (Bf:PySem.W.nsIn K mainGlobals "is_whole" =some (some (.ref Am))) (Bg:K.lookup Am=some ⟨Wj,Wg,.func (PySem.W.fnOf "is_whole" "is_whole" (defArgs iZ) (defBody iZ) (defScope iZ) .none Wk Wm Wn Wh GC Wo),Wi⟩) (Bh:PySem.W.codeIn K GC "is_whole" =true) (Bj:PySem.W.keepIn K (.ref Am)=true)
  (Ej:PySem.W.nsIn K mainGlobals "is_line" =some (some (.ref Du))) (Ek:K.lookup Du=some ⟨Z9,Z6,.func (PySem.W.fnOf "is_line" "is_line" (defArgs jV) (defBody jV) (defScope jV) .none aac aad aae Z7 Kr aaf),Z8⟩) (El:PySem.W.codeIn K Kr "is_line" =true) (Em:PySem.W.keepIn K (.ref Du)=true)
  (En:PySem.W.nsIn K mainGlobals "is_cell" =some (some (.ref Dv))) (Eo:K.lookup Dv=some ⟨aaj,aag,.func (PySem.W.fnOf "is_cell" "is_cell" (defArgs jW) (defBody jW) (defScope jW) .none aak aal aam aah Ks aan),aai⟩) (Ep:PySem.W.codeIn K Ks "is_cell" =true) (Er:PySem.W.keepIn K (.ref Dv)=true)
  (Ik:PySem.W.nsIn K mainGlobals "is_row" =some (some (.ref HF))) (Il:K.lookup HF=some ⟨ab6,ab3,.func (PySem.W.fnOf "is_row" "is_row" (defArgs lY) (defBody lY) (defScope lY) .none ab7 ab8 ab9 ab4 NQ acd),ab5⟩) (Im:PySem.W.codeIn K NQ "is_row" =true) (Io:PySem.W.keepIn K (.ref HF)=true)
  (vK:PySem.W.nsIn K mainGlobals "is_picture" =some (some (.ref uU))) (vL:K.lookup uU=some ⟨Pq,Pj,.func (PySem.W.fnOf "is_picture" "is_picture" (defArgs fM) (defBody fM) (defScope fM) .none Px Py Pz Pk BP PB),Pn⟩) (vN:PySem.W.codeIn K BP "is_picture" =true) (vO:PySem.W.keepIn K (.ref uU)=true)
  (qU:PySem.W.nsIn K mainGlobals "need_picture" =some (some (.ref qN))) (qW:K.lookup qN=some ⟨Ky,Ku,.func (PySem.W.fnOf "need_picture" "need_picture" (defArgs dN) (defBody dN) (defScope dN) .none Kz KC KD Kv wC KH),Kw⟩) (qX:PySem.W.codeIn K wC "need_picture" =true) (qY:PySem.W.keepIn K (.ref qN)=true)
  (yF:PySem.W.nsIn K mainGlobals "need_many" =some (some (.ref xr))) (yG:K.lookup xr=some ⟨Ul,Ui,.func (PySem.W.fnOf "need_many" "need_many" (defArgs gM) (defBody gM) (defScope gM) .none Um Uo Uq Uj DR Ur),Uk⟩) (yH:PySem.W.codeIn K DR "need_many" =true) (yI:PySem.W.keepIn K (.ref xr)=true)
  (Bk:PySem.W.nsIn K mainGlobals "price_of" =some (some (.ref Ao))) (Bl:K.lookup Ao=some ⟨Wt,Wq,.func (PySem.W.fnOf "price_of" "price_of" (defArgs jd) (defBody jd) (defScope jd) .none Wu Wv Ww Wr GD Wx),Ws⟩) (Bm:PySem.W.codeIn K GD "price_of" =true) (Bo:PySem.W.keepIn K (.ref Ao)=true)
  (U9:PySem.W.nsIn K mainGlobals "gaps" =some (some (.ref SQ))) (Va:K.lookup SQ=some ⟨afY,afV,.func (PySem.W.fnOf "gaps" "gaps" (defArgs pO) (defBody pO) (defScope pO) .none afZ af0 af2 afW Yp af3),afX⟩) (Vb:PySem.W.codeIn K Yp "gaps" =true) (Vc:PySem.W.keepIn K (.ref SQ)=true)
  (Es:PySem.W.nsIn K mainGlobals "size_of" =some (some (.ref Dw))) (Et:K.lookup Dw=some ⟨aar,aao,.func (PySem.W.fnOf "size_of" "size_of" (defArgs jX) (defBody jX) (defScope jX) .none aas aat aau aap KJ aav),aaq⟩) (Eu:PySem.W.codeIn K KJ "size_of" =true) (Ew:PySem.W.keepIn K (.ref Dw)=true)
  (Ir:PySem.W.nsIn K mainGlobals "turned" =some (some (.ref HJ))) (Iu:K.lookup HJ=some ⟨ach,ace,.func (PySem.W.fnOf "turned" "turned" (defArgs lZ) (defBody lZ) (defScope lZ) .none aci acj acn acf NT aco),acg⟩) (Iv:PySem.W.codeIn K NT "turned" =true) (Iw:PySem.W.keepIn K (.ref HJ)=true)
  (Iz:PySem.W.nsIn K mainGlobals "worths" =some (some (.ref HN))) (IK:K.lookup HN=some ⟨acs,acp,.func (PySem.W.fnOf "worths" "worths" (defArgs mj) (defBody mj) (defScope mj) .none acu acv acw acq NZ acy),acr⟩) (IV:PySem.W.codeIn K NZ "worths" =true) (IW:PySem.W.keepIn K (.ref HN)=true)
  (Ja:PySem.W.nsIn K mainGlobals "prices" =some (some (.ref HS))) (Jb:K.lookup HS=some ⟨acC,acz,.func (PySem.W.fnOf "prices" "prices" (defArgs mq) (defBody mq) (defScope mq) .none acD acE acF acA N5 acG),acB⟩) (Jc:PySem.W.codeIn K N5 "prices" =true) (Jd:PySem.W.keepIn K (.ref HS)=true)
  (Bp:PySem.W.nsIn K mainGlobals "together" =some (some (.ref Aq))) (Bq:K.lookup Aq=some ⟨WK,Wy,.func (PySem.W.fnOf "together" "together" (defArgs jg) (defBody jg) (defScope jg) .none WL WM WQ Wz GF WR),WD⟩) (Br:PySem.W.codeIn K GF "together" =true) (Bs:PySem.W.keepIn K (.ref Aq)=true)
  (Ey:PySem.W.nsIn K mainGlobals "_law_no" =some (some (.ref Dy))) (Ez:K.lookup Dy=some ⟨aaz,aaw,.func (PySem.W.fnOf "_law_no" "_law_no" (defArgs jY) (defBody jY) (defScope jY) .none aaA aaB aaC aax KN aaD),aay⟩) (EY:PySem.W.codeIn K KN "_law_no" =true) (Fb:PySem.W.keepIn K (.ref Dy)=true)
  (qZ:PySem.W.nsIn K mainGlobals "_law_picture" =some (some (.ref qO))) (q8:K.lookup qO=some ⟨KZ,KQ,.func (PySem.W.fnOf "_law_picture" "_law_picture" (defArgs dO) (defBody dO) (defScope dO) .none K1 K4 K5 KR wD K6),KY⟩) (q9:PySem.W.codeIn K wD "_law_picture" =true) (rm:PySem.W.keepIn K (.ref qO)=true)
  (yJ:PySem.W.nsIn K mainGlobals "_law_some" =some (some (.ref xu))) (yK:K.lookup xu=some ⟨Uv,Us,.func (PySem.W.fnOf "_law_some" "_law_some" (defArgs gO) (defBody gO) (defScope gO) .none Uw Ux Uy Ut DX Uz),Uu⟩) (yL:PySem.W.codeIn K DX "_law_some" =true) (yM:PySem.W.keepIn K (.ref xu)=true)
  (aaE:PySem.W.nsIn K mainGlobals "law" =some (some (.ref ZF))) (aaF:K.lookup ZF=some ⟨ahx,ahv,.func (PySem.W.fnOf "law" "law" (defArgs pQ) (defBody pQ) (defScope pQ) .none acI acJ acK acH UG acL),ahw⟩) (aaG:PySem.W.codeIn K UG "law" =true) (aaH:PySem.W.keepIn K (.ref ZF)=true)
  :∃fd:FuncData,(∀(s:Shared) (v:Value),BindsTo s fd ⟨[v],[]⟩ [("_law_script",v)])/\∀base:Heap,K.In base->base.Ns mainGlobals mg->FnOk l.prog w K mg base CX0 11 fa fd ["_law_script"] (M9 K 1 Qd):=by
 have e:=hfa.symm.trans (PySem.W.mg_of X G aaE);cases e;have K7:Gk K cF:=⟨xH,xJ,xK,xM,xO,xP,xQ,xR⟩;have GJ:Gk K bV:=⟨uW,uX,uY,uZ,u6,u9,vd,vf⟩;have wW:∀c C',jF c "SeamError" =true->PySem.W.nsIn K mainGlobals c=some (some (.ref C'))->PySem.W.exmOne K (.ref C') (.ref oR)=some true:=by
  intro c C' h1 h2;rcases CP h1 with rfl |rfl
  ·cases jo.symm.trans h2;exact lF
  ·cases j9.symm.trans h2;exact mC
 have pU:∀c C',jF c c=true->PySem.W.nsIn K mainGlobals c=some (some (.ref C'))->Gk K C'/\PySem.W.kitOne K (.ref C') (.ref cF)=some (jF c "NoNumber"):=by
  intro c C' h1 h2;rcases CP h1 with rfl |rfl
  ·cases jo.symm.trans h2;exact⟨GJ,by rw[show jF "NoPicture" "NoNumber" =false from by decide];exact mF⟩
  ·cases j9.symm.trans h2;exact⟨K7,by rw[show jF "NoNumber" "NoNumber" =true from by decide];exact mV⟩
 have oJ:∀c C',jF c c=true->PySem.W.nsIn K mainGlobals c=some (some (.ref C'))->Gk K C'/\PySem.W.kitOne K (.ref C') (.ref bV)=some (jF c "NoPicture"):=by
  intro c C' h1 h2;rcases CP h1 with rfl |rfl
  ·cases jo.symm.trans h2;exact⟨GJ,by rw[show jF "NoPicture" "NoPicture" =true from by decide];exact lG⟩
  ·cases j9.symm.trans h2;exact⟨K7,by rw[show jF "NoNumber" "NoPicture" =false from by decide];exact mD⟩
 have T:Txt K mg:=⟨⟨_,PySem.W.mg_of X G wu⟩,⟨_,PySem.W.mg_of X G JV⟩,⟨_,PySem.W.mg_of X G oG⟩,⟨_,PySem.W.mg_of X G oH⟩,⟨_,PySem.W.mg_of X G jZ⟩,⟨_,PySem.W.mg_of X G qK⟩,PySem.W.mg_none_of X G wz,PySem.W.mg_none_of X G Ah,PySem.W.mg_none_of X G Dm,PySem.W.mg_none_of X G eZ,PySem.W.mg_none_of X G JW,PySem.W.mg_none_of X G fQ,PySem.W.mg_none_of X G cT,PySem.W.mg_none_of X G Dn,PySem.W.mg_none_of X G sJ,PySem.W.mg_none_of X G rG,PySem.W.mg_none_of X G cQ,PySem.W.mg_none_of X G pR,PySem.W.mg_none_of X G Gi,PySem.W.mg_none_of X G iG,PySem.W.mg_none_of X G JX,JZ,Dq,zy,J0,⟨cF,j9,PySem.W.mg_of X G j9,Av⟩,⟨bV,jo,PySem.W.mg_of X G jo,xT⟩,⟨oR,PySem.W.mg_of X G xG,wW⟩,⟨cF,PySem.W.mg_of X G j9,pU⟩,⟨bV,PySem.W.mg_of X G jo,oJ⟩⟩;have N6:=fun_mk (st:=jR) Ea Eb Ec;have GK:=fun_mk (st:=gF) xV xW xX;have GQ:=fun_mk (st:=gG) xZ yc yd;have Fd:=fun_mk (st:=fH) vh vm vp;have GR:=fun_mk (st:=gH) yh yj yp;have Fe:=fun_mk (st:=fJ) vG vI vJ;have acM:=fun_mk (st:=pL) U0 U3 U4;have GX:=fun_mk (st:=gJ) yt yu yw;have GZ:=fun_mk (st:=gK) yC yD yE;have N7:=fun_mk (st:=jT) Ef Eh Ei;have zE:=fun_mk (st:=cV) qQ qR qT;have wF:=fun_mk (st:=cY) qd qe qj;have K8:=fun_mk (st:=iY) Ax Ay Az;have K9:=fun_mk (st:=fL) Bb Bc Bd;have acO:=fun_mk (st:=pN) U6 U7 U8;have La:=fun_mk (st:=iZ) Bg Bh Bj;have N8:=fun_mk (st:=jV) Ek El Em;have Oa:=fun_mk (st:=jW) Eo Ep Er;have Vd:=fun_mk (st:=lY) Il Im Io;have Fg:=fun_mk (st:=fM) vL vN vO;have zF:=fun_mk (st:=dN) qW qX qY;have G3:=fun_mk (st:=gM) yG yH yI;have Lb:=fun_mk (st:=jd) Bl Bm Bo;have acQ:=fun_mk (st:=pO) Va Vb Vc;have Oc:=fun_mk (st:=jX) Et Eu Ew;have Ve:=fun_mk (st:=lZ) Iu Iv Iw;have Vf:=fun_mk (st:=mj) IK IV IW;have Vg:=fun_mk (st:=mq) Jb Jc Jd;have Ld:=fun_mk (st:=jg) Bq Br Bs;have Od:=fun_mk (st:=jY) Ez EY Fb;have zG:=fun_mk (st:=dO) q8 q9 rm;have G5:=fun_mk (st:=gO) yK yL yM;have aeK:=fun_mk (st:=pQ) aaF aaG aaH;have acR:=N6.binds (ps:=["_law_picture_here","_law_x","_law_y"]) λ _u _u _u _u _u _u us hl=>RV hl λ _u _u _u=>rfl;have WT:=GK.binds (ps:=["_law_picture_here","_law_mode","_law_x","_law_y","_law_before"]) λ _u _u _u _u _u _u us hl=>lk5 hl λ _u _u _u _u _u=>rfl;have WW:=GQ.binds (ps:=["_law_picture_here","_law_mode","_law_seam"]) λ _u _u _u _u _u _u us hl=>RV hl λ _u _u _u=>rfl;have Vh:=Fd.binds (ps:=["_law_script","_law_k","_law_many"]) λ _u _u _u _u _u _u us hl=>RV hl λ _u _u _u=>rfl;have WX:=GR.binds (ps:=["_law_broad","_law_tall"]) λ _u _u _u _u _u _u us hl=>BJ hl λ _u _u=>rfl;have Vi:=Fe.binds (ps:=["_law_picture_here","_law_many"]) λ _u _u _u _u _u _u us hl=>BJ hl λ _u _u=>rfl;have ahA:=acM.binds (ps:=["place","wide"]) λ _u _u _u _u _u _u us hl=>BJ hl λ _u _u=>rfl;have WY:=GX.binds (ps:=["x","y","wide"]) λ _u _u _u _u _u _u us hl=>RV hl λ _u _u _u=>rfl;have W0:=GZ.binds (ps:=["costs","taken"]) λ _u _u _u _u _u _u us hl=>BJ hl λ _u _u=>rfl;have acS:=N7.binds (ps:=["costs","seams"]) λ _u _u _u _u _u _u us hl=>BJ hl λ _u _u=>rfl;have MK:=zE.binds (ps:=["taken","ahead"]) λ _u _u _u _u _u _u us hl=>BJ hl λ _u _u=>rfl;have Le:=wF.binds (ps:=["taken","many"]) λ _u _u _u _u _u _u us hl=>BJ hl λ _u _u=>rfl;have aaI:=K8.binds (ps:=["arcs","many"]) λ _u _u _u _u _u _u us hl=>BJ hl λ _u _u=>rfl;have aaJ:=K9.binds (ps:=["seams","wide","high"]) λ _u _u _u _u _u _u us hl=>RV hl λ _u _u _u=>rfl;have ahB:=acO.binds (ps:=["costs","many"]) λ _u _u _u _u _u _u us hl=>BJ hl λ _u _u=>rfl;have aaK:=La.binds (ps:=["thing"]) λ _u _u _u _u _u _u us hl=>Dj hl λ _u=>rfl;have acT:=N8.binds (ps:=["thing"]) λ _u _u _u _u _u _u us hl=>Dj hl λ _u=>rfl;have acU:=Oa.binds (ps:=["thing"]) λ _u _u _u _u _u _u us hl=>Dj hl λ _u=>rfl;have ad1:=Vd.binds (ps:=["thing"]) λ _u _u _u _u _u _u us hl=>Dj hl λ _u=>rfl;have Vj:=Fg.binds (ps:=["thing"]) λ _u _u _u _u _u _u us hl=>Dj hl λ _u=>rfl;have MN:=zF.binds (ps:=["thing"]) λ _u _u _u _u _u _u us hl=>Dj hl λ _u=>rfl;have W2:=G3.binds (ps:=["picture","many"]) λ _u _u _u _u _u _u us hl=>BJ hl λ _u _u=>rfl;have aaL:=Lb.binds (ps:=["cost","least","into"]) λ _u _u _u _u _u _u us hl=>RV hl λ _u _u _u=>rfl
 have ahC:=acQ.binds (ps:=["line"]) λ _u _u _u _u _u _u us hl=>Dj hl λ _u=>rfl;have acV:=Oc.binds (ps:=["picture"]) λ _u _u _u _u _u _u us hl=>Dj hl λ _u=>rfl;have ad2:=Ve.binds (ps:=["picture"]) λ _u _u _u _u _u _u us hl=>Dj hl λ _u=>rfl;have ad3:=Vf.binds (ps:=["picture"]) λ _u _u _u _u _u _u us hl=>Dj hl λ _u=>rfl;have ad4:=Vg.binds (ps:=["picture","many"]) λ _u _u _u _u _u _u us hl=>BJ hl λ _u _u=>rfl;have aaM:=Ld.binds (ps:=["picture","many"]) λ _u _u _u _u _u _u us hl=>BJ hl λ _u _u=>rfl;have acW:=Od.binds (ps:=["_law_way","_law_picture_here","_law_many"]) λ _u _u _u _u _u _u us hl=>RV hl λ _u _u _u=>rfl;have MP:=zG.binds (ps:=["_law_script","_law_at_here","_law_broad","_law_tall"]) λ _u _u _u _u _u _u us hl=>lk4 hl λ _u _u _u _u=>rfl;have W3:=G5.binds (ps:=["_law_script","_law_at_here","_law_broad","_law_tall"]) λ _u _u _u _u _u _u us hl=>lk4 hl λ _u _u _u _u=>rfl;have ajO:=aeK.binds (ps:=["_law_script"]) λ _u _u _u _u _u _u us hl=>Dj hl λ _u=>rfl;refine⟨PySem.W.fnOf "law" "law" (defArgs pQ) (defBody pQ) (defScope pQ) .none acI acJ acK acH UG acL,λ s v=> .of_eq rfl,λ base _u _u=>?_⟩;have lO:aW l.prog w K mg base 1 "_law_at" 3 gZ:=Zn N6 (PySem.W.mg_of X G DY) acR T;have oK:aW l.prog w K mg base 2 "_law_step" 5 mO:=R5 GK (PySem.W.mg_of X G xU) WT T lO;have ji:aW l.prog w K mg base 3 "_law_cost" 3 eY:=R7 GQ (PySem.W.mg_of X G xY) WW T oK;have cj:aW l.prog w K mg base 1 "_law_drawn" 3 bZ:=Ol Fd (PySem.W.mg_of X G vg) Vh T;have oM:aW l.prog w K mg base 1 "_law_ways" 2 mQ:=R9 GR (PySem.W.mg_of X G yg) WX T;have uQ:aW l.prog w K mg base 4 "_law_least" 2 ig:=Oo Fe (PySem.W.mg_of X G vq) Vi T ji oM;have Dr:aW l.prog w K mg base 1 "near" 2 zj:=afA acM (PySem.W.mg_of X G UW) ahA T;have cB:aW l.prog w K mg base 1 "node_into" 3 cO:=Sg GX (PySem.W.mg_of X G yq) WY T;have oN:aW l.prog w K mg base 2 "arcs_down" 2 mR:=Ss GZ (PySem.W.mg_of X G yx) W0 T Dr cB;have rR:aW l.prog w K mg base 2 "arcs_up" 2 o9:=Zr N7 (PySem.W.mg_of X G Ed) acS T cB;have lD:Ra l.prog w K mg base 1 "change_along" dI 6:=J6 zE (PySem.W.mg_of X G qP) MK T;have j5:aW l.prog w K mg base 1 "seams_through" 2 iz:=HD wF (PySem.W.mg_of X G qb) Le T;have pW:aW l.prog w K mg base 1 "searched" 2 nO:=Vu K8 (PySem.W.mg_of X G Aw) aaI T;have pX:Q5 l.prog w K mg base 1 "taken_by" 3 nP:=Vw K9 (PySem.W.mg_of X G Ba) aaJ T;have oO:aW l.prog w K mg base 3 "flow" 2 oA:=afC acO (PySem.W.mg_of X G U5) ahB T oN rR lD j5 pW pX;have gP:aW l.prog w K mg base 1 "is_whole" 1 gD:=Vy La (PySem.W.mg_of X G Bf) aaK T;have jl:aW l.prog w K mg base 1 "is_line" 1 jh:=Zu N8 (PySem.W.mg_of X G Ej) acT T;have rT:aW l.prog w K mg base 2 "is_cell" 1 pq:=Zw Oa (PySem.W.mg_of X G En) acU T gP;have uO:aW l.prog w K mg base 3 "is_row" 1 qD:=abW Vd (PySem.W.mg_of X G Ik) ad1 T rT jl;have nF:aW l.prog w K mg base 4 "is_picture" 1 jG:=Ot Fg (PySem.W.mg_of X G vK) Vj T jl uO;have cW:eX l.prog w K mg base 5 "need_picture" 1 cU:=J8 zF (PySem.W.mg_of X G qU) MN T nF;have fj:eX l.prog w K mg base 6 "need_many" 2 dY:=Sw G3 (PySem.W.mg_of X G yF) W2 T gP cW;have pY:aW l.prog w K mg base 1 "price_of" 3 pK:=VF Lb (PySem.W.mg_of X G Bk) aaL T;have zB:aW l.prog w K mg base 1 "gaps" 1 uG:=afE acQ (PySem.W.mg_of X G U9) ahC T;have jm:eX l.prog w K mg base 6 "size_of" 1 jQ:=Zy Oc (PySem.W.mg_of X G Es) acV T cW;have uP:eX l.prog w K mg base 7 "turned" 1 qH:=abY Ve (PySem.W.mg_of X G Ir) ad2 T jm;have kO:eX l.prog w K mg base 8 "worths" 1 lX:=ab0 Vf (PySem.W.mg_of X G Iz) ad3 T zB jm uP;have nG:eX l.prog w K mg base 9 "prices" 2 iK:=ab2 Vg (PySem.W.mg_of X G Ja) ad4 T oO fj cB pY kO;have j7:eX l.prog w K mg base 9 "together" 2 dJ:=VH Ld (PySem.W.mg_of X G Bp) aaM T oO fj kO;have wA:aW l.prog w K mg base 10 "_law_no" 3 pA:=ZD Od (PySem.W.mg_of X G Ey) acW T nG j7;have lE:aW l.prog w K mg base 2 "_law_picture" 4 jt:=Kc zG (PySem.W.mg_of X G qZ) MP T cj;have wX:aW l.prog w K mg base 3 "_law_some" 4 oE:=SJ G5 (PySem.W.mg_of X G yJ) W3 T cj lE;exact fnD (k:=10) aeK Dl rfl rfl (λ cdv A outer s H E hr=>ahu T ji cj uQ wA wX nG j7 hr) λ ds d _u e=>e
end jP
namespace jP
open PySem PySem.Spec L2 Pu
theorem walk {l:PySem.W.OpenLaw} {q:Program} {loose:List Str} {XP:(Str->Option Value)->Heap->Prop} {YP:World->Heap->Prop} {d:DefRec} {K:Params->PySem.W.Frag} (hn:l.most=some 63) (hdf:d.params.defaults=[])
  (hY:∀(w:World) (h:Heap),YP w h->(K w.params).In h)
  (F:∀(w:World) (mg:Str->Option Value) (fa:Addr) (h:Heap),(K w.params).In h->h.Ns mainGlobals mg->mg d.name=some (.ref fa)->
   ∃fd:FuncData,(∀(s:Shared) (u:Value),BindsTo s fd ⟨[u],[]⟩ [("_law_script",u)])/\∀base:Heap,(K w.params).In base->base.Ns mainGlobals mg->FnOk l.prog w (K w.params) mg base CX0 11 fa fd ["_law_script"] (M9 (K w.params) 1 Qd)):
  PySem.W.WalkO q loose XP YP l.row.toRowW d [] (λ f vs=>PySem.call f vs):=
 L2.walk_of (n:=63) (k:=11) (x:= "_law_script") (CX:=λ _u=>CX0) (sp:=λ w=>M9 (K w.params) 1 Qd) hn (by decide) hdf ⟨rfl,by decide,by decide⟩ hY F (λ _u _u a ns hl _u hS=>sp_law hS (adZ ns hl)) λ _u _u _u _u _u z=>z
end jP
open PySem PySem.W PyProof.Rows
set_option bootstrap.genMatcherCode true
set_option compiler.extract_closed true
set_option maxRecDepth 100000 in
set_option maxHeartbeats 0 in
theorem PySem.Challenge.cw_seamhall_k45_together_holds : PySem.Challenge.rw_seamhall_k45_together.Holds := by
 w_on;o_law;k_head;(case hw=>w_witness2)
 k_fill
 refine jP.walk (l:=PySem.Challenge.rw_seamhall_k45_together) rfl rfl (λ w h Y=>PySem.W.kIn_of Y) ?F
 case F=>
  intro w mg fa h KX G hmg
  refine' jP.all_mk KX G hmg ?wu ?JV ?oG ?oH ?jZ ?qK ?wz ?Ah ?Dm ?eZ ?JW ?fQ ?cT ?Dn ?sJ ?rG ?cQ ?pR ?Gi ?iG ?JX ?JZ ?Dq ?zy ?J0 ?j9 ?jo ?xG ?Av ?xH ?xJ ?xK ?xM ?xO ?xP ?xQ ?xR ?mC ?mV ?mD ?xT ?uW ?uX ?uY ?uZ ?u6 ?u9 ?vd ?vf ?lF ?mF ?lG ?DY ?Ea ?Eb ?Ec ?xU ?xV ?xW ?xX ?xY ?xZ ?yc ?yd ?vg ?vh ?vm ?vp ?yg ?yh ?yj ?yp ?vq ?vG ?vI ?vJ ?UW ?U0 ?U3 ?U4 ?yq ?yt ?yu ?yw ?yx ?yC ?yD ?yE ?Ed ?Ef ?Eh ?Ei ?qP ?qQ ?qR ?qT ?qb ?qd ?qe ?qj ?Aw ?Ax ?Ay ?Az ?Ba ?Bb ?Bc ?Bd ?U5 ?U6 ?U7 ?U8 ?Bf ?Bg ?Bh ?Bj ?Ej ?Ek ?El ?Em ?En ?Eo ?Ep ?Er ?Ik ?Il ?Im ?Io ?vK ?vL ?vN ?vO ?qU ?qW ?qX ?qY ?yF ?yG ?yH ?yI ?Bk ?Bl ?Bm ?Bo ?U9 ?Va ?Vb ?Vc ?Es ?Et ?Eu ?Ew ?Ir ?Iu ?Iv ?Iw ?Iz ?IK ?IV ?IW ?Ja ?Jb ?Jc ?Jd ?Bp ?Bq ?Br ?Bs ?Ey ?Ez ?EY ?Fb ?qZ ?q8 ?q9 ?rm ?yJ ?yK ?yL ?yM ?aaE ?aaF ?aaG ?aaH
  (case wu=>k_is)
  (case JV=>k_is)
  (case oG=>k_is)
  (case oH=>k_is)
  (case jZ=>k_is)
  (case qK=>k_is)
  (case wz=>k_is)
  (case Ah=>k_is)
  (case Dm=>k_is)
  (case eZ=>k_is)
  (case JW=>k_is)
  (case fQ=>k_is)
  (case cT=>k_is)
  (case Dn=>k_is)
  (case sJ=>k_is)
  (case rG=>k_is)
  (case cQ=>k_is)
  (case pR=>k_is)
  (case Gi=>k_is)
  (case iG=>k_is)
  (case JX=>k_is)
  (case JZ=>intro d;cases d;(show PySem.W.kitOne _ (Value.type "NoneType") (Value.type "int")=some false);kit_is;(show PySem.W.kitOne _ (Value.type "bool") (Value.type "int")=some true);kit_is;(show PySem.W.kitOne _ (Value.type "int") (Value.type "int")=some true);kit_is;(show PySem.W.kitOne _ (Value.type "str") (Value.type "int")=some false);kit_is;(show PySem.W.kitOne _ (Value.type "tuple") (Value.type "int")=some false);kit_is;(show PySem.W.kitOne _ (Value.type "list") (Value.type "int")=some false);kit_is)
  (case Dq=>intro d;cases d;(show PySem.W.kitOne _ (Value.type "NoneType") (Value.type "bool")=some false);kit_is;(show PySem.W.kitOne _ (Value.type "bool") (Value.type "bool")=some true);kit_is;(show PySem.W.kitOne _ (Value.type "int") (Value.type "bool")=some false);kit_is;(show PySem.W.kitOne _ (Value.type "str") (Value.type "bool")=some false);kit_is;(show PySem.W.kitOne _ (Value.type "tuple") (Value.type "bool")=some false);kit_is;(show PySem.W.kitOne _ (Value.type "list") (Value.type "bool")=some false);kit_is)
  (case zy=>intro d;cases d;(show PySem.W.kitOne _ (Value.type "NoneType") (Value.type "tuple")=some false);kit_is;(show PySem.W.kitOne _ (Value.type "bool") (Value.type "tuple")=some false);kit_is;(show PySem.W.kitOne _ (Value.type "int") (Value.type "tuple")=some false);kit_is;(show PySem.W.kitOne _ (Value.type "str") (Value.type "tuple")=some false);kit_is;(show PySem.W.kitOne _ (Value.type "tuple") (Value.type "tuple")=some true);kit_is;(show PySem.W.kitOne _ (Value.type "list") (Value.type "tuple")=some false);kit_is)
  (case J0=>intro d;cases d;(show PySem.W.kitOne _ (Value.type "NoneType") (Value.type "list")=some false);kit_is;(show PySem.W.kitOne _ (Value.type "bool") (Value.type "list")=some false);kit_is;(show PySem.W.kitOne _ (Value.type "int") (Value.type "list")=some false);kit_is;(show PySem.W.kitOne _ (Value.type "str") (Value.type "list")=some false);kit_is;(show PySem.W.kitOne _ (Value.type "tuple") (Value.type "list")=some false);kit_is;(show PySem.W.kitOne _ (Value.type "list") (Value.type "list")=some true);kit_is)
  (case j9=>k_is)
  (case jo=>k_is)
  (case xG=>k_is)
  (case Av=>k_exc)
  (case xH=>first |k_is |kernel_rfl)
  (case xJ=>first |k_is |kernel_rfl)
  (case xK=>first |k_is |kernel_rfl)
  (case xM=>first |k_is |kernel_rfl)
  (case xO=>first |k_is |kernel_rfl)
  (case xP=>first |k_is |kernel_rfl)
  (case xQ=>first |k_is |kernel_rfl)
  (case xR=>first |k_is |kernel_rfl)
  (case mC=>first |k_is |kernel_rfl)
  (case mV=>kit_is)
  (case mD=>kit_is)
  (case xT=>k_exc)
  (case uW=>first |k_is |kernel_rfl)
  (case uX=>first |k_is |kernel_rfl)
  (case uY=>first |k_is |kernel_rfl)
  (case uZ=>first |k_is |kernel_rfl)
  (case u6=>first |k_is |kernel_rfl)
  (case u9=>first |k_is |kernel_rfl)
  (case vd=>first |k_is |kernel_rfl)
  (case vf=>first |k_is |kernel_rfl)
  (case lF=>first |k_is |kernel_rfl)
  (case mF=>kit_is)
  (case lG=>kit_is)
  (case DY=>k_is)
  (case Ea=>k_is)
  (case Eb=>k_is)
  (case Ec=>k_is)
  (case xU=>k_is)
  (case xV=>k_is)
  (case xW=>k_is)
  (case xX=>k_is)
  (case xY=>k_is)
  (case xZ=>k_is)
  (case yc=>k_is)
  (case yd=>k_is)
  (case vg=>k_is)
  (case vh=>k_is)
  (case vm=>k_is)
  (case vp=>k_is)
  (case yg=>k_is)
  (case yh=>k_is)
  (case yj=>k_is)
  (case yp=>k_is)
  (case vq=>k_is)
  (case vG=>k_is)
  (case vI=>k_is)
  (case vJ=>k_is)
  (case UW=>k_is)
  (case U0=>k_is)
  (case U3=>k_is)
  (case U4=>k_is)
  (case yq=>k_is)
  (case yt=>k_is)
  (case yu=>k_is)
  (case yw=>k_is)
  (case yx=>k_is)
  (case yC=>k_is)
  (case yD=>k_is)
  (case yE=>k_is)
  (case Ed=>k_is)
  (case Ef=>k_is)
  (case Eh=>k_is)
  (case Ei=>k_is)
  (case qP=>k_is)
  (case qQ=>k_is)
  (case qR=>k_is)
  (case qT=>k_is)
  (case qb=>k_is)
  (case qd=>k_is)
  (case qe=>k_is)
  (case qj=>k_is)
  (case Aw=>k_is)
  (case Ax=>k_is)
  (case Ay=>k_is)
  (case Az=>k_is)
  (case Ba=>k_is)
  (case Bb=>k_is)
  (case Bc=>k_is)
  (case Bd=>k_is)
  (case U5=>k_is)
  (case U6=>k_is)
  (case U7=>k_is)
  (case U8=>k_is)
  (case Bf=>k_is)
  (case Bg=>k_is)
  (case Bh=>k_is)
  (case Bj=>k_is)
  (case Ej=>k_is)
  (case Ek=>k_is)
  (case El=>k_is)
  (case Em=>k_is)
  (case En=>k_is)
  (case Eo=>k_is)
  (case Ep=>k_is)
  (case Er=>k_is)
  (case Ik=>k_is)
  (case Il=>k_is)
  (case Im=>k_is)
  (case Io=>k_is)
  (case vK=>k_is)
  (case vL=>k_is)
  (case vN=>k_is)
  (case vO=>k_is)
  (case qU=>k_is)
  (case qW=>k_is)
  (case qX=>k_is)
  (case qY=>k_is)
  (case yF=>k_is)
  (case yG=>k_is)
  (case yH=>k_is)
  (case yI=>k_is)
  (case Bk=>k_is)
  (case Bl=>k_is)
  (case Bm=>k_is)
  (case Bo=>k_is)
  (case U9=>k_is)
  (case Va=>k_is)
  (case Vb=>k_is)
  (case Vc=>k_is)
  (case Es=>k_is)
  (case Et=>k_is)
  (case Eu=>k_is)
  (case Ew=>k_is)
  (case Ir=>k_is)
  (case Iu=>k_is)
  (case Iv=>k_is)
  (case Iw=>k_is)
  (case Iz=>k_is)
  (case IK=>k_is)
  (case IV=>k_is)
  (case IW=>k_is)
  (case Ja=>k_is)
  (case Jb=>k_is)
  (case Jc=>k_is)
  (case Jd=>k_is)
  (case Bp=>k_is)
  (case Bq=>k_is)
  (case Br=>k_is)
  (case Bs=>k_is)
  (case Ey=>k_is)
  (case Ez=>k_is)
  (case EY=>k_is)
  (case Fb=>k_is)
  (case qZ=>k_is)
  (case q8=>k_is)
  (case q9=>k_is)
  (case rm=>k_is)
  (case yJ=>k_is)
  (case yK=>k_is)
  (case yL=>k_is)
  (case yM=>k_is)
  (case aaE=>k_is)
  (case aaF=>k_is)
  (case aaG=>k_is)
  (case aaH=>k_is)
